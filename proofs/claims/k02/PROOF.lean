import PyProof.Rows.All
import Wide.All
import OpenK.AllK
import Wide.FinOn
import PyProof.EqAt
import PyProof.EqKinds
import PyProof.TupleCall
import KE.BitLaws
import KE.IntBitsLaws
import KE.IntTextLaws
import KE.KDictSum
import KE.KRevSl
import KE.KSuper
import PyProof.InstStoreFacts
import PyProof.ListRange
import PyProof.MaxThree
import PyProof.Rows.FStr
import PyProof.Rows.StrSplitCount
import PyProof.StrLawsAffix
import PyProof.StrLawsChain
import PyProof.StrLawsIn
import PyProof.StrReplace2
import PySem.Challenge.RW_laidround_k02_texts_of_no_spirals
set_option Elab.async false
set_option linter.all false
set_option maxRecDepth 100000
namespace L2
open PySem PySem.Spec PyProof.Rows
abbrev Key := Sum Int Str
def keyIs : Key → Value → Bool
  | .inl k, v => Value.isInt k v
  | .inr x, v => Value.isStrOf x v
def keyH (w : World) : Key → Int
  | .inl k => hashInt k
  | .inr x => hashStr w x
theorem keyIs_shape : ∀ {k : Key} {v : Value}, keyIs k v = true → (∃ i t, k = Sum.inl i ∧ v = Value.int i t) ∨ (∃ x t, k = Sum.inr x ∧ v = Value.str x t)
  | .inl i, v, h => by
    obtain ⟨t, e⟩ := Value.isInt_shape (k := i) (v := v) h
    exact .inl ⟨i, t, rfl, e⟩
  | .inr x, v, h => by
    obtain ⟨t, e⟩ := Value.isStrOf_shape (x := x) (v := v) h
    exact .inr ⟨x, t, rfl, e⟩
theorem keyIs_int (i : Int) (t : Tok) : keyIs (.inl i) (.int i t) = true := by simp [keyIs, Value.isInt]
theorem keyIs_str (x : Str) (t : Tok) : keyIs (.inr x) (.str x t) = true := by simp [keyIs, Value.isStrOf]
theorem key_ll (a b : Int) : decide ((Sum.inl a : Key) = Sum.inl b) = (a == b) := by
  by_cases e : a = b
  · subst e; simp
  · have h : ¬ (Sum.inl a : Key) = Sum.inl b := fun q => e (Sum.inl.inj q)
    rw [decide_eq_false h]
    exact (beq_eq_false_iff_ne.mpr e).symm
theorem key_rr (a b : Str) : decide ((Sum.inr a : Key) = Sum.inr b) = decide (a = b) := by
  by_cases e : a = b
  · subst e; simp
  · have h : ¬ (Sum.inr a : Key) = Sum.inr b := fun q => e (Sum.inr.inj q)
    rw [decide_eq_false h, decide_eq_false e]
theorem key_lr (a : Int) (b : Str) : decide ((Sum.inl a : Key) = Sum.inr b) = false := decide_eq_false (fun q => nomatch q)
theorem key_rl (a : Str) (b : Int) : decide ((Sum.inr a : Key) = Sum.inl b) = false := decide_eq_false (fun q => nomatch q)
def mixKind (prog : Program) (w : World) : PySem.KeyKind prog w Key where
  is := keyIs
  hash := keyH w
  inj := fun v a b ha hb => by
    rcases keyIs_shape ha with ⟨i, t, rfl, rfl⟩ | ⟨x, t, rfl, rfl⟩
    · rcases keyIs_shape hb with ⟨j, u, rfl, e⟩ | ⟨y, u, rfl, e⟩
      · injection e with e1 _; rw [e1]
      · exact nomatch e
    · rcases keyIs_shape hb with ⟨j, u, rfl, e⟩ | ⟨y, u, rfl, e⟩
      · exact nomatch e
      · injection e with e1 _; rw [e1]
  byValue := fun k v h => by
    rcases keyIs_shape h with ⟨i, t, rfl, rfl⟩ | ⟨x, t, rfl, rfl⟩ <;> rfl
  pyHash := fun hv h => by
    rcases keyIs_shape hv with ⟨i, t, rfl, rfl⟩ | ⟨x, t, rfl, rfl⟩
    · exact wpAny_pyHash_int h
    · exact wpAny_pyHash_str h
  eqBool := fun hu hv h => by
    rcases keyIs_shape hu with ⟨i, t, rfl, rfl⟩ | ⟨x, t, rfl, rfl⟩
    · rcases keyIs_shape hv with ⟨j, u, rfl, rfl⟩ | ⟨y, u, rfl, rfl⟩
      · rw [key_ll] at h; exact wpAny_eqBool_int h
      · rw [key_lr] at h; exact SeqAt.EqAt.int_str i t y u _ _ _ _ h
    · rcases keyIs_shape hv with ⟨j, u, rfl, rfl⟩ | ⟨y, u, rfl, rfl⟩
      · rw [key_rl] at h; exact SeqAt.EqAt.str_int x t j u _ _ _ _ h
      · rw [key_rr] at h; exact wpAny_eqBool_str h
  «strs» := fun k x t v h => by
    rcases keyIs_shape h with ⟨i, u, rfl, e⟩ | ⟨y, u, rfl, e⟩
    · exact nomatch e
    · injection e with e1 _
      subst e1
      cases v <;> rfl
theorem mixKind_int (prog : Program) (w : World) (i : Int) (t : Tok) : (mixKind prog w).is (.inl i) (.int i t) = true := keyIs_int i t
theorem mixKind_str (prog : Program) (w : World) (x : Str) (t : Tok) : (mixKind prog w).is (.inr x) (.str x t) = true := keyIs_str x t
end L2
namespace L2
open PySem PySem.Spec PyProof.Rows
inductive V where
  | non | bl (b : Bool) | int (i : Int) | str (x : Str) | byt (b : Array UInt8) | flt (b : UInt64) | ref (a : Addr) | ty (n : String)
  deriving DecidableEq
def RelV : V → Value → Prop
  | .non, u => u = Value.none
  | .bl b, u => u = Value.bool b
  | .int i, u => ∃ t, u = Value.int i t
  | .str x, u => ∃ t, u = Value.str x t
  | .byt b, u => ∃ t, u = Value.bytes b t
  | .flt b, u => ∃ t, u = Value.float b t
  | .ref a, u => u = Value.ref a
  | .ty n, u => u = Value.type n
abbrev Vals : List V → List Value → Prop := Paired RelV
theorem Vals.length {xs : List V} {us : List Value} (r : Vals xs us) : xs.length = us.length := Paired.length r
theorem Vals.get : ∀ {xs : List V} {us : List Value} {i : Nat} {x : V}, Vals xs us → xs[i]? = some x → ∃ u, us[i]? = some u ∧ RelV x u
  | _, _, _, _, .nil, e => by simp at e
  | _, _, 0, _, .cons r _, e => by simp at e; subst e; exact ⟨_, rfl, r⟩
  | _, _, i + 1, x, .cons _ t, e => by
    obtain ⟨u, h1, h2⟩ := Vals.get (i := i) (x := x) t (by simpa using e)
    exact ⟨u, by simpa using h1, h2⟩
theorem Vals.set {x : V} {u : Value} (r : RelV x u) : ∀ {xs : List V} {us : List Value} (i : Nat), Vals xs us → Vals (xs.set i x) (us.set i u)
  | _, _, _, .nil => .nil
  | _, _, 0, .cons _ t => .cons r t
  | _, _, i + 1, .cons q t => .cons q (Vals.set r i t)
theorem Vals.append : ∀ {xs ys : List V} {us ws : List Value}, Vals xs us → Vals ys ws → Vals (xs ++ ys) (us ++ ws)
  | _, _, _, _, .nil, s => s
  | _, _, _, _, .cons r t, s => .cons r (Vals.append t s)
theorem Vals.take : ∀ {xs : List V} {us : List Value} (n : Nat), Vals xs us → Vals (xs.take n) (us.take n)
  | _, _, 0, _ => .nil
  | _, _, _ + 1, .nil => .nil
  | _, _, n + 1, .cons r t => .cons r (Vals.take n t)
theorem Vals.drop : ∀ {xs : List V} {us : List Value} (n : Nat), Vals xs us → Vals (xs.drop n) (us.drop n)
  | _, _, 0, r => r
  | _, _, _ + 1, .nil => .nil
  | _, _, n + 1, .cons _ t => Vals.drop n t
def RelO : Option V → Option Value → Prop
  | some v, some u => RelV v u
  | none, none => True
  | _, _ => False
def KV {κ : Type} : List (κ × V) → List (κ × Value) → Prop := Paired fun (p : κ × V) (q : κ × Value) => p.1 = q.1 ∧ RelV p.2 q.2
def kV : Key → V
  | .inl i => .int i
  | .inr x => .str x
inductive HO where
  | lst (xs : List V)
  | tup (xs : List V)
  | dK (kvs : List (Key × V)) | dT (kvs : List (List Key × V))
  | set (S : Int → Bool) (n : Nat)
  | ins (C dx : Addr) (fs : List (Str × V))
  | own (x : Addr)
  | xd (fs : List (Str × V))
  | met (f x : Addr)
  | rng (lo hi : Int)
  | frz (o : Obj) (u : HO)
  | tbl (ps : Array Value)
  | ext (φ : Heap → Prop)
abbrev Hp := Addr → Option HO
def upd (H : Hp) (a : Addr) (o : HO) : Hp := fun b => if b = a then some o else H b
theorem upd_same {H : Hp} {a : Addr} {o : HO} : upd H a o a = some o := by unfold upd; rw [if_pos rfl]
theorem upd_ne {H : Hp} {a b : Addr} {o : HO} (h : b ≠ a) : upd H a o b = H b := by unfold upd; rw [if_neg h]
theorem ne_of_none {H : Hp} {a b : Addr} {o : HO} (h : H a = some o) (h' : H b = none) : a ≠ b := by
  intro e; subst e; rw [h] at h'; cases h'
section
variable (P : Program) (w : World)
def ObjOk (H : Hp) (h : Heap) (a : Addr) : HO → Prop
  | .lst xs => xs.length ≤ sizeLine ∧ ∃ (its : List Value) (n : Nat), Vals xs its ∧ h.get? a = some { cls := .type "list", data := .seq its.toArray n }
  | .tup xs => xs.length ≤ sizeLine ∧ ∃ its : List Value, Vals xs its ∧ IsTup h a its.toArray
  | .dK kvs => kvs.length ≤ sizeLine ∧ (a == sysModules) = false ∧ ∃ vs, KV kvs vs ∧ h.DictOf (mixKind P w) a vs
  | .dT kvs => kvs.length ≤ sizeLine ∧ (a == sysModules) = false ∧ ∃ xs : List (List Key × Addr × Value),
      Paired (fun (p : List Key × V) (q : List Key × Addr × Value) => p.1 = q.1 ∧ H q.2.1 = some (.tup (p.1.map kV)) ∧ RelV p.2 q.2.2) kvs xs ∧
      ∃ o es ep, h.get? a = some o ∧ o.ExactDict ∧ o.data = .dict es ep ∧ es.toList = xs.map (entryOfKey (tupleKind (mixKind P w))) ∧ (xs.map (·.1)).Nodup
  | .set S n => h.SetOf (intKind P w) a S n
  | .ins C dx fs => H dx = some (.own a) ∧ fs.length ≤ 1000 ∧ dx ≠ a ∧ h.get? a = some (PySem.W.instObj C dx) ∧
      ∃ mA, h.Ns1 dx mA ∧ (∀ f, RelO (fs.lookup f) (mA f)) ∧ PySem.Within mA (fs.map (·.1))
  | .own _ => ∃ o, h.get? a = some o
  | .xd fs => ∃ mA, h.Ns1 a mA ∧ ∀ f, RelO (fs.lookup f) (mA f)
  | .rng lo hi => ∃ t u v, h.get? a = some { cls := .type "range", data := .fields #[.int lo t, .int hi u, .int 1 v] }
  | .frz o u => h.get? a = some o ∧ ObjOk H h a u
  | .tbl ps => h.get? a = some { cls := .none, data := .fields ps }
  | .met f x => h.get? a = some (PySem.W.methodObj (.ref f) (.ref x))
  | .ext φ => φ h ∧ (∃ o, h.get? a = some o) ∧ ∀ h1 h2 : Heap, φ h1 → (∀ o, h1.get? a = some o → h2.get? a = some o) → φ h2
def HOk (H : Hp) (h : Heap) : Prop := ∀ a o, H a = some o → ObjOk P w H h a o
end
section
variable {P : Program} {w : World} {H H' : Hp} {h h' : Heap} {a : Addr} {o : HO}
theorem ObjOk.lt (x : ObjOk P w H h a o) : a < h.objs.size := by
  cases o with
  | lst xs => obtain ⟨_, _, _, _, e⟩ := x; exact Heap.lt_size e
  | tup xs => obtain ⟨_, _, _, p⟩ := x; exact p.lt
  | dK kvs => obtain ⟨_, _, _, _, o, _, _, e, _⟩ := x; exact Heap.lt_size e
  | dT kvs => obtain ⟨_, _, _, _, o, _, _, e, _⟩ := x; exact Heap.lt_size e
  | set S n => obtain ⟨o, _, _, _, e, _⟩ := x; exact Heap.lt_size e
  | ins C dx fs => obtain ⟨_, _, _, e, _⟩ := x; exact Heap.lt_size e
  | own y => obtain ⟨_, e⟩ := x; exact Heap.lt_size e
  | xd fs => obtain ⟨_, ⟨_, _, _, e, _⟩, _⟩ := x; exact Heap.lt_size e
  | rng lo hi => obtain ⟨_, _, _, e⟩ := x; exact Heap.lt_size e
  | frz ob u => obtain ⟨e, _⟩ := x; exact Heap.lt_size e
  | tbl ps => exact Heap.lt_size (show h.get? a = some _ from x)
  | met f y => exact Heap.lt_size (show h.get? a = some _ from x)
  | ext φ => obtain ⟨_, ⟨_, e⟩, _⟩ := x; exact Heap.lt_size e
theorem Paired.mapP {α β : Type} {F G : α → β → Prop} : ∀ {l₁ : List α} {l₂ : List β}, Paired F l₁ l₂ → (∀ a b, F a b → G a b) → Paired G l₁ l₂
  | _, _, .nil, _ => .nil
  | _, _, .cons r t, f => .cons (f _ _ r) (Paired.mapP t f)
theorem ObjOk.stay (x : ObjOk P w H h a o) (k : ∀ b u, (b = a ∨ H b = some (.own a)) → h.get? b = some u → h'.get? b = some u)
    (ho : ∀ b, H b = some (.own a) → H' b = some (.own a)) (ht : ∀ b xs, H b = some (.tup xs) → H' b = some (.tup xs)) : ObjOk P w H' h' a o := by
  induction o with
  | lst xs => obtain ⟨z, its, n, r, e⟩ := x; exact ⟨z, its, n, r, k _ _ (.inl rfl) e⟩
  | tup xs => obtain ⟨z, its, r, ob, e, c⟩ := x; exact ⟨z, its, r, ob, k _ _ (.inl rfl) e, c⟩
  | dK kvs => obtain ⟨z, y, vs, r, ob, es, ep, e, c⟩ := x; exact ⟨z, y, vs, r, ob, es, ep, k _ _ (.inl rfl) e, c⟩
  | dT kvs =>
    obtain ⟨z, y, xs, r, ob, es, ep, e, c⟩ := x
    exact ⟨z, y, xs, Paired.mapP r fun p q z => ⟨z.1, ht _ _ z.2.1, z.2.2⟩, ob, es, ep, k _ _ (.inl rfl) e, c⟩
  | set S n => obtain ⟨ob, es, ep, t, e, c⟩ := x; exact ⟨ob, es, ep, t, k _ _ (.inl rfl) e, c⟩
  | ins C dx fs =>
    obtain ⟨d, z, ne, e, mA, ⟨od, es, ep, e2, c⟩, r⟩ := x
    exact ⟨ho _ d, z, ne, k _ _ (.inl rfl) e, mA, ⟨od, es, ep, k _ _ (.inr d) e2, c⟩, r⟩
  | own y => obtain ⟨ob, e⟩ := x; exact ⟨ob, k _ _ (.inl rfl) e⟩
  | xd fs => obtain ⟨mA, ⟨od, es, ep, e, c⟩, r⟩ := x; exact ⟨mA, ⟨od, es, ep, k _ _ (.inl rfl) e, c⟩, r⟩
  | rng lo hi => obtain ⟨t, u, v, e⟩ := x; exact ⟨t, u, v, k _ _ (.inl rfl) e⟩
  | frz ob u ih => obtain ⟨e, q⟩ := x; exact ⟨k _ _ (.inl rfl) e, ih q⟩
  | tbl ps =>
    have e : h.get? a = some { cls := .none, data := .fields ps } := x
    show h'.get? a = some { cls := .none, data := .fields ps }
    exact k a _ (.inl rfl) e
  | met f y =>
    have e : h.get? a = some (PySem.W.methodObj (.ref f) (.ref y)) := x
    show h'.get? a = some (PySem.W.methodObj (.ref f) (.ref y))
    exact k a _ (.inl rfl) e
  | ext φ => obtain ⟨p, ⟨o, e⟩, st⟩ := x; exact ⟨st _ _ p fun o q => k _ _ (.inl rfl) q, ⟨o, k _ _ (.inl rfl) e⟩, st⟩
theorem HOk.lt (x : HOk P w H h) (e : H a = some o) : a < h.objs.size := (x a o e).lt
theorem HOk.fresh (x : HOk P w H h) (e : h.objs.size ≤ a) : H a = none := by
  cases q : H a with
  | none => rfl
  | some u => exact absurd (Nat.lt_of_lt_of_le (x.lt q) e) (Nat.lt_irrefl _)
theorem HOk.kept (x : HOk P w H h) (k : ∀ b u, h.get? b = some u → h'.get? b = some u) : HOk P w H h' := fun a o e =>
  (x a o e).stay (fun b u _ q => k b u q) (fun _ q => q) fun _ _ q => q
theorem HOk.laid (x : HOk P w H h) (k : ∀ b u, h.get? b = some u → h'.get? b = some u) (hp : h.objs.size ≤ a) (new : ObjOk P w (upd H a o) h' a o) : HOk P w (upd H a o) h' := fun b u e => by
  have hn := x.fresh hp
  by_cases hb : b = a
  · subst hb; rw [upd_same] at e; cases e; exact new
  · rw [upd_ne hb] at e
    exact (x b u e).stay (fun c v _ q => k c v q) (fun c q => by rw [upd_ne (ne_of_none q hn)]; exact q) fun c xs q => by rw [upd_ne (ne_of_none q hn)]; exact q
end
def Rd (H : Hp) (a : Addr) (u : HO) : Prop := H a = some u ∨ ∃ o, H a = some (.frz o u)
theorem Rd.of {H : Hp} {a : Addr} {u : HO} (h : H a = some u) : Rd H a u := .inl h
theorem Rd.ok {P : Program} {w : World} {H : Hp} {h : Heap} {a : Addr} {u : HO} (r : Rd H a u) (x : HOk P w H h) : ObjOk P w H h a u := by
  rcases r with r | ⟨o, r⟩
  · exact x a u r
  · obtain ⟨_, q⟩ := x a _ r
    exact q
def Mut : Option HO → Prop
  | some (.lst _) => True
  | some (.dK _) => True
  | some (.dT _) => True
  | some (.set _ _) => True
  | some (.ins _ _ _) => True
  | some (.ext _) => True
  | _ => False
section
variable {P : Program} {w : World} {H : Hp} {h h' : Heap} {x e : Addr} {o' : HO}
theorem HOk.write (ok : HOk P w H h) (mu : Mut (H x)) (he : e = x ∨ H e = some (.own x)) (k : ∀ b u, b ≠ e → h.get? b = some u → h'.get? b = some u) (heo : ∃ u, h'.get? e = some u)
    (new : ObjOk P w (upd H x o') h' x o') : HOk P w (upd H x o') h' := fun b u q => by
  have nown : ∀ c y, H c = some (.own y) → c ≠ x := fun c y r z => by subst z; rw [r] at mu; exact mu
  have ntup : ∀ c xs, H c = some (.tup xs) → c ≠ x := fun c xs r z => by subst z; rw [r] at mu; exact mu
  by_cases hb : b = x
  · subst hb; rw [upd_same] at q; cases q; exact new
  · rw [upd_ne hb] at q
    by_cases hbe : b = e
    · have q' : H b = some (.own x) := by
        rcases he with z | z
        · exact absurd (hbe.trans z) hb
        · rw [hbe]; exact z
      rw [q] at q'; cases q'
      obtain ⟨v, hv⟩ := heo
      exact ⟨v, by rw [hbe]; exact hv⟩
    · refine (ok b u q).stay (fun c v hc r => k c v ?_ r) (fun c r => by rw [upd_ne (nown c b r)]; exact r) fun c xs r => by rw [upd_ne (ntup c xs r)]; exact r
      rcases hc with rfl | hc
      · exact hbe
      · rintro rfl
        rcases he with z | z
        · exact nown c b hc z
        · rw [hc] at z; cases z; exact hb rfl
end
structure Un (fs ex : List Addr) (H H' : Hp) (h h' : Heap) : Prop where
  keep : ∀ b o, h.get? b = some o → H b = none → b ∉ fs → b ∉ ex → h'.get? b = some o
  slot : ∀ b o, h.get? b = some o → H b = none → b ∈ fs → b ∉ ex → ∃ sl, h'.get? b = some { o with slots := sl }
  free : ∀ b o, h.get? b = some o → H b = none → b ∉ ex → H' b = none
  there : ∀ b o, h.get? b = some o → b ∉ ex → ∃ o', h'.get? b = some o'
  tups : ∀ b xs, H b = some (.tup xs) → H' b = some (.tup xs)
  frzs : ∀ b o u, H b = some (.frz o u) → H' b = some (.frz o u)
  tbls : ∀ b ps, H b = some (.tbl ps) → ∃ more, H' b = some (.tbl (ps ++ more))
section
variable {fs fs' ex ex' : List Addr} {H H1 H2 : Hp} {h h1 h2 h' : Heap} {a x e : Addr} {o : HO}
theorem Un.any (u : Un fs ex H H1 h h1) {b : Addr} {ob : Obj} (q : h.get? b = some ob) (n : H b = none) (hx : b ∉ ex) : ∃ sl, h1.get? b = some { ob with slots := sl } := by
  by_cases hb : b ∈ fs
  · exact u.slot b ob q n hb hx
  · exact ⟨ob.slots, u.keep b ob q n hb hx⟩
theorem Un.trans (a : Un fs ex H H1 h h1) (b : Un fs ex H1 H2 h1 h2) : Un fs ex H H2 h h2 where
  keep := fun c ob q n hc hx => b.keep c ob (a.keep c ob q n hc hx) (a.free c ob q n hx) hc hx
  slot := fun c ob q n hc hx => by
    obtain ⟨sl, e1⟩ := a.slot c ob q n hc hx
    obtain ⟨sl', e2⟩ := b.slot c _ e1 (a.free c ob q n hx) hc hx
    exact ⟨sl', e2⟩
  free := fun c ob q n hx => by
    obtain ⟨o', e1⟩ := a.there c ob q hx
    exact b.free c o' e1 (a.free c ob q n hx) hx
  there := fun c ob q hx => by
    obtain ⟨o', e1⟩ := a.there c ob q hx
    exact b.there c o' e1 hx
  tups := fun c xs q => b.tups c xs (a.tups c xs q)
  frzs := fun c ob xs q => b.frzs c ob xs (a.frzs c ob xs q)
  tbls := fun c ps q => by
    obtain ⟨m1, e1⟩ := a.tbls c ps q
    obtain ⟨m2, e2⟩ := b.tbls c _ e1
    exact ⟨m1 ++ m2, by rw [e2, Array.append_assoc]⟩
theorem Un.kept (k : ∀ b u, h.get? b = some u → h'.get? b = some u) : Un fs ex H H h h' :=
  ⟨fun b ob q _ _ _ => k b ob q, fun b ob q _ _ _ => ⟨ob.slots, k b ob q⟩, fun _ _ _ n _ => n, fun b ob q _ => ⟨ob, k b ob q⟩, fun _ _ q => q, fun _ _ _ q => q, fun _ ps q => ⟨#[], by rw [q]; simp⟩⟩
theorem Un.refl : Un fs ex H H h h := Un.kept fun _ _ q => q
theorem Un.laid (k : ∀ b u, h.get? b = some u → h'.get? b = some u) (hp : h.objs.size ≤ a) (hn : H a = none) : Un fs ex H (upd H a o) h h' where
  keep := fun b u q _ _ _ => k b u q
  slot := fun b u q _ _ _ => ⟨u.slots, k b u q⟩
  free := fun b u q n _ => by rw [upd_ne (Nat.ne_of_lt (Nat.lt_of_lt_of_le (Heap.lt_size q) hp))]; exact n
  there := fun b u q _ => ⟨u, k b u q⟩
  tups := fun b xs q => by rw [upd_ne (ne_of_none q hn)]; exact q
  frzs := fun b u xs q => by rw [upd_ne (ne_of_none q hn)]; exact q
  tbls := fun b ps q => ⟨#[], by rw [upd_ne (ne_of_none q hn), q]; simp⟩
theorem Un.write (mu : Mut (H x)) (he : e = x ∨ H e = some (.own x)) (k : ∀ b u, b ≠ e → h.get? b = some u → h'.get? b = some u) (heo : ∃ u, h'.get? e = some u) : Un fs ex H (upd H x o) h h' := by
  have hx : ∀ b, H b = none → b ≠ x := fun b n z => by subst z; rw [n] at mu; exact mu
  have hb : ∀ b, H b = none → b ≠ e := fun b n z => by
    subst z
    rcases he with r | r
    · exact hx b n r
    · rw [n] at r; cases r
  have hm : ∀ b u, H b = some u → ¬ Mut (some u) → b ≠ x := fun b u q nm z => by subst z; rw [q] at mu; exact nm mu
  refine ⟨fun b u q n _ _ => k b u (hb b n) q, fun b u q n _ _ => ⟨u.slots, k b u (hb b n) q⟩, fun b u q n _ => by rw [upd_ne (hx b n)]; exact n, fun b u q _ => ?_,
    fun b xs q => by rw [upd_ne (hm b _ q fun z => z)]; exact q, fun b u xs q => by rw [upd_ne (hm b _ q fun z => z)]; exact q, fun b ps q => ⟨#[], by rw [upd_ne (hm b _ q fun z => z), q]; simp⟩⟩
  by_cases hbe : b = e
  · subst hbe; exact heo
  · exact ⟨u, k b u hbe q⟩
theorem Un.mono (u : Un fs ex H H1 h h1) (hs : ∀ b ∈ fs, b ∈ fs') (hx : ∀ b ∈ ex, b ∈ ex') : Un fs' ex' H H1 h h1 :=
  ⟨fun b ob q n hb he => u.keep b ob q n (fun z => hb (hs b z)) fun z => he (hx b z), fun _ _ q n _ he => u.any q n fun z => he (hx _ z), fun b ob q n he => u.free b ob q n fun z => he (hx b z), fun b ob q he => u.there b ob q fun z => he (hx b z), u.tups, u.frzs, u.tbls⟩
end
def trk (h : Heap) (H : Hp) : List Addr := (List.range h.objs.size).filter fun a => (H a).isSome
def hidT (h : Heap) (H : Hp) : Heap := PySem.W.hideAll h (trk h H)
theorem hidT_size (h : Heap) (H : Hp) : (hidT h H).objs.size = h.objs.size := PySem.W.hideAll_size _ _
theorem hidT_get {h : Heap} {H : Hp} {b : Addr} {o : Obj} (e : h.get? b = some o) (n : H b = none) : (hidT h H).get? b = some o :=
  PySem.W.hideAll_get _ e fun hm => by
    have q : (H b).isSome = true := (List.mem_filter.mp hm).2
    rw [n] at q; simp at q
theorem of_hidT {h : Heap} {H : Hp} {b : Addr} {o : Obj} (e : (hidT h H).get? b = some o) : h.get? b = some o ∧ H b = none := by
  have e' : h.get? b = some o := PySem.W.of_hideAll (trk h H) e
  refine ⟨e', ?_⟩
  cases q : H b with
  | none => rfl
  | some x =>
    have hm : b ∈ trk h H := List.mem_filter.mpr ⟨List.mem_range.mpr (Heap.lt_size e'), by simp [q]⟩
    have z : (hidT h H).get? b = none := PySem.W.hideAll_none (trk h H) hm
    rw [z] at e; cases e
def allNews (g h : Heap) (L : Addr) : List (Addr × Obj) := (List.range h.objs.size).filterMap fun a => if a = L ∨ (g.get? a).isSome = true then none else (h.get? a).map fun o => (a, o)
def rest (g h : Heap) (L d : Addr) : List (Addr × Obj) := (allNews g h L).filter fun p => decide (p.1 ≠ d)
end L2
namespace L2
open PySem PySem.Spec PyProof.Rows
structure Mod (K : PySem.W.Frag) (mg : Str → Option Value) (base : Heap) : Prop where
  kin : K.In base
  glob : base.Ns mainGlobals mg
  blt : ∃ mb, base.Ns builtinsNs mb ∧ ∀ x : Str, x ≠ "__name__" → mb x = bootBuiltins x
  nolimit : base.NoLimit
structure Cx where
  prog : Program
  w : World
  K : PySem.W.Frag
  mg : Str → Option Value
  base : Heap
  A : Around
  N : List Str
  s_0 : Shared
  H_0 : Hp
  env : Env
  outer : List Env
  stack : List Env
  ex : List Addr
  fn : Str → Bool
  calm : Bool
  pn : List (Addr × Obj)
  xe : Value → Shared → Prop
def frs (l : List Env) : List Addr := l.filterMap (·.frame)
abbrev Cx.fs (X : Cx) : List Addr := frs X.outer
def Vis (sc : Scope) (x : Str) : Prop := sc.names.lookup x = some .local ∨ sc.names.lookup x = some .cell ∨ sc.names.lookup x = some .free
def Loc (sc : Scope) (x : Str) : Prop := sc.names.lookup x = some .local ∨ sc.names.lookup x = some .cell
def Look (env : Env) (h : Heap) (m : Str → Option Value) (x : Str) (u : Value) : Prop :=
  (env.kindOf x = some .local ∧ m x = some u) ∨ ((env.kindOf x = some .cell ∨ env.kindOf x = some .free) ∧ ∃ c, env.cells.lookup x = some c ∧ h.IsCell c (some u))
structure Cx.Ok (X : Cx) : Prop where
  mod : Mod X.K X.mg X.base
  kind : X.env.scope.kind = .function
  glob : X.env.globals = mainGlobals
  blt : X.env.builtins = builtinsNs
  above : X.s_0.heap.objs.size ≤ X.env.locals
  inj : ∀ x y c, X.env.cells.lookup x = some c → X.env.cells.lookup y = some c → x = y
  has : ∀ x, (X.env.kindOf x = some .cell ∨ X.env.kindOf x = some .free) → ∃ c, X.env.cells.lookup x = some c
  cab : ∀ x c, X.fn x = true → X.env.cells.lookup x = some c → X.s_0.heap.objs.size ≤ c
  hd : X.calm = true → X.A.handled = none
  frames : X.A.frames = some X.stack
  stk : X.stack = X.outer ∨ (X.stack = X.env :: X.outer ∧ X.env.frame = some X.env.locals)
  exf : ∀ b ∈ X.ex, b ≠ X.env.locals ∧ ∀ x c, X.env.cells.lookup x = some c → c ≠ b
  bs : ∀ b o, X.base.get? b = some o → X.s_0.heap.get? b = some o ∧ X.H_0 b = none
  bsz : X.base.objs.size ≤ X.s_0.heap.objs.size
  noex : ∀ b o, X.base.get? b = some o → b ∉ X.ex
  exfs : ∀ b ∈ X.ex, b ∉ X.fs
  funs : X.s_0.heap.FunFrames X.base X.outer
  frf : ∀ b ∈ X.fs, X.H_0 b = none
structure Inv (X : Cx) (pins : List (Addr × Obj)) (σ : List (Option V)) (H : Hp) (s : Shared) : Prop where
  ok : X.Ok
  os : s.os = X.s_0.os
  bare : AllBare s.gens
  base : Un X.fs X.ex X.H_0 H X.s_0.heap s.heap
  loc : ∃ m, s.heap.Ns X.env.locals m ∧ ∀ (i : Nat) (x : Str) (v : V), X.N[i]? = some x → σ[i]? = some (some v) → Vis X.env.scope x → ∃ u, RelV v u ∧ Look X.env s.heap m x u
  cell : ∀ x c, X.env.cells.lookup x = some c → ∃ v, s.heap.IsCell c v
  free : H X.env.locals = none
  freeC : ∀ x c, X.env.cells.lookup x = some c → H c = none
  pin : ∀ p ∈ X.pn ++ pins, s.heap.get? p.1 = some p.2 ∧ H p.1 = none ∧ p.1 ≠ X.env.locals ∧ p.1 ∉ X.fs ∧ ∀ v, p.2.data ≠ .cell v
  hok : HOk X.prog X.w H s.heap
  len : σ.length = X.N.length
section
variable {X : Cx} {pins : List (Addr × Obj)} {σ : List (Option V)} {H H' : Hp} {s : Shared} {h' : Heap}
theorem Cx.Ok.nofr (ok : X.Ok) {b : Addr} {o : Obj} (e : X.base.get? b = some o) : b ∉ X.fs := fun hb => by
  have := (ok.funs.mem hb).1
  rw [e] at this; cases this
theorem Inv.bs (I : Inv X pins σ H s) : ∀ b o, X.base.get? b = some o → s.heap.get? b = some o ∧ H b = none := fun b o e =>
  ⟨I.base.keep b o (I.ok.bs b o e).1 (I.ok.bs b o e).2 (I.ok.nofr e) (I.ok.noex b o e), I.base.free b o (I.ok.bs b o e).1 (I.ok.bs b o e).2 (I.ok.noex b o e)⟩
theorem Inv.bk (I : Inv X pins σ H s) : ∀ b o, X.base.get? b = some o → s.heap.get? b = some o := fun b o e => (I.bs b o e).1
theorem Inv.mod (I : Inv X pins σ H s) : Mod X.K X.mg X.base := I.ok.mod
theorem Inv.kIn (I : Inv X pins σ H s) : X.K.In s.heap := I.ok.mod.kin.keeps I.bk
theorem Inv.nolimit (I : Inv X pins σ H s) : s.heap.NoLimit := I.ok.mod.nolimit.keeps I.bk
theorem Inv.fr (I : Inv X pins σ H s) : ∃ m, Fr X.base X.env.locals s.heap m :=
  let ⟨m, hn, _⟩ := I.loc
  ⟨m, hn, I.bk, Nat.le_trans I.ok.bsz I.ok.above⟩
theorem Inv.lt (I : Inv X pins σ H s) : X.env.locals < s.heap.objs.size := let ⟨_, hn, _⟩ := I.loc; hn.lt
theorem Inv.sz (I : Inv X pins σ H s) : X.s_0.heap.objs.size ≤ s.heap.objs.size := Nat.le_trans I.ok.above (Nat.le_of_lt I.lt)
theorem Inv.nofs (I : Inv X pins σ H s) {a : Addr} (h : s.heap.objs.size ≤ a) : a ∉ X.fs := fun hb => by
  obtain ⟨_, o, ho, _⟩ := I.ok.funs.mem hb
  exact absurd (Nat.lt_of_lt_of_le (Heap.lt_size ho) (Nat.le_trans I.sz h)) (Nat.lt_irrefl _)
theorem Inv.cne (I : Inv X pins σ H s) : ∀ x c, X.env.cells.lookup x = some c → c ≠ X.env.locals := fun x c e z => by
  obtain ⟨v, o, ho, hd⟩ := I.cell x c e
  obtain ⟨m, ⟨o', es, ep, ho', hd', _⟩, _⟩ := I.loc
  rw [z, ho'] at ho; cases ho; rw [hd'] at hd; cases hd
theorem Inv.funs (I : Inv X pins σ H s) : s.heap.FunFrames X.base X.outer := by
  have all : ∀ (l : List Env), (∀ b ∈ frs l, b ∈ X.fs) → X.s_0.heap.FunFrames X.base l → s.heap.FunFrames X.base l := by
    intro l
    induction l with
    | nil => intro _ _; trivial
    | cons env r ih =>
      intro hs hl
      obtain ⟨hk, ⟨L, o, hf, hn, ho, hd⟩, hr⟩ := hl
      have hL : L ∈ X.fs := hs L (by unfold frs; rw [List.filterMap_cons, hf]; exact List.mem_cons_self)
      obtain ⟨sl, e⟩ := I.base.slot L o ho (I.ok.frf L hL) hL fun z => I.ok.exfs L z hL
      exact ⟨hk, ⟨L, _, hf, hn, e, hd⟩, ih (fun b hb => hs b (by unfold frs; rw [List.filterMap_cons, hf]; exact List.mem_cons_of_mem _ hb)) hr⟩
  exact all X.outer (fun _ hb => hb) I.ok.funs
theorem Inv.stack (I : Inv X pins σ H s) : s.heap.FunFrames X.base X.stack := by
  rcases I.ok.stk with e | ⟨e, hf⟩
  · rw [e]; exact I.funs
  · rw [e]
    obtain ⟨m, hn, _⟩ := I.loc
    refine .cons (by rw [I.ok.kind]; decide) hf hn ?_ I.funs
    exact Heap.get?_none_of_le (Nat.le_trans I.ok.bsz I.ok.above)
theorem Inv.stkSub (I : Inv X pins σ H s) : ∀ b ∈ frs X.stack, b ∈ X.env.locals :: X.fs := fun b hb => by
  rcases I.ok.stk with e | ⟨e, hf⟩
  · rw [e] at hb; exact List.mem_cons_of_mem _ hb
  · rw [e] at hb
    unfold frs at hb
    rw [List.filterMap_cons, hf] at hb
    exact hb
theorem Inv.stkFree (I : Inv X pins σ H s) : ∀ b ∈ frs X.stack, H b = none := fun b hb => by
  rcases List.mem_cons.mp (I.stkSub b hb) with e | hb
  · rw [e]; exact I.free
  · obtain ⟨_, o, ho, _⟩ := I.ok.funs.mem hb
    exact I.base.free b o ho (I.ok.frf b hb) fun z => I.ok.exfs b z hb
theorem Inv.step {g' : Array GenState} {t' : Nat} {d' : Drawn} {ch : List Addr} (I : Inv X pins σ H s)
    (hch : ∀ b ∈ ch, (b ∈ X.ex ∨ X.s_0.heap.objs.size ≤ b) ∧ b ≠ X.env.locals ∧ (∀ x c, X.env.cells.lookup x = some c → c ≠ b) ∧ ∀ p ∈ X.pn ++ pins, p.1 ≠ b)
    (keep : ∀ b o, b ≠ X.env.locals → b ∉ X.fs → b ∉ ch → s.heap.get? b = some o → H b = none → h'.get? b = some o)
    (slot : ∀ b o, b ≠ X.env.locals → b ∈ X.fs → b ∉ ch → s.heap.get? b = some o → H b = none → ∃ sl, h'.get? b = some { o with slots := sl }) (free : ∀ b o, b ∉ ch → s.heap.get? b = some o → H b = none → H' b = none)
    (there : ∀ b o, b ∉ ch → s.heap.get? b = some o → ∃ o', h'.get? b = some o')
    (tups : ∀ b xs, H b = some (.tup xs) → H' b = some (.tup xs)) (frzs : ∀ b o u, H b = some (.frz o u) → H' b = some (.frz o u)) (tbls : ∀ b ps, H b = some (.tbl ps) → ∃ more, H' b = some (.tbl (ps ++ more)))
    (ns : ∀ m, s.heap.Ns X.env.locals m → h'.Ns X.env.locals m) (hok : HOk X.prog X.w H' h') (hg : AllBare g') :
    Inv X pins σ H' { s with heap := h', gens := g', drawn := d', toks := t' } := by
  have neL : ∀ b o, X.s_0.heap.get? b = some o → b ≠ X.env.locals := fun b o e => Nat.ne_of_lt (Nat.lt_of_lt_of_le (Heap.lt_size e) I.ok.above)
  have neC : ∀ b o, X.s_0.heap.get? b = some o → b ∉ X.ex → b ∉ ch := fun b o e hx hb => by
    rcases (hch b hb).1 with z | z
    · exact hx z
    · exact absurd (Nat.lt_of_lt_of_le (Heap.lt_size e) z) (Nat.lt_irrefl _)
  have cellK : ∀ x c, X.env.cells.lookup x = some c → ∀ v, s.heap.IsCell c v → h'.IsCell c v := fun x c e v ⟨o, ho, hd⟩ => by
    have nch : c ∉ ch := fun z => (hch c z).2.2.1 x c e rfl
    by_cases hc : c ∈ X.fs
    · obtain ⟨sl, q⟩ := slot c o (I.cne x c e) hc nch ho (I.freeC x c e)
      exact ⟨_, q, hd⟩
    · exact ⟨o, keep c o (I.cne x c e) hc nch ho (I.freeC x c e), hd⟩
  refine ⟨I.ok, I.os, hg, ⟨fun b o e n hb hx => ?_, fun b o e n hb hx => ?_, fun b o e n hx => ?_, fun b o e hx => ?_, fun b xs e => tups b xs (I.base.tups b xs e), fun b o xs e => frzs b o xs (I.base.frzs b o xs e), fun b ps e => ?_⟩, ?_, fun x c e => ?_, ?_, fun x c e => ?_, fun p hp => ?_, hok, I.len⟩
  · exact keep b o (neL b o e) hb (neC b o e hx) (I.base.keep b o e n hb hx) (I.base.free b o e n hx)
  · obtain ⟨sl, e1⟩ := I.base.slot b o e n hb hx
    obtain ⟨sl', e2⟩ := slot b _ (neL b o e) hb (neC b o e hx) e1 (I.base.free b o e n hx)
    exact ⟨sl', e2⟩
  · obtain ⟨o', e1⟩ := I.base.there b o e hx
    exact free b o' (neC b o e hx) e1 (I.base.free b o e n hx)
  · obtain ⟨o', e1⟩ := I.base.there b o e hx
    exact there b o' (neC b o e hx) e1
  · obtain ⟨m1, e1⟩ := I.base.tbls b ps e
    obtain ⟨m2, e2⟩ := tbls b _ e1
    exact ⟨m1 ++ m2, by rw [e2, Array.append_assoc]⟩
  · obtain ⟨m, hn, hl⟩ := I.loc
    refine ⟨m, ns m hn, fun i x v e1 e2 e3 => ?_⟩
    obtain ⟨u, r, l⟩ := hl i x v e1 e2 e3
    refine ⟨u, r, ?_⟩
    rcases l with l | ⟨k, c, e, z⟩
    · exact .inl l
    · exact .inr ⟨k, c, e, cellK x c e _ z⟩
  · obtain ⟨v, z⟩ := I.cell x c e
    exact ⟨v, cellK x c e v z⟩
  · obtain ⟨m, ⟨o, _, _, ho, _⟩, _⟩ := I.loc
    exact free _ o (fun z => (hch _ z).2.1 rfl) ho I.free
  · obtain ⟨v, o, ho, hd⟩ := I.cell x c e
    exact free c o (fun z => (hch c z).2.2.1 x c e rfl) ho (I.freeC x c e)
  · obtain ⟨e, n, ne, nf, d⟩ := I.pin p hp
    have nch : p.1 ∉ ch := fun z => (hch p.1 z).2.2.2 p hp rfl
    exact ⟨keep p.1 p.2 ne nf nch e n, free p.1 p.2 nch e n, ne, nf, d⟩
theorem Inv.un {t' : Nat} (I : Inv X pins σ H s) (u : Un X.fs [] H H' s.heap h') (hok : HOk X.prog X.w H' h') : Inv X pins σ H' { s with heap := h', toks := t' } := by
  obtain ⟨m, ⟨o, es, ep, ho, r⟩, _⟩ := id I.loc
  obtain ⟨sl, hL⟩ := u.any ho I.free (by simp)
  exact I.step (g' := s.gens) (d' := s.drawn) (ch := []) (fun _ z => nomatch z) (fun b o _ hb _ e n => u.keep b o e n hb (by simp)) (fun b o _ hb _ e n => u.slot b o e n hb (by simp)) (fun b o _ e n => u.free b o e n (by simp)) (fun b o _ e => u.there b o e (by simp)) u.tups u.frzs u.tbls (fun m' hm => by
    obtain ⟨o', es', ep', ho', r'⟩ := hm
    rw [ho] at ho'; cases ho'
    exact ⟨_, es', ep', hL, r'⟩) hok I.bare
theorem Inv.call {g' : Array GenState} {t' : Nat} {d' : Drawn} {ch : List Addr} (I : Inv X pins σ H s) (u : Un (frs X.stack) ch H H' s.heap h') (hok : HOk X.prog X.w H' h') (hg : AllBare g')
    (hch : ∀ b ∈ ch, (b ∈ X.ex ∨ X.s_0.heap.objs.size ≤ b) ∧ b ≠ X.env.locals ∧ (∀ x c, X.env.cells.lookup x = some c → c ≠ b) ∧ ∀ p ∈ X.pn ++ pins, p.1 ≠ b) :
    Inv X pins σ H' { s with heap := h', gens := g', drawn := d', toks := t' } := by
  obtain ⟨m, ⟨o, es, ep, ho, r⟩, _⟩ := id I.loc
  obtain ⟨sl, hL⟩ := u.any ho I.free fun z => (hch _ z).2.1 rfl
  exact I.step (ch := ch) hch (fun b o hL hb hc e n => u.keep b o e n (fun z => (List.mem_cons.mp (I.stkSub b z)).elim hL hb) hc) (fun b o _ _ hc e n => u.any e n hc) (fun b o hc e n => u.free b o e n hc) (fun b o hc e => u.there b o e hc) u.tups u.frzs u.tbls (fun m' hm => by
    obtain ⟨o', es', ep', ho', r'⟩ := hm
    rw [ho] at ho'; cases ho'
    exact ⟨_, es', ep', hL, r'⟩) hok hg
theorem Inv.turned {t' : Nat} {it : Addr} (I : Inv X pins σ H s) (k : ∀ b o, b ≠ it → s.heap.get? b = some o → h'.get? b = some o) (hn : H it = none) (hL : it ≠ X.env.locals)
    (h1 : it ∈ X.ex ∨ X.s_0.heap.objs.size ≤ it) (h2 : ∀ x c, X.env.cells.lookup x = some c → c ≠ it) (h3 : ∀ p ∈ X.pn ++ pins, p.1 ≠ it) : Inv X pins σ H { s with heap := h', toks := t' } := by
  have nit : ∀ b u, H b = some u → b ≠ it := fun b u e z => by rw [z, hn] at e; cases e
  refine I.step (g' := s.gens) (d' := s.drawn) (ch := [it]) (fun b hb => ?_) (fun b o _ _ hc e _ => k b o (fun z => hc (by simp [z])) e) (fun b o _ _ hc e _ => ⟨o.slots, k b o (fun z => hc (by simp [z])) e⟩) (fun _ _ _ _ n => n)
    (fun b o hc e => ⟨o, k b o (fun z => hc (by simp [z])) e⟩) (fun _ _ e => e) (fun _ _ _ e => e) (fun b ps e => ⟨#[], by rw [e]; simp⟩) (fun m hm => ?_) (fun b u e => ?_) I.bare
  · have e : b = it := by simpa using hb
    subst e
    exact ⟨h1, hL, h2, h3⟩
  · obtain ⟨o, es, ep, ho, r⟩ := hm
    exact ⟨o, es, ep, k _ o (Ne.symm hL) ho, r⟩
  · refine (I.hok b u e).stay (fun c v hc q => k c v ?_ q) (fun _ q => q) fun _ _ q => q
    rcases hc with z | z
    · rw [z]; exact nit b u e
    · exact nit c _ z
theorem Inv.tok (I : Inv X pins σ H s) (t : Nat) : Inv X pins σ H { s with toks := t } := I.un (h' := s.heap) (t' := t) Un.refl I.hok
theorem Inv.kept {t' : Nat} (I : Inv X pins σ H s) (k : ∀ b u, s.heap.get? b = some u → h'.get? b = some u) : Inv X pins σ H { s with heap := h', toks := t' } := I.un (Un.kept k) (I.hok.kept k)
theorem Inv.laid {a : Addr} {o : HO} {t' : Nat} (I : Inv X pins σ H s) (k : ∀ b u, s.heap.get? b = some u → h'.get? b = some u) (hp : s.heap.objs.size ≤ a) (new : ObjOk X.prog X.w (upd H a o) h' a o) :
    Inv X pins σ (upd H a o) { s with heap := h', toks := t' } := I.un (Un.laid k hp (I.hok.fresh hp)) (I.hok.laid k hp new)
theorem Inv.write {x e : Addr} {o : HO} {t' : Nat} (I : Inv X pins σ H s) (mu : Mut (H x)) (he : e = x ∨ H e = some (.own x)) (k : ∀ b u, b ≠ e → s.heap.get? b = some u → h'.get? b = some u) (heo : ∃ u, h'.get? e = some u)
    (new : ObjOk X.prog X.w (upd H x o) h' x o) : Inv X pins σ (upd H x o) { s with heap := h', toks := t' } := I.un (Un.write mu he k heo) (I.hok.write mu he k heo new)
theorem Inv.weak {σ' : List (Option V)} (I : Inv X pins σ H s) (hl : σ'.length = σ.length) (w : ∀ (i : Nat) v, σ'[i]? = some (some v) → σ[i]? = some (some v)) : Inv X pins σ' H s :=
  ⟨I.ok, I.os, I.bare, I.base, let ⟨m, hn, hl'⟩ := I.loc; ⟨m, hn, fun i x v e1 e2 e3 => hl' i x v e1 (w i v e2) e3⟩, I.cell, I.free, I.freeC, I.pin, I.hok, hl.trans I.len⟩
theorem Inv.pins_of {pins' : List (Addr × Obj)} (I : Inv X pins σ H s) (h : ∀ p ∈ pins', s.heap.get? p.1 = some p.2 ∧ H p.1 = none ∧ p.1 ≠ X.env.locals ∧ p.1 ∉ X.fs ∧ ∀ v, p.2.data ≠ .cell v) : Inv X pins' σ H s :=
  ⟨I.ok, I.os, I.bare, I.base, I.loc, I.cell, I.free, I.freeC, fun p hp => (List.mem_append.mp hp).elim (fun z => I.pin p (List.mem_append_left _ z)) (h p), I.hok, I.len⟩
theorem nodup_ix {N : List Str} (hN : N.Nodup) {i j : Nat} {x : Str} (a : N[i]? = some x) (b : N[j]? = some x) : i = j := by
  obtain ⟨h1, e1⟩ := List.getElem?_eq_some_iff.mp a
  obtain ⟨h2, e2⟩ := List.getElem?_eq_some_iff.mp b
  exact (List.getElem_inj hN).mp (e1.trans e2.symm)
theorem store_ok2 {M : Model} {A : Around} {E : Value → Shared → Prop} {i : Nat} {x : Str} {v : V} {u : Value} {Q : Unit → Shared → Prop} (I : Inv X pins σ H s) (hN : X.N.Nodup) (hi : X.N[i]? = some x) (hx : Loc X.env.scope x) (r : RelV v u)
    (h : ∀ s', Inv X pins (σ.set i (some v)) H s' → (∃ a, Heap.SameBut a s.heap s'.heap ∧ (a = X.env.locals ∨ X.env.cells.lookup x = some a)) → Q () s') (hf : X.fn x = true ∨ X.env.scope.names.lookup x = some .local := by first | exact .inl rfl | exact .inr rfl | assumption) : wpAny M A (storeName X.env x u) Q E s := by
  obtain ⟨m, hn, hl⟩ := id I.loc
  have hcls : (X.env.scope.kind == .class || (X.env.scope.kind == .module && X.env.locals != X.env.globals)) = false := by rw [I.ok.kind]; rfl
  have hiσ : i < σ.length := by rw [I.len]; exact (List.getElem?_eq_some_iff.mp hi).1
  have cne := I.cne
  have tracked : ∀ {a : Addr} {h' : Heap}, (∃ o, s.heap.get? a = some o ∧ H a = none) → Heap.SameBut a s.heap h' → HOk X.prog X.w H h' := fun {a h'} ha hs b ob e => by
    obtain ⟨_, _, hfree⟩ := ha
    refine (I.hok b ob e).stay (fun c w' hc q => (hs.2 c ?_).trans q) (fun _ q => q) fun _ _ q => q
    rintro rfl
    rcases hc with rfl | hc
    · rw [hfree] at e; cases e
    · rw [hfree] at hc; cases hc
  rcases hx with hk | hk
  · refine wpAny_storeName_local hk hn (fun h' hn' hs => ?_) hcls
    obtain ⟨oL, _, _, hoL, _⟩ := id hn
    refine h _ ⟨I.ok, I.os, I.bare, ⟨fun b o e n hb hx => ?_, fun b o e n hb hx => ?_, I.base.free, fun b o e hx => ?_, I.base.tups, I.base.frzs, I.base.tbls⟩, ⟨_, hn', fun j y v' e1 e2 e3 => ?_⟩, fun y c e => ?_, I.free, I.freeC, fun p hp => ?_, tracked ⟨oL, hoL, I.free⟩ hs, by simpa using I.len⟩ ⟨_, hs, .inl rfl⟩
    · exact (hs.2 b (Nat.ne_of_lt (Nat.lt_of_lt_of_le (Heap.lt_size e) I.ok.above))).trans (I.base.keep b o e n hb hx)
    · obtain ⟨sl, e1⟩ := I.base.slot b o e n hb hx
      exact ⟨sl, (hs.2 b (Nat.ne_of_lt (Nat.lt_of_lt_of_le (Heap.lt_size e) I.ok.above))).trans e1⟩
    · obtain ⟨o', e1⟩ := I.base.there b o e hx
      exact ⟨o', (hs.2 b (Nat.ne_of_lt (Nat.lt_of_lt_of_le (Heap.lt_size e) I.ok.above))).trans e1⟩
    · by_cases hj : j = i
      · subst hj
        rw [hi] at e1; cases e1
        rw [List.getElem?_set_self hiσ] at e2
        cases e2
        exact ⟨u, r, .inl ⟨hk, by simp⟩⟩
      · rw [List.getElem?_set_ne (Ne.symm hj)] at e2
        obtain ⟨u', r', q⟩ := hl j y v' e1 e2 e3
        refine ⟨u', r', ?_⟩
        rcases q with ⟨k, e⟩ | ⟨k, c, e, z⟩
        · refine .inl ⟨k, ?_⟩
          have : y ≠ x := fun e => hj (nodup_ix hN e1 (e ▸ hi))
          simp [this, e]
        · exact .inr ⟨k, c, e, z.sameBut hs (cne y c e)⟩
    · obtain ⟨w', z⟩ := I.cell y c e
      exact ⟨w', z.sameBut hs (cne y c e)⟩
    · obtain ⟨e, n, ne, nf, d⟩ := I.pin p hp
      exact ⟨(hs.2 p.1 ne).trans e, n, ne, nf, d⟩
  · have hfn : X.fn x = true := by
      rcases hf with z | z
      · exact z
      · rw [z] at hk; cases hk
    obtain ⟨c, hc⟩ := I.ok.has x (.inl hk)
    obtain ⟨w', z⟩ := I.cell x c hc
    refine wpAny_storeName_cell I.ok.kind hk hc z (fun h' hc' hs => ?_)
    obtain ⟨oc, hoc, hocd⟩ := id z
    refine h { s with heap := h' } ⟨I.ok, I.os, I.bare, ⟨fun b o e n hb hx => ?_, fun b o e n hb hx => ?_, I.base.free, fun b o e hx => ?_, I.base.tups, I.base.frzs, I.base.tbls⟩, ⟨m, hn.sameBut hs (Ne.symm (cne x c hc)), fun j y v' e1 e2 e3 => ?_⟩, fun y c' e => ?_, I.free, I.freeC, fun p hp => ?_, tracked ⟨oc, hoc, I.freeC x c hc⟩ hs, by simpa using I.len⟩ ⟨c, hs, .inr hc⟩
    · exact (hs.2 b (Nat.ne_of_lt (Nat.lt_of_lt_of_le (Heap.lt_size e) (I.ok.cab x c hfn hc)))).trans (I.base.keep b o e n hb hx)
    · obtain ⟨sl, e1⟩ := I.base.slot b o e n hb hx
      exact ⟨sl, (hs.2 b (Nat.ne_of_lt (Nat.lt_of_lt_of_le (Heap.lt_size e) (I.ok.cab x c hfn hc)))).trans e1⟩
    · obtain ⟨o', e1⟩ := I.base.there b o e hx
      exact ⟨o', (hs.2 b (Nat.ne_of_lt (Nat.lt_of_lt_of_le (Heap.lt_size e) (I.ok.cab x c hfn hc)))).trans e1⟩
    · by_cases hj : j = i
      · subst hj
        rw [hi] at e1; cases e1
        rw [List.getElem?_set_self hiσ] at e2
        cases e2
        exact ⟨u, r, .inr ⟨.inl hk, c, hc, hc'⟩⟩
      · rw [List.getElem?_set_ne (Ne.symm hj)] at e2
        obtain ⟨u', r', q⟩ := hl j y v' e1 e2 e3
        refine ⟨u', r', ?_⟩
        rcases q with q | ⟨k, c', e, z'⟩
        · exact .inl q
        · refine .inr ⟨k, c', e, z'.sameBut hs ?_⟩
          rintro rfl
          exact hj (nodup_ix hN e1 (I.ok.inj _ _ _ e hc ▸ hi))
    · by_cases hcc : c' = c
      · subst hcc; exact ⟨_, hc'⟩
      · obtain ⟨w2, z2⟩ := I.cell y c' e
        exact ⟨w2, z2.sameBut hs hcc⟩
    · obtain ⟨e, n, ne, nf, d⟩ := I.pin p hp
      refine ⟨(hs.2 p.1 ?_).trans e, n, ne, nf, d⟩
      intro q
      rw [q, hoc] at e
      have q' : oc = p.2 := Option.some.inj e
      exact d w' (by rw [← q']; exact hocd)
theorem store_ok {M : Model} {A : Around} {E : Value → Shared → Prop} {i : Nat} {x : Str} {v : V} {u : Value} {Q : Unit → Shared → Prop} (I : Inv X pins σ H s) (hN : X.N.Nodup) (hi : X.N[i]? = some x) (hx : Loc X.env.scope x) (r : RelV v u)
    (h : ∀ s', Inv X pins (σ.set i (some v)) H s' → Q () s') (hf : X.fn x = true ∨ X.env.scope.names.lookup x = some .local := by first | exact .inl rfl | exact .inr rfl | assumption) : wpAny M A (storeName X.env x u) Q E s :=
  store_ok2 I hN hi hx r (fun s' I' _ => h s' I') hf
theorem Inv.call' {s' : Shared} {ch : List Addr} (I : Inv X pins σ H s) (ho : s'.os = s.os) (u : Un (frs X.stack) ch H H' s.heap s'.heap) (hok : HOk X.prog X.w H' s'.heap) (hg : AllBare s'.gens)
    (hch : ∀ b ∈ ch, (b ∈ X.ex ∨ X.s_0.heap.objs.size ≤ b) ∧ b ≠ X.env.locals ∧ (∀ x c, X.env.cells.lookup x = some c → c ≠ b) ∧ ∀ p ∈ X.pn ++ pins, p.1 ≠ b) : Inv X pins σ H' s' := by
  obtain ⟨h', g', d', t', o'⟩ := s'
  have e : o' = s.os := ho
  subst e
  exact I.call (g' := g') (t' := t') (d' := d') u hok hg hch
end
abbrev XK := Value → Option Addr → Hp → Prop
abbrev St := List (Option V)
abbrev VK := V → Hp → Prop
abbrev TE := St → Hp → VK → Prop
abbrev TT := St → Hp → (Bool → Hp → Prop) → Prop
abbrev TA := St → Hp → (List V → Hp → Prop) → Prop
structure Ends where
  nx : St → Hp → Prop
  rt : VK
  bk : St → Hp → Prop := fun _ _ => False
  ct : St → Hp → Prop := fun _ _ => False
abbrev TS := Ends → St → Hp → Prop
def EP (X : Cx) (pins : List (Addr × Obj)) (σ : St) (Q : VK) (u : Value) (s' : Shared) : Prop := ∃ v H', Inv X pins σ H' s' ∧ RelV v u ∧ Q v H'
def TP (X : Cx) (pins : List (Addr × Obj)) (σ : St) (Q : Bool → Hp → Prop) (b : Bool) (s' : Shared) : Prop := ∃ H', Inv X pins σ H' s' ∧ Q b H'
def AP (X : Cx) (pins : List (Addr × Obj)) (σ : St) (Q : List V → Hp → Prop) (us : List Value) (s' : Shared) : Prop := ∃ vs H', Inv X pins σ H' s' ∧ Vals vs us ∧ Q vs H'
def SP (X : Cx) (pins : List (Addr × Obj)) (D : Ends) (f : Flow) (s' : Shared) : Prop :=
  match f with
  | .next => ∃ σ' H', Inv X pins σ' H' s' ∧ D.nx σ' H'
  | .brk => ∃ σ' H', Inv X pins σ' H' s' ∧ D.bk σ' H'
  | .cont => ∃ σ' H', Inv X pins σ' H' s' ∧ D.ct σ' H'
  | .ret u => ∃ v σ' H', Inv X pins σ' H' s' ∧ RelV v u ∧ D.rt v H'
def PE (X : Cx) (e : Expr) (t : TE) : Prop :=
  ∀ (pins : List (Addr × Obj)) (s : Shared) (σ : St) (H : Hp) (Q : VK), Inv X pins σ H s → t σ H Q → wpAny (model X.prog X.w) X.A (eval e X.env) (EP X pins σ Q) X.xe s
def PT (X : Cx) (e : Expr) (t : TT) : Prop :=
  ∀ (pins : List (Addr × Obj)) (s : Shared) (σ : St) (H : Hp) (Q : Bool → Hp → Prop), Inv X pins σ H s → t σ H Q → wpAny (model X.prog X.w) X.A (isTrue e X.env (eval e X.env)) (TP X pins σ Q) X.xe s
def PW (X : Cx) (e : Expr) (t : TT) : Prop :=
  ∀ (whole : Sem Value) (pins : List (Addr × Obj)) (s : Shared) (σ : St) (H : Hp) (Q : Bool → Hp → Prop), Inv X pins σ H s → t σ H Q → wpAny (model X.prog X.w) X.A (isTrue e X.env whole) (TP X pins σ Q) X.xe s
theorem PW.pt {X : Cx} {e : Expr} {t : TT} (h : PW X e t) : PT X e t := h _
def PA (X : Cx) (es : List Expr) (t : TA) : Prop :=
  ∀ (pos : Pos) (pins : List (Addr × Obj)) (s : Shared) (σ : St) (H : Hp) (Q : List V → Hp → Prop), Inv X pins σ H s → t σ H Q → wpAny (model X.prog X.w) X.A (spliced (backTo pos (starEach es X.env))) (AP X pins σ Q) X.xe s
def PS (X : Cx) (st : Stmt) (t : TS) : Prop :=
  ∀ (pins : List (Addr × Obj)) (s : Shared) (σ : St) (H : Hp) (D : Ends), Inv X pins σ H s → t D σ H → wpAny (model X.prog X.w) X.A (exec st X.env) (SP X pins D) X.xe s
def PSs (X : Cx) (st : List Stmt) (t : TS) : Prop :=
  ∀ (pins : List (Addr × Obj)) (s : Shared) (σ : St) (H : Hp) (D : Ends), Inv X pins σ H s → t D σ H → wpAny (model X.prog X.w) X.A (execs st X.env) (SP X pins D) X.xe s
theorem thn {α : Type} {t : Sem α} {Q Q' : α → Shared → Prop} {M : Model} {A : Around} {E : Value → Shared → Prop} {s : Shared} (h : wpAny M A t Q E s) (hQ : ∀ a s, Q a s → Q' a s) : wpAny M A t Q' E s := wpAny_mono h hQ fun _ _ x => x
end L2
namespace L2
open PySem PySem.Spec PyProof.Rows
section
variable {X : Cx}
def tVar (i : Nat) : TE := fun σ H Q => ∃ v, σ[i]? = some (some v) ∧ Q v H
def tC (v : V) : TE := fun _ H Q => Q v H
theorem pe_var {i : Nat} {x : Str} {pos : Pos} (hN : X.N[i]? = some x) (hv : Vis X.env.scope x) (hd : (x == ("__debug__" : Str)) = false := by decide) (hcd : (x == ("__classdict__" : Str)) = false := by decide) : PE X (.Name x pos) (tVar i) := by
  intro pins s σ H Q I h
  obtain ⟨v, e, h⟩ := h
  obtain ⟨m, hn, hl⟩ := I.loc
  obtain ⟨u, r, l⟩ := hl i x v hN e hv
  have fin : EP X pins σ Q u s := ⟨v, H, I, r, h⟩
  rcases l with ⟨hk, hm⟩ | ⟨hk, c, hc, hcell⟩
  · exact wpAny_Name (wpAny_loadName_local I.ok.kind hk hn hm fin) hd
  · rcases hk with hk | hk
    · exact wpAny_Name (wpAny_loadName_cell I.ok.kind hk hc hcell fin) hd
    · exact wpAny_Name (wpAny_loadName_free I.ok.kind hk hc hcell fin hcd) hd
theorem pe_int {i j pos} : PE X (.Constant (.int i) j pos) (tC (.int i)) := fun _ _ _ H _ I h => wpAny_Constant_int ⟨.int i, H, I.tok _, ⟨_, rfl⟩, h⟩
theorem pe_bl {b j pos} : PE X (.Constant (.bool b) j pos) (tC (.bl b)) := fun _ _ _ H _ I h => Constant_bool ⟨.bl b, H, I, rfl, h⟩
theorem pe_non {j pos} : PE X (.Constant .none j pos) (tC .non) := fun _ _ _ H _ I h => Constant_none ⟨.non, H, I, rfl, h⟩
theorem pe_str {x j pos} : PE X (.Constant (.str x) j pos) (tC (.str x)) := fun _ _ _ H _ I h => Calls.Constant_str ⟨.str x, H, I.tok _, ⟨_, rfl⟩, h⟩
def Gl (X : Cx) (x : Str) : Prop := X.env.kindOf x = some .globalImplicit
theorem ld_glob {E : Value → Shared → Prop} {pins : List (Addr × Obj)} {s : Shared} {σ : St} {H : Hp} {x : Str} {u : Value} {pos : Pos} {Q : Value → Shared → Prop} (I : Inv X pins σ H s) (hg : Gl X x) (hm : X.mg x = some u) (h : Q u s)
    (hd : (x == ("__debug__" : Str)) = false := by decide) : wpAny (model X.prog X.w) X.A (eval (.Name x pos) X.env) Q E s :=
  Calls.Name_function_global I.ok.kind hg (Calls.loadGlobal_global (by rw [I.ok.glob]; exact I.mod.glob.keeps I.bk) hm h) hd
theorem ld_blt {E : Value → Shared → Prop} {pins : List (Addr × Obj)} {s : Shared} {σ : St} {H : Hp} {x : Str} {u : Value} {pos : Pos} {Q : Value → Shared → Prop} (I : Inv X pins σ H s) (hg : Gl X x) (hm : X.mg x = none) (hv : bootBuiltins x = some u) (h : Q u s)
    (hn : x ≠ "__name__" := by decide) (hd : (x == ("__debug__" : Str)) = false := by decide) : wpAny (model X.prog X.w) X.A (eval (.Name x pos) X.env) Q E s := by
  obtain ⟨mb, h1, h2⟩ := I.mod.blt
  exact Calls.Name_function_global I.ok.kind hg (Calls.loadGlobal_builtin (by rw [I.ok.glob]; exact I.mod.glob.keeps I.bk) hm (by rw [I.ok.blt]; exact h1.keeps I.bk) ((h2 x hn).trans hv) h) hd
theorem pe_glob {x : Str} {v : V} {u : Value} {pos : Pos} (hg : Gl X x) (hm : X.mg x = some u) (r : RelV v u) (hd : (x == ("__debug__" : Str)) = false := by decide) : PE X (.Name x pos) (tC v) :=
  fun _ _ _ H _ I h => ld_glob I hg hm ⟨v, H, I, r, h⟩ hd
theorem pe_bltn {x : Str} {v : V} {u : Value} {pos : Pos} (hg : Gl X x) (hm : X.mg x = none) (hv : bootBuiltins x = some u) (r : RelV v u) (hn : x ≠ "__name__" := by decide) (hd : (x == ("__debug__" : Str)) = false := by decide) : PE X (.Name x pos) (tC v) :=
  fun _ _ _ H _ I h => ld_blt I hg hm hv ⟨v, H, I, r, h⟩ hn hd
variable {a b : Expr} {ta tb : TE} {pos : Pos}
def tB (t : TE) : TT := fun σ H Q => t σ H fun x H1 => ∃ c, x = .bl c ∧ Q c H1
theorem pt_val {e : Expr} {t : TE} (h : PE X e t) (he : ∀ whole, isTrue e X.env whole = (do let v ← whole; standAt e.pos; holding [v] (truthy v)) := by intro _; rfl) : PT X e (tB t) := by
  intro pins s σ H Q I hw
  refine isTrue_plain (thn (h pins s σ H _ I hw) fun v s1 ⟨x, H1, I1, r1, q1⟩ => ?_) (he _)
  obtain ⟨d, rfl, q⟩ := q1
  cases r1
  exact wpAny_truthy_bool ⟨H1, I1, q⟩
variable {tA tB' : TT} {rest : List Expr}
def tAnd (t u : TT) : TT := fun σ H Q => t σ H fun c H1 => if c = true then u σ H1 Q else Q false H1
def tOr (t u : TT) : TT := fun σ H Q => t σ H fun c H1 => if c = true then Q true H1 else u σ H1 Q
def tNot (t : TT) : TT := fun σ H Q => t σ H fun c H1 => Q (!c) H1
theorem pw_and1 (ha : PT X a tA) : PW X (.BoolOp .And [a] pos) tA := by
  intro wh pins s σ H Q I h
  refine isTrue_and (thn (ha pins s σ H Q I h) fun c s1 e => ?_)
  cases c with
  | true => exact isTrue_and_nil e
  | false => exact e
theorem pw_or1 (ha : PT X a tA) : PW X (.BoolOp .Or [a] pos) tA := by
  intro wh pins s σ H Q I h
  refine isTrue_or (thn (ha pins s σ H Q I h) fun c s1 e => ?_)
  cases c with
  | false => exact isTrue_or_nil e
  | true => exact e
theorem pw_and (ha : PT X a tA) (hb : PW X (.BoolOp .And (b :: rest) pos) tB') : PW X (.BoolOp .And (a :: b :: rest) pos) (tAnd tA tB') := by
  intro wh pins s σ H Q I h
  refine isTrue_and (thn (ha pins s σ H _ I h) fun c s1 ⟨H1, I1, q1⟩ => ?_)
  cases c with
  | true => exact hb wh pins s1 σ H1 Q I1 q1
  | false => exact ⟨H1, I1, q1⟩
theorem pw_or (ha : PT X a tA) (hb : PW X (.BoolOp .Or (b :: rest) pos) tB') : PW X (.BoolOp .Or (a :: b :: rest) pos) (tOr tA tB') := by
  intro wh pins s σ H Q I h
  refine isTrue_or (thn (ha pins s σ H _ I h) fun c s1 ⟨H1, I1, q1⟩ => ?_)
  cases c with
  | true => exact ⟨H1, I1, q1⟩
  | false => exact hb wh pins s1 σ H1 Q I1 q1
theorem pt_not (ha : PT X a tA) : PT X (.UnaryOp .Not a pos) (tNot tA) := by
  intro pins s σ H Q I h
  exact isTrue_not (ha pins s σ H (fun c H1 => Q (!c) H1) I h)
end
end L2
namespace L2
open PySem PySem.Spec PyProof.Rows
def SqL (K : PySem.W.Frag) (H : Hp) (a : Addr) (xs : List V) : Prop :=
  Rd H a (.lst xs) ∨
    ∃ (o : Obj) (its : Array Value) (n : Nat), K.lookup a = some o ∧ o.cls = .type "list" ∧ o.dict = none ∧ o.data = .seq its n ∧ its.size ≤ sizeLine ∧ Vals xs its.toList
def SqT (K : PySem.W.Frag) (H : Hp) (a : Addr) (xs : List V) : Prop :=
  Rd H a (.tup xs) ∨
    ∃ (o : Obj) (its : Array Value) (n : Nat), K.lookup a = some o ∧ o.cls = .type "tuple" ∧ o.data = .seq its n ∧ its.size ≤ sizeLine ∧ Vals xs its.toList
def absV : Value → Option V
  | .none => some .non
  | .bool b => some (.bl b)
  | .int i _ => some (.int i)
  | .str x _ => some (.str x)
  | .bytes b _ => some (.byt b)
  | .float b _ => some (.flt b)
  | .ref a => some (.ref a)
  | .type n => some (.ty n)
  | _ => none
theorem RelV.abs {x : V} {u : Value} (r : RelV x u) : absV u = some x := by
  cases x with
  | non => cases r; rfl
  | bl _ => cases r; rfl
  | int _ => obtain ⟨t, rfl⟩ := r; rfl
  | str _ => obtain ⟨t, rfl⟩ := r; rfl
  | byt _ => obtain ⟨t, rfl⟩ := r; rfl
  | flt _ => obtain ⟨t, rfl⟩ := r; rfl
  | ref _ => cases r; rfl
  | ty _ => cases r; rfl
theorem RelV.inj {x y : V} {u : Value} (r : RelV x u) (q : RelV y u) : x = y := Option.some.inj (r.abs.symm.trans q.abs)
theorem Vals.inj : ∀ {xs ys : List V} {us : List Value}, Vals xs us → Vals ys us → xs = ys
  | _, _, _, .nil, .nil => rfl
  | _, _, _, .cons r t, .cons r' t' => by rw [r.inj r', Vals.inj t t']
section
variable {X : Cx} {pins : List (Addr × Obj)} {σ : St} {H : Hp} {s : Shared} {a : Addr} {xs ys : List V}
theorem SqL.of {K : PySem.W.Frag} (h : H a = some (.lst xs)) : SqL K H a xs := .inl (.inl h)
theorem SqT.of {K : PySem.W.Frag} (h : H a = some (.tup xs)) : SqT K H a xs := .inl (.inl h)
theorem Inv.list (I : Inv X pins σ H s) (h : SqL X.K H a xs) : ∃ its : List Value, Vals xs its ∧ PlainL s.heap a its.toArray ∧ xs.length ≤ sizeLine := by
  rcases h with h | ⟨o, its, n, hk, hc, hd, hs, hz, r⟩
  · obtain ⟨z, its, n, r, e⟩ := h.ok I.hok
    exact ⟨its, r, ⟨_, n, e, rfl, rfl, rfl⟩, z⟩
  · refine ⟨its.toList, r, ⟨o, n, I.kIn a o hk, hc, hd, by simpa using hs⟩, ?_⟩
    have e := r.length
    simp only [Array.length_toList] at e
    omega
theorem Inv.tuple (I : Inv X pins σ H s) (h : SqT X.K H a xs) : ∃ its : List Value, Vals xs its ∧ IsTup s.heap a its.toArray ∧ xs.length ≤ sizeLine := by
  rcases h with h | ⟨o, its, n, hk, hc, hs, hz, r⟩
  · obtain ⟨z, its, r, p⟩ := h.ok I.hok
    exact ⟨its, r, p, z⟩
  · refine ⟨its.toList, r, ⟨o, I.kIn a o hk, hc, n, by simpa using hs⟩, ?_⟩
    have e := r.length
    simp only [Array.length_toList] at e
    omega
theorem Inv.list_inj (I : Inv X pins σ H s) (h : SqL X.K H a xs) (h' : SqL X.K H a ys) : xs = ys := by
  obtain ⟨its, r, ⟨o, n, e, _, _, d⟩, _⟩ := I.list h
  obtain ⟨its', r', ⟨o', n', e', _, _, d'⟩, _⟩ := I.list h'
  rw [e] at e'; cases e'
  rw [d] at d'
  injection d' with d1 _
  have : its = its' := by simpa using congrArg Array.toList d1
  subst this
  exact r.inj r'
end
abbrev Cx.wish (X : Cx) (E : Value → Shared → Prop) : Cx := { X with xe := E }
abbrev Cx.nox (X : Cx) : Cx := X.wish fun _ _ => False
theorem Cx.Ok.wish {X : Cx} (ok : X.Ok) (E : Value → Shared → Prop) : (X.wish E).Ok :=
  ⟨ok.mod, ok.kind, ok.glob, ok.blt, ok.above, ok.inj, ok.has, ok.cab, ok.hd, ok.frames, ok.stk, ok.exf, ok.bs, ok.bsz, ok.noex, ok.exfs, ok.funs, ok.frf⟩
theorem Cx.Ok.unwish {X : Cx} {E : Value → Shared → Prop} (ok : (X.wish E).Ok) : X.Ok :=
  ⟨ok.mod, ok.kind, ok.glob, ok.blt, ok.above, ok.inj, ok.has, ok.cab, ok.hd, ok.frames, ok.stk, ok.exf, ok.bs, ok.bsz, ok.noex, ok.exfs, ok.funs, ok.frf⟩
section
variable {X : Cx} {pins : List (Addr × Obj)} {σ : St} {H : Hp} {s : Shared} {E : Value → Shared → Prop}
theorem Inv.wish (I : Inv X pins σ H s) (E : Value → Shared → Prop) : Inv (X.wish E) pins σ H s := ⟨I.ok.wish E, I.os, I.bare, I.base, I.loc, I.cell, I.free, I.freeC, I.pin, I.hok, I.len⟩
theorem Inv.unwish (I : Inv (X.wish E) pins σ H s) : Inv X pins σ H s := ⟨I.ok.unwish, I.os, I.bare, I.base, I.loc, I.cell, I.free, I.freeC, I.pin, I.hok, I.len⟩
theorem SP.unwish {D : Ends} {f : Flow} {s' : Shared} (h : SP (X.wish E) pins D f s') : SP X pins D f s' := by
  cases f with
  | next => obtain ⟨σ', H', I, q⟩ := h; exact ⟨σ', H', I.unwish, q⟩
  | brk => obtain ⟨σ', H', I, q⟩ := h; exact ⟨σ', H', I.unwish, q⟩
  | cont => obtain ⟨σ', H', I, q⟩ := h; exact ⟨σ', H', I.unwish, q⟩
  | ret u => obtain ⟨v, σ', H', I, r, q⟩ := h; exact ⟨v, σ', H', I.unwish, r, q⟩
theorem PE.nox {e : Expr} {t : TE} (h : PE X.nox e t) : PE X e t := fun pins s σ H Q I hw =>
  wpAny_mono (h pins s σ H Q (I.wish _) hw) (fun _ _ ⟨v, H', I', r, q⟩ => ⟨v, H', I'.unwish, r, q⟩) fun _ _ z => False.elim z
theorem PT.nox {e : Expr} {t : TT} (h : PT X.nox e t) : PT X e t := fun pins s σ H Q I hw =>
  wpAny_mono (h pins s σ H Q (I.wish _) hw) (fun _ _ ⟨H', I', q⟩ => ⟨H', I'.unwish, q⟩) fun _ _ z => False.elim z
theorem PSs.nox {st : List Stmt} {t : TS} (h : PSs X.nox st t) : PSs X st t := fun pins s σ H D I hw =>
  wpAny_mono (h pins s σ H D (I.wish _) hw) (fun _ _ q => q.unwish) fun _ _ z => False.elim z
end
section
variable {X : Cx} {st : Stmt} {rest : List Stmt} {t u : TS} {e : Expr} {te : TE} {pos : Pos}
def tNext : TS := fun D σ H => D.nx σ H
def tSeq (t u : TS) : TS := fun D σ H => t { D with nx := u D } σ H
theorem pss_nil : PSs X [] tNext := fun _ _ σ H _ I h => wpAny_execs_nil ⟨σ, H, I, h⟩
theorem pss_cons (h1 : PS X st t) (h2 : PSs X rest u) : PSs X (st :: rest) (tSeq t u) := by
  intro pins s σ H D I h
  refine wpAny_execs_cons (thn (h1 pins s σ H { D with nx := u D } I h) fun f s1 q => ?_)
  cases f with
  | next =>
    obtain ⟨σ', H', I', q⟩ := q
    exact h2 pins s1 σ' H' D I' q
  | ret v => exact q
  | brk => exact q
  | cont => exact q
theorem pss_one (h1 : PS X st t) : PSs X [st] t := by
  intro pins s σ H D I h
  refine wpAny_execs_cons (thn (h1 pins s σ H D I h) fun f s1 q => ?_)
  cases f with
  | next => exact wpAny_execs_nil q
  | ret v => exact q
  | brk => exact q
  | cont => exact q
def tCont : TS := fun D σ H => D.ct σ H
theorem ps_continue : PS X (.Continue pos) tCont := fun _ _ σ H _ I h => wpAny_Continue ⟨σ, H, I, h⟩
theorem Inv.quiet {pins : List (Addr × Obj)} {σ : St} {H : Hp} {s : Shared} (I : Inv X pins σ H s) : interactive X.env = false := by simp [interactive, I.ok.kind]
def tDrop (te : TE) : TS := fun D σ H => te σ H fun _ H1 => D.nx σ H1
theorem ps_expr (he : PE X e te) (hs : swapsWith e none pos.line X.env = pure false := by rfl) : PS X (.Expr e pos) (tDrop te) := by
  intro pins s σ H D I h
  exact wpAny_Expr_any (thn (he pins s σ H _ I h) fun v s1 ⟨x, H1, I1, r1, q1⟩ => ⟨σ, H1, I1, q1⟩) I.quiet hs
def tRet (te : TE) : TS := fun D σ H => te σ H D.rt
theorem ps_ret (he : PE X e te) : PS X (.Return (some e) pos) (tRet te) := by
  intro pins s σ H D I h
  exact wpAny_Return_some (thn (he pins s σ H _ I h) fun v s1 ⟨x, H1, I1, r1, q1⟩ => ⟨x, σ, H1, I1, r1, q1⟩)
def tIfS (c : TT) (t u : TS) : TS := fun D σ H => c σ H fun b H1 => if b = true then t D σ H1 else u D σ H1
theorem ps_if {c : Expr} {a b : List Stmt} {tc : TT} (hc : PT X c tc) (ha : PSs X a t) (hb : PSs X b u) : PS X (.If c a b pos) (tIfS tc t u) := by
  intro pins s σ H D I h
  refine wpAny_If (thn (hc pins s σ H _ I h) fun d s1 ⟨H1, I1, q1⟩ => ?_)
  cases d with
  | true => exact ha pins s1 σ H1 D I1 q1
  | false => exact hb pins s1 σ H1 D I1 q1
def tNever : TS := fun _ _ _ => False
theorem ps_never : PS X st tNever := fun _ _ _ _ _ _ h => h.elim
end
abbrev TG := V → St → Hp → (St → Hp → Prop) → Prop
abbrev TGs := List V → St → Hp → (St → Hp → Prop) → Prop
def PG (X : Cx) (target : Expr) (t : TG) : Prop :=
  ∀ (pins : List (Addr × Obj)) (s : Shared) (σ : St) (H : Hp) (v : V) (u : Value) (Q : St → Hp → Prop), Inv X pins σ H s → RelV v u → t v σ H Q →
    wpAny (model X.prog X.w) X.A (assign target X.env u) (fun _ s' => ∃ σ' H', Inv X pins σ' H' s' ∧ Q σ' H') X.xe s
def PGs (X : Cx) (ts : List Expr) (t : TGs) : Prop :=
  ∀ (pins : List (Addr × Obj)) (s : Shared) (σ : St) (H : Hp) (vs : List V) (us : List Value) (Q : St → Hp → Prop), Inv X pins σ H s → Vals vs us → t vs σ H Q →
    wpAny (model X.prog X.w) X.A (assignInOrder ((assignEach ts X.env).map (·.2)) us) (fun _ s' => ∃ σ' H', Inv X pins σ' H' s' ∧ Q σ' H') X.xe s
abbrev TSet := V → V → V → Hp → (Hp → Prop) → Prop
def PSet (X : Cx) (t : TSet) : Prop :=
  ∀ (pins : List (Addr × Obj)) (s : Shared) (σ : St) (H : Hp) (o i v : V) (ov iv u : Value) (Q : Hp → Prop), Inv X pins σ H s → RelV o ov → RelV i iv → RelV v u → t o i v H Q →
    wpAny (model X.prog X.w) X.A (setItem ov iv u) (fun _ s' => ∃ H', Inv X pins σ H' s' ∧ Q H') X.xe s
section
variable {X : Cx} {pos : Pos}
def gName (i : Nat) : TG := fun v σ H Q => Q (σ.set i (some v)) H
theorem pg_name {i : Nat} {x : Str} (hN : X.N.Nodup) (hi : X.N[i]? = some x) (hx : Loc X.env.scope x) (hf : X.fn x = true ∨ X.env.scope.names.lookup x = some .local := by first | exact .inl rfl | exact .inr rfl | assumption) : PG X (.Name x pos) (gName i) := by
  intro pins s σ H v u Q I r h
  exact wpAny_assign_Name (store_ok I hN hi hx r (fun s' I' => ⟨_, H, I', h⟩) hf)
def gNil : TGs := fun vs σ H Q => vs = [] ∧ Q σ H
def gCons (t : TG) (u : TGs) : TGs := fun vs σ H Q => ∃ v r, vs = v :: r ∧ t v σ H fun σ' H' => u r σ' H' Q
theorem pgs_nil : PGs X [] gNil := by
  intro pins s σ H vs us Q I r h
  obtain ⟨e, h⟩ := h
  subst e
  cases r
  exact assignInOrder_nil ⟨σ, H, I, h⟩
theorem pgs_cons {e : Expr} {es : List Expr} {t : TG} {u : TGs} (h1 : PG X e t) (h2 : PGs X es u)
    (hs : (assignEach (e :: es) X.env).map (·.2) = assign e X.env :: (assignEach es X.env).map (·.2) := by rfl) : PGs X (e :: es) (gCons t u) := by
  intro pins s σ H vs us Q I r h
  obtain ⟨v, vr, e1, h⟩ := h
  subst e1
  cases r with
  | cons r rr =>
    rw [hs]
    refine assignInOrder_cons (thn (h1 pins s σ H _ _ _ I r h) fun _ s1 ⟨σ1, H1, I1, q1⟩ => ?_)
    exact h2 pins s1 σ1 H1 _ _ Q I1 rr q1
def gTup (K : PySem.W.Frag) (n : Nat) (t : TGs) : TG := fun v σ H Q => ∃ a xs, v = .ref a ∧ SqT K H a xs ∧ xs.length = n ∧ t xs σ H Q
theorem pg_tup {es : List Expr} {k : Nat} {t : TGs} {n : Nat} (hc : X.calm = true) (h : PGs X es t)
    (hn : (assignEach es X.env).length = n := by rfl) (hst : (assignEach es X.env).findIdx? (·.1) = none := by rfl) : PG X (.Tuple es k pos) (gTup X.K n t) := by
  intro pins s σ H v u Q I r hw
  obtain ⟨a, xs, e1, hq, hl, hw⟩ := hw
  subst e1
  cases r
  obtain ⟨its, rv, ht, hz⟩ := I.tuple hq
  refine assign_Tuple_tuple (I.ok.hd hc) ht (by simp [hn, ← hl, rv.length]) hst fun h' hx => ?_
  have I1 : Inv X pins σ H { s with heap := h' } := I.kept (t' := s.toks) fun b o e => hx b o (Nat.ne_of_lt (Heap.lt_size e)) e
  exact h pins _ σ H xs _ Q I1 (by simpa using rv) hw
def gSub (to ti : TE) (t : TSet) : TG := fun v σ H Q => to σ H fun o H1 => ti σ H1 fun i H2 => t o i v H2 fun H3 => Q σ H3
theorem pg_sub {o i : Expr} {to ti : TE} {t : TSet} (ho : PE X o to) (hi : PE X i ti) (hs : PSet X t)
    (ha : ∀ v, assign (.Subscript o i pos) X.env v = (do
      let ov ← holding [v] (eval o X.env)
      let iv ← holding [v, ov] (eval i X.env)
      standAt pos
      holding [v, ov, iv] (setItem ov iv v)
      release [v, ov, iv] []) := by intro _; rfl) : PG X (.Subscript o i pos) (gSub to ti t) := by
  intro pins s σ H v u Q I r h
  rw [ha]
  refine wpAny_bind (wpAny_holding (thn (ho pins s σ H _ I h) fun ov s1 ⟨x, H1, I1, r1, q1⟩ => ?_))
  refine wpAny_bind (wpAny_holding (thn (hi pins s1 σ H1 _ I1 q1) fun iv s2 ⟨y, H2, I2, r2, q2⟩ => ?_))
  refine wpAny_bind (wpAny_standAt (wpAny_bind (wpAny_holding (thn (hs pins s2 σ H2 x y v ov iv u _ I2 r1 r2 r q2) fun _ s3 ⟨H3, I3, q3⟩ => ?_))))
  exact wpAny_release ⟨σ, H3, I3, q3⟩
def tAsg (te : TE) (g : TG) : TS := fun D σ H => te σ H fun x H1 => g x σ H1 D.nx
theorem ps_asg {tg e : Expr} {te : TE} {g : TG} (he : PE X e te) (hg : PG X tg g) (hs : swapsWithSole [tg] e pos.line X.env = pure false := by rfl) (hw : swappedStores [tg] e X.env = pure none := by rfl)
    (h1 : (assignEach [tg] X.env).map (·.2) = [assign tg X.env] := by rfl) : PS X (.Assign [tg] e pos) (tAsg te g) := by
  intro pins s σ H D I h
  refine wpAny_Assign_stores (thn (he pins s σ H _ I h) fun v s1 ⟨x, H1, I1, r1, q1⟩ => ?_) hs hw
  rw [h1]
  exact thn (hg pins s1 σ H1 x v _ I1 r1 q1) fun _ s2 q => q
theorem ps_set {i : Nat} {x : Str} {e : Expr} {te : TE} {pos' : Pos} (hN : X.N.Nodup) (hi : X.N[i]? = some x) (hx : Loc X.env.scope x) (he : PE X e te) (hs : swapsWith e (some (.Name x pos')) pos.line X.env = pure false := by rfl) (hf : X.fn x = true ∨ X.env.scope.names.lookup x = some .local := by first | exact .inl rfl | exact .inr rfl | assumption) :
    PS X (.Assign [.Name x pos'] e pos) (tAsg te (gName i)) := by
  intro pins s σ H D I h
  refine wpAny_Assign_Name (thn (he pins s σ H _ I h) fun v s1 ⟨y, H1, I1, r1, q1⟩ => ?_) hs
  exact store_ok I1 hN hi hx r1 (fun s2 I2 => ⟨_, H1, I2, q1⟩) hf
end
section
variable {X : Cx} {pos : Pos}
end
structure It where
  go : Nat → Hp → Prop
  yld : Nat → Hp → V → Hp → Prop
  stop : Nat → Hp → Prop
def FpOk (X : Cx) (pins : List (Addr × Obj)) (H : Hp) (b : Addr) : Prop :=
  H b = none ∧ b ≠ X.env.locals ∧ b ∉ X.fs ∧ (b ∈ X.ex ∨ X.s_0.heap.objs.size ≤ b) ∧ (∀ x c, X.env.cells.lookup x = some c → c ≠ b) ∧ ∀ p ∈ X.pn ++ pins, p.1 ≠ b
theorem Inv.fpOk {X : Cx} {pins : List (Addr × Obj)} {σ : St} {H H' : Hp} {s : Shared} {b : Addr} (I : Inv X pins σ H s) (hb : s.heap.objs.size ≤ b) (hn : H' b = none) : FpOk X pins H' b := by
  refine ⟨hn, Nat.ne_of_gt (Nat.lt_of_lt_of_le I.lt hb), I.nofs hb, .inr (Nat.le_trans I.sz hb), fun x c e z => ?_, fun p hp z => ?_⟩
  · obtain ⟨v, q⟩ := I.cell x c e
    exact absurd (Nat.lt_of_lt_of_le q.lt (by rw [z]; exact hb)) (Nat.lt_irrefl _)
  · exact absurd (Nat.lt_of_lt_of_le (Heap.lt_size (I.pin p hp).1) (by rw [z]; exact hb)) (Nat.lt_irrefl _)
structure Turn (P : Program) (w : World) (K : PySem.W.Frag) (tg : Expr) (J : It) (fp : List Addr) (it : Addr) (tn : Nat → Heap → Prop) : Prop where
  mem : it ∈ fp
  obj : ∀ i h, tn i h → ∀ b ∈ fp, ∃ o, h.get? b = some o ∧ ∀ v, o.data ≠ .cell v
  keep : ∀ i h h', tn i h → (∀ b ∈ fp, ∀ o, h.get? b = some o → h'.get? b = some o) → tn i h'
  item : ∀ (X : Cx), X.prog = P → X.w = w → X.K = K → X.calm = true → ∀ (i : Nat) (pins : List (Addr × Obj)) (s : Shared) (σ : St) (H : Hp) (E : Value → Shared → Prop), Inv X pins σ H s → (∀ b ∈ fp, FpOk X pins H b) → tn i s.heap → J.go i H →
    wpAny (model P w) X.A (pyNext (.ref it)) (fun r s1 => ∃ u, r = some u ∧
      wpAny (model P w) X.A (letOwnedTupleGo tg (.ref it) u) (fun _ s2 => ∃ x H', Inv X pins σ H' s2 ∧ RelV x u ∧ J.yld i H x H' ∧ tn (i + 1) s2.heap ∧ ∀ b ∈ fp, H' b = none) E s1) E s
  done : ∀ (X : Cx), X.prog = P → X.w = w → X.K = K → X.calm = true → ∀ (i : Nat) (pins : List (Addr × Obj)) (s : Shared) (σ : St) (H : Hp) (E : Value → Shared → Prop), Inv X pins σ H s → (∀ b ∈ fp, FpOk X pins H b) → tn i s.heap → J.stop i H →
    wpAny (model P w) X.A (pyNext (.ref it)) (fun r s1 => r = none ∧ Inv X pins σ H s1) E s
  self : ∀ (A : Around) (i : Nat) (s : Shared) (Q : Value → Shared → Prop) (E : Value → Shared → Prop), tn i s.heap → Q (.ref it) s → wpAny (model P w) A (pyIter (.ref it)) Q E s
abbrev TI := St → Hp → (It → Hp → Prop) → Prop
def PIE (X : Cx) (pins : List (Addr × Obj)) (σ : St) (tg : Expr) (R : It → Hp → Prop) (itv : Value) (s2 : Shared) : Prop :=
  ∃ (it : Addr) (fp : List Addr) (tn : Nat → Heap → Prop) (J : It) (H' : Hp), itv = .ref it ∧ Inv X pins σ H' s2 ∧ Turn X.prog X.w X.K tg J fp it tn ∧ tn 0 s2.heap ∧ (∀ b ∈ fp, FpOk X pins H' b) ∧ R J H'
def PI (X : Cx) (tg iter : Expr) (wi : TI) : Prop :=
  ∀ (pins : List (Addr × Obj)) (s : Shared) (σ : St) (H : Hp) (R : It → Hp → Prop), Inv X pins σ H s → wi σ H R →
    wpAny (model X.prog X.w) X.A (eval iter X.env) (fun v s1 => wpAny (model X.prog X.w) X.A (pyIter v) (PIE X pins σ tg R) X.xe s1) X.xe s
theorem go_of {M : Model} {A : Around} {E : Value → Shared → Prop} {s : Shared} {tg : Expr} {it : Addr} {u : Value} {o : Obj} {n : String} {vs : Array Value} {Q : Unit → Shared → Prop} (ho : s.heap.get? it = some o) (hc : o.cls = .type n) (hd : o.data = .fields vs)
    (hn : ["enumerate", "zip", "dict_itemiterator", "dict_reverseitemiterator", "odict_iterator", "itertools.zip_longest", "itertools.pairwise"].contains n = false) (hQ : Q () s) : wpAny M A (letOwnedTupleGo tg (.ref it) u) Q E s := by
  unfold letOwnedTupleGo
  cases tg <;> first
    | exact wpAny_pure hQ
    | (cases u <;> first
        | exact wpAny_pure hQ
        | (refine wpAny_bind (wpAny_load ho ?_)
           rw [hc, hd]
           show wpAny M A (if (["enumerate", "zip", "dict_itemiterator", "dict_reverseitemiterator", "odict_iterator", "itertools.zip_longest", "itertools.pairwise"].contains n && vs[0]? == some (rawInt _)) = true then _ else _) Q E s
           rw [if_neg (by intro h; rw [hn, Bool.false_and] at h; cases h)]
           exact wpAny_pure hQ))
def Itl (K : PySem.W.Frag) (a : Addr) : It :=
  ⟨fun i H => ∃ xs x, SqL K H a xs ∧ xs[i]? = some x, fun i H x H' => H' = H ∧ ∀ xs, SqL K H a xs → xs[i]? = some x, fun i H => ∃ xs, SqL K H a xs ∧ xs.length ≤ i⟩
def Itr (lo : Int) (n : Nat) : It := ⟨fun i _ => i < n, fun i H x H' => H' = H ∧ x = .int (lo + i), fun i _ => n ≤ i⟩
theorem turn_list {P : Program} {w : World} {K : PySem.W.Frag} {tg : Expr} (a it : Addr) : Turn P w K tg (Itl K a) [it] it (fun i h => h.IsListIter it a i) where
  mem := by simp
  obj := fun i h st b hb => by
    have e : b = it := by simpa using hb
    subst e
    obtain ⟨o, e, c, d⟩ := st
    exact ⟨o, e, fun v z => by rw [d] at z; cases z⟩
  keep := fun i h h' st k => st.at fun o e => k it (by simp) o e
  item := by
    intro X hP hw hK hc i pins s σ H E I hf st hg
    subst hP hw hK
    obtain ⟨xs, x, hq, hx⟩ := hg
    obtain ⟨its, rv, p, hz⟩ := I.list hq
    obtain ⟨u, hu, ru⟩ := rv.get hx
    obtain ⟨f0, f1, f2, f3, f4, f5⟩ := hf it (by simp)
    refine wpAny_pyNext_list_item st p.isList (x := u) (by simpa using hu) fun h' st' sb => ?_
    have I1 : Inv X pins σ H { s with heap := h' } := I.turned (t' := s.toks) (fun b o hb e => (sb.2 b hb).trans e) f0 f1 f3 f4 f5
    obtain ⟨o, e, c, d⟩ := id st'
    exact ⟨u, rfl, go_of (s := { s with heap := h' }) e c d (by decide) ⟨x, H, I1, ru, ⟨rfl, fun ys hy => by rw [I.list_inj hy hq]; exact hx⟩, st', fun b hb => (hf b hb).1⟩⟩
  done := by
    intro X hP hw hK hc i pins s σ H E I hf st hg
    subst hP hw hK
    obtain ⟨xs, hq, hx⟩ := hg
    obtain ⟨its, rv, p, hz⟩ := I.list hq
    obtain ⟨f0, f1, f2, f3, f4, f5⟩ := hf it (by simp)
    have hl := rv.length
    exact wpAny_pyNext_list_end (I.ok.hd hc) st p.isList (by simp; omega) fun h' eb => ⟨rfl, I.turned (t' := s.toks) (fun b o hb e => eb b o hb e) f0 f1 f3 f4 f5⟩
  self := fun _ _ _ _ _ st h => wpAny_pyIter_listiter st h
theorem turn_range {P : Program} {w : World} {K : PySem.W.Frag} {tg : Expr} (it : Addr) (lo : Int) (n : Nat) : Turn P w K tg (Itr lo n) [it] it (fun i h => IsRangeIter h it (lo + (i : Nat) * 1) ((n : Int) - (i : Nat)) 1) where
  mem := by simp
  obj := fun i h st b hb => by
    have e : b = it := by simpa using hb
    subst e
    exact ⟨_, st, fun v z => by
      have z' : Data.fields _ = Data.cell v := z
      cases z'⟩
  keep := fun i h h' st k => k it (by simp) _ st
  item := by
    intro X hP hw hK hc i pins s σ H E I hf st hg
    subst hP hw hK
    obtain ⟨f0, f1, f2, f3, f4, f5⟩ := hf it (by simp)
    have W := Walks.range (prog := X.prog) (w := X.w) (I.ok.hd hc) it lo 1 n
    refine W.item i s _ _ hg st fun v h' tk hv st' kk => ?_
    obtain ⟨t, rfl⟩ := hv
    have I1 : Inv X pins σ H { s with heap := h', toks := tk } := I.turned (fun b o hb e => kk b o (by simpa using hb) e) f0 f1 f3 f4 f5
    refine ⟨_, rfl, go_of (s := { s with heap := h', toks := tk }) (n := "range_iterator") st' rfl rfl (by decide) ⟨.int (lo + i), H, I1, ⟨t, ?_⟩, ⟨rfl, rfl⟩, st', fun b hb => (hf b hb).1⟩⟩
    rw [Int.mul_one]
  done := by
    intro X hP hw hK hc i pins s σ H E I hf st hg
    subst hP hw hK
    obtain ⟨f0, f1, f2, f3, f4, f5⟩ := hf it (by simp)
    exact wpAny_pyNext_range_end (I.ok.hd hc) st (by have : n ≤ i := hg; omega) fun h' eb => ⟨rfl, I.turned (t' := s.toks) (fun b o hb e => eb b o hb e) f0 f1 f3 f4 f5⟩
  self := fun _ _ _ _ _ st h => wpAny_pyIter_rangeiter st h
end L2
namespace L2
open PySem PySem.Spec PyProof.Rows
section
variable {X : Cx} {tg : Expr}
def iList (K : PySem.W.Frag) (tl : TE) : TI := fun σ H R => tl σ H fun x H1 => ∃ a, x = .ref a ∧ (∃ xs, SqL K H1 a xs) ∧ R (Itl K a) H1
theorem pi_list {l : Expr} {tl : TE} (hl : PE X l tl) : PI X tg l (iList X.K tl) := by
  intro pins s σ H R I h
  refine thn (hl pins s σ H _ I h) fun v s1 ⟨x, H1, I1, r1, q1⟩ => ?_
  obtain ⟨a, e, ⟨xs, hq⟩, q⟩ := q1
  subst e
  cases r1
  obtain ⟨its, rv, p, hz⟩ := I1.list hq
  refine wpAny_pyIter_list p.isList ?_
  refine ⟨s1.heap.objs.size, [s1.heap.objs.size], _, _, H1, rfl, I1.kept (t' := s1.toks) fun b o e => Heap.get?_push_of_some _ e, turn_list a _, ⟨_, Heap.get?_push_size _ rfl, rfl, rfl⟩, fun b hb => ?_, q⟩
  have e : b = s1.heap.objs.size := by simpa using hb
  subst e
  exact I1.fpOk (Nat.le_refl _) (I1.hok.fresh (Nat.le_refl _))
theorem range_it {pins : List (Addr × Obj)} {σ : St} {H : Hp} {s : Shared} {R : It → Hp → Prop} {E : Value → Shared → Prop} {lo hi : Int} {t u v : Tok} {tk : Nat} (I : Inv X pins σ H s) (h1 : -(2 ^ 62) ≤ lo) (h2 : lo < 2 ^ 62) (h3 : -(2 ^ 62) ≤ hi) (h4 : hi < 2 ^ 62)
    (q : R (Itr lo (hi - lo).toNat) H) : wpAny (model X.prog X.w) X.A (pyIter (.ref s.heap.objs.size)) (PIE X pins σ tg R) E { s with heap := s.heap.push { cls := .type "range", data := .fields #[.int lo t, .int hi u, .int 1 v] }, toks := tk } := by
  refine wpAny_pyIter_range (IsRange.new ..) (small_one h1 h2 h3 h4) ?_
  have I1 : Inv X pins σ H { s with heap := s.heap.push { cls := .type "range", data := .fields #[.int lo t, .int hi u, .int 1 v] }, toks := tk } := I.kept fun b o e => Heap.get?_push_of_some _ e
  refine ⟨(s.heap.push { cls := .type "range", data := .fields #[.int lo t, .int hi u, .int 1 v] }).objs.size, [(s.heap.push { cls := .type "range", data := .fields #[.int lo t, .int hi u, .int 1 v] }).objs.size], _, _, H, rfl,
    I1.kept (t' := tk) fun b o e => Heap.get?_push_of_some _ e, turn_range _ lo (hi - lo).toNat, ?_, fun b hb => ?_, q⟩
  · have e1 : lo + ((0 : Nat) : Int) * 1 = lo := by simp
    have e2 : (((hi - lo).toNat : Nat) : Int) - ((0 : Nat) : Int) = Builtin.Range.rangeSize lo hi 1 := by rw [rangeSize_one]; split <;> omega
    show IsRangeIter _ _ (lo + ((0 : Nat) : Int) * 1) ((((hi - lo).toNat : Nat) : Int) - ((0 : Nat) : Int)) 1
    rw [e1, e2]
    exact Heap.get?_push_size _ rfl
  · have e : b = (s.heap.push { cls := .type "range", data := .fields #[.int lo t, .int hi u, .int 1 v] }).objs.size := by simpa using hb
    subst e
    exact I1.fpOk (Nat.le_refl _) (I1.hok.fresh (Nat.le_refl _))
def iRng1 (ta : TA) : TI := fun σ H R => ta σ H fun vs H1 => ∃ j : Int, vs = [.int j] ∧ -(2 ^ 62) ≤ j ∧ j < 2 ^ 62 ∧ R (Itr 0 j.toNat) H1
theorem pi_range1 {a : Expr} {ta : TA} {p pos : Pos} (hg : Gl X "range") (hm : X.mg "range" = none) (ha : PA X [a] ta) (hs : starEach [a] X.env = [(false, eval a X.env)] := by rfl) : PI X tg (.Call (.Name "range" p) [a] [] pos) (iRng1 ta) := by
  intro pins s σ H R I h
  refine Call_ (ld_blt I hg hm boot_range (PyProof.Rows.callWith_type1 (thn (ha pos pins s σ H _ I h) fun us s1 ⟨vs, H1, I1, r1, q1⟩ => ?_) hs rfl))
  obtain ⟨j, e, q1, q2, q⟩ := q1
  subst e
  cases r1 with
  | cons r rr =>
    cases rr
    obtain ⟨t, rfl⟩ := r
    exact call_range_1 (range_it I1 (by omega) (by omega) q1 q2 (by simpa using q))
def tFor (wi : TI) (g : TG) (tb : TS) : TS := fun D σ H => wi σ H fun J H1 => ∃ W : Nat → Nat → St → Hp → Prop, (∃ m, W 0 m σ H1) ∧ ∀ i m σ H, W i m σ H →
  (J.stop i H ∧ D.nx σ H) ∨ (J.go i H ∧ ∃ N : St → Hp → Prop, (∀ σ' H', N σ' H' → ∃ m', m' < m ∧ W (i + 1) m' σ' H') ∧ ∀ x H', J.yld i H x H' → g x σ H' fun σ2 H2 => tb { D with nx := N, ct := N, bk := D.nx } σ2 H2)
def pinsAt (fp : List Addr) (h : Heap) : List (Addr × Obj) := fp.filterMap fun b => (h.get? b).map fun o => (b, o)
theorem mem_pinsAt {fp : List Addr} {h : Heap} {b : Addr} {o : Obj} (hb : b ∈ fp) (e : h.get? b = some o) : (b, o) ∈ pinsAt fp h := List.mem_filterMap.mpr ⟨b, hb, by rw [e]; rfl⟩
theorem of_pinsAt {fp : List Addr} {h : Heap} {p : Addr × Obj} (hp : p ∈ pinsAt fp h) : p.1 ∈ fp ∧ h.get? p.1 = some p.2 := by
  obtain ⟨b, hb, e⟩ := List.mem_filterMap.mp hp
  cases q : h.get? b with
  | none => rw [q] at e; cases e
  | some o =>
    rw [q] at e
    have e' : (b, o) = p := Option.some.inj e
    subst e'
    exact ⟨hb, q⟩
theorem Inv.pinned {pins : List (Addr × Obj)} {σ : St} {H : Hp} {s : Shared} {fp : List Addr} (I : Inv X pins σ H s) (hf : ∀ b ∈ fp, FpOk X pins H b) (ho : ∀ b ∈ fp, ∃ o, s.heap.get? b = some o ∧ ∀ v, o.data ≠ .cell v) : Inv X (pins ++ pinsAt fp s.heap) σ H s :=
  I.pins_of fun p hp => (List.mem_append.mp hp).elim (fun z => I.pin p (List.mem_append_right _ z)) fun z => by
    obtain ⟨hb, e⟩ := of_pinsAt z
    obtain ⟨f0, f1, f2, _⟩ := hf p.1 hb
    obtain ⟨o, e', d⟩ := ho p.1 hb
    rw [e] at e'; cases e'
    exact ⟨e, f0, f1, f2, d⟩
theorem Inv.unpinned {pins pl : List (Addr × Obj)} {σ : St} {H : Hp} {s : Shared} (I : Inv X (pins ++ pl) σ H s) : Inv X pins σ H s := I.pins_of fun p hp => I.pin p (List.mem_append_right _ (List.mem_append_left _ hp))
theorem ps_for {iter : Expr} {body : List Stmt} {wi : TI} {g : TG} {tb : TS} {pos : Pos} (hp : PassesOwn (model X.prog X.w) X.A X.env X.xe) (hc : X.calm = true) (hi : PI X tg iter wi) (hg : PG X tg g) (hb : PSs X body tb)
    (hs : ∀ x, foldedSetIterable iter X.env x = pure x := by intro _; rfl) : PS X (.For tg iter body [] pos) (tFor wi g tb) := by
  intro pins s σ H D I h
  refine wpAny_For (thn (hi pins s σ H _ I h) fun v s1 h1 => thn h1 fun itv s2 h2 => ?_) hs
  obtain ⟨it, fp, tn, J, H2, e, I2, T, st2, f2, W, ⟨m0, w0⟩, turn⟩ := h2
  subst e
  -- what stays true of the iterator's objects through the loop
  have stat : ∀ {H' : Hp}, (∀ b ∈ fp, H' b = none) → ∀ b ∈ fp, FpOk X pins H' b := fun hn b hb => ⟨hn b hb, (f2 b hb).2⟩
  refine codeAny_forLoop_any (fun n s' => ∃ i σ' H', Inv X pins σ' H' s' ∧ tn i s'.heap ∧ (∀ b ∈ fp, H' b = none) ∧ W i n σ' H') ?_ m0 ⟨0, σ, H2, I2, st2, fun b hb => (f2 b hb).1, w0⟩
  rintro n s3 ⟨i, σ3, H3, I3, st3, fr3, w3⟩
  rcases turn i n σ3 H3 w3 with ⟨stop, qn⟩ | ⟨go, N, hN, step⟩
  · refine wpAny_passesOwn hp (thn (T.done X rfl rfl rfl hc i pins s3 σ3 H3 X.xe I3 (stat fr3) st3 stop) fun r s4 ⟨hr, I4⟩ => ?_)
    subst hr
    exact wpAny_execs_nil ⟨σ3, H3, I4, qn⟩
  · refine wpAny_passesOwn hp (thn (T.item X rfl rfl rfl hc i pins s3 σ3 H3 X.xe I3 (stat fr3) st3 go) fun r s4 ⟨u, hr, h4⟩ => ?_)
    subst hr
    refine wpAny_passesOwn hp (thn h4 fun _ s5 ⟨x, H5, I5, r5, y5, st5, fr5⟩ => ?_)
    have I5' := I5.pinned (stat fr5) (T.obj _ _ st5)
    refine wpAny_passesOwn hp (thn (hg _ s5 σ3 H5 x u _ I5' r5 (step x H5 y5)) fun _ s6 ⟨σ6, H6, I6, q6⟩ => ?_)
    refine wpAny_passesOwn hp (thn (hb _ s6 σ6 H6 _ I6 q6) fun f s7 q7 => ?_)
    have again : ∀ {σ7 : St} {H7 : Hp}, Inv X (pins ++ pinsAt fp s5.heap) σ7 H7 s7 → N σ7 H7 → ∃ m, m < n ∧ ∃ i σ' H', Inv X pins σ' H' s7 ∧ tn i s7.heap ∧ (∀ b ∈ fp, H' b = none) ∧ W i m σ' H' := fun {σ7 H7} I7 n7 => by
      obtain ⟨m', hm, w7⟩ := hN σ7 H7 n7
      refine ⟨m', hm, i + 1, σ7, H7, I7.unpinned, T.keep _ _ _ st5 fun b hb o e => (I7.pin (b, o) (List.mem_append_right _ (List.mem_append_right _ (mem_pinsAt hb e)))).1, fun b hb => ?_, w7⟩
      obtain ⟨o, e, d⟩ := T.obj _ _ st5 b hb
      exact (I7.pin (b, o) (List.mem_append_right _ (List.mem_append_right _ (mem_pinsAt hb e)))).2.1
    cases f with
    | next => obtain ⟨σ7, H7, I7, n7⟩ := q7; exact again I7 n7
    | cont => obtain ⟨σ7, H7, I7, n7⟩ := q7; exact again I7 n7
    | brk => obtain ⟨σ7, H7, I7, q7⟩ := q7; exact ⟨σ7, H7, I7.unpinned, q7⟩
    | ret v => obtain ⟨x7, σ7, H7, I7, r7, q7⟩ := q7; exact ⟨x7, σ7, H7, I7.unpinned, r7, q7⟩
end
end L2
namespace L2
open PySem PySem.Spec PyProof.Rows
abbrev R2 := V → V → Hp → VK → Prop
def OpR (X : Cx) (f : Value → Value → Sem Value) (r : R2) : Prop :=
  ∀ (pins : List (Addr × Obj)) (s : Shared) (σ : St) (H : Hp) (x y : V) (v u : Value) (Q : VK), Inv X pins σ H s → RelV x v → RelV y u → r x y H Q →
    wpAny (model X.prog X.w) X.A (f v u) (EP X pins σ Q) X.xe s
def UnR (X : Cx) (f : Value → Sem Value) (r : V → Hp → VK → Prop) : Prop :=
  ∀ (pins : List (Addr × Obj)) (s : Shared) (σ : St) (H : Hp) (x : V) (v : Value) (Q : VK), Inv X pins σ H s → RelV x v → r x H Q →
    wpAny (model X.prog X.w) X.A (f v) (EP X pins σ Q) X.xe s
def CallR (X : Cx) (f : Value) (r : List V → Hp → VK → Prop) : Prop :=
  ∀ (pins : List (Addr × Obj)) (s : Shared) (σ : St) (H : Hp) (xs : List V) (us : List Value) (Q : VK), Inv X pins σ H s → Vals xs us → r xs H Q →
    wpAny (model X.prog X.w) X.A (call f us) (EP X pins σ Q) X.xe s
def tOp (r : R2) (ta tb : TE) : TE := fun σ H Q => ta σ H fun x H1 => tb σ H1 fun y H2 => r x y H2 Q
def tUn (r : V → Hp → VK → Prop) (ta : TE) : TE := fun σ H Q => ta σ H fun x H1 => r x H1 Q
def rI (C : Int → Int → Prop) (g : Int → Int → V) : R2 := fun x y H Q => ∃ i j, x = .int i ∧ y = .int j ∧ C i j ∧ Q (g i j) H
def rI0 (g : Int → Int → V) : R2 := fun x y H Q => ∃ i j, x = .int i ∧ y = .int j ∧ Q (g i j) H
def rU (g : Int → V) : V → Hp → VK → Prop := fun x H Q => ∃ i, x = .int i ∧ Q (g i) H
section
variable {X : Cx} {a b c : Expr} {ta tb tc : TE} {pos : Pos}
theorem binT (ha : PE X a ta) (hb : PE X b tb) {pins : List (Addr × Obj)} {s : Shared} {σ : St} {H : Hp} {R : V → V → Hp → Prop} (I : Inv X pins σ H s)
    (h : ta σ H fun x H1 => tb σ H1 fun y H2 => R x y H2) {Q : Value → Shared → Prop} {f : Value → Value → Sem Value}
    (hf : ∀ v u s2 x y H2, Inv X pins σ H2 s2 → RelV x v → RelV y u → R x y H2 → wpAny (model X.prog X.w) X.A (f v u) Q X.xe s2) :
    wpAny (model X.prog X.w) X.A (eval a X.env) (fun v s₁ => wpAny (model X.prog X.w) X.A (eval b X.env) (fun u s₂ => wpAny (model X.prog X.w) X.A (f v u) Q X.xe s₂) X.xe s₁) X.xe s := by
  refine thn (ha pins s σ H _ I h) fun v s1 ⟨x, H1, I1, r1, q1⟩ => ?_
  refine thn (hb pins s1 σ H1 _ I1 q1) fun u s2 ⟨y, H2, I2, r2, q2⟩ => ?_
  exact hf v u s2 x y H2 I2 r1 r2 q2
theorem pe_op {op : Operator} {r : R2} (ho : OpR X (binaryOp op) r) (ha : PE X a ta) (hb : PE X b tb) : PE X (.BinOp a op b pos) (tOp r ta tb) := by
  intro pins s σ H Q I h
  exact wpAny_BinOp (binT ha hb I h fun v u s2 x y H2 I2 rx ry q => ho pins s2 σ H2 x y v u Q I2 rx ry q)
theorem pe_un {op : UnaryOp} {r : V → Hp → VK → Prop} (ho : UnR X (unaryOp op) r) (ha : PE X a ta) : PE X (.UnaryOp op a pos) (tUn r ta) := by
  intro pins s σ H Q I h
  exact UnaryOp_ (thn (ha pins s σ H _ I h) fun v s1 ⟨x, H1, I1, r1, q1⟩ => ho pins s1 σ H1 x v Q I1 r1 q1)
theorem opI {f : Value → Value → Sem Value} {C : Int → Int → Prop} {g : Int → Int → Int}
    (rule : ∀ (i j : Int) (t u : Tok) (s : Shared) (Q : Value → Shared → Prop) (E : Value → Shared → Prop), C i j → Q (.int (g i j) s.toks) { s with toks := s.toks + 1 } → wpAny (model X.prog X.w) X.A (f (.int i t) (.int j u)) Q E s) :
    OpR X f (rI C fun i j => .int (g i j)) := by
  intro pins s σ H x y v u Q I rx ry h
  obtain ⟨i, j, rfl, rfl, hc, q⟩ := h
  obtain ⟨t, rfl⟩ := rx
  obtain ⟨t', rfl⟩ := ry
  exact rule i j t t' s _ _ hc ⟨.int (g i j), H, I.tok _, ⟨_, rfl⟩, q⟩
theorem opI0 {f : Value → Value → Sem Value} {g : Int → Int → Int}
    (rule : ∀ (i j : Int) (t u : Tok) (s : Shared) (Q : Value → Shared → Prop) (E : Value → Shared → Prop), Q (.int (g i j) s.toks) { s with toks := s.toks + 1 } → wpAny (model X.prog X.w) X.A (f (.int i t) (.int j u)) Q E s) :
    OpR X f (rI0 fun i j => .int (g i j)) := by
  intro pins s σ H x y v u Q I rx ry h
  obtain ⟨i, j, rfl, rfl, q⟩ := h
  obtain ⟨t, rfl⟩ := rx
  obtain ⟨t', rfl⟩ := ry
  exact rule i j t t' s _ _ ⟨.int (g i j), H, I.tok _, ⟨_, rfl⟩, q⟩
theorem opB0 {f : Value → Value → Sem Value} {g : Int → Int → Bool}
    (rule : ∀ (i j : Int) (t u : Tok) (s : Shared) (Q : Value → Shared → Prop) (E : Value → Shared → Prop), Q (.bool (g i j)) s → wpAny (model X.prog X.w) X.A (f (.int i t) (.int j u)) Q E s) :
    OpR X f (rI0 fun i j => .bl (g i j)) := by
  intro pins s σ H x y v u Q I rx ry h
  obtain ⟨i, j, rfl, rfl, q⟩ := h
  obtain ⟨t, rfl⟩ := rx
  obtain ⟨t', rfl⟩ := ry
  exact rule i j t t' s _ _ ⟨.bl (g i j), H, I, rfl, q⟩
def CPow (i j : Int) : Prop := 0 ≤ j ∧ j ≤ 1000000 ∧ i.natAbs < 2 ^ 64
def CMul (i j : Int) : Prop := (-(2 ^ 64) < i ∧ i < 2 ^ 64) ∨ (-(2 ^ 64) < j ∧ j < 2 ^ 64)
theorem CMul.ok {i j : Int} (h : CMul i j) : IntMulOk i j := by
  rcases h with ⟨h1, h2⟩ | ⟨h1, h2⟩
  · exact .of_left (intBits_le_64 h1 h2)
  · exact .of_right (intBits_le_64 h1 h2)
theorem op_add : OpR X (binaryOp .Add) (rI0 fun i j => .int (i + j)) := opI0 fun _ _ _ _ _ _ _ q => add_int q
theorem op_sub : OpR X (binaryOp .Sub) (rI0 fun i j => .int (i - j)) := opI0 fun _ _ _ _ _ _ _ q => sub_int q
theorem op_mul : OpR X (binaryOp .Mult) (rI CMul fun i j => .int (i * j)) := opI fun _ _ _ _ _ _ _ hc q => mul_int q hc.ok
theorem op_mod : OpR X (binaryOp .Mod) (rI (fun _ j => 0 < j) fun i j => .int (i % j)) := opI fun i j _ _ _ _ _ hc q => by
  have h1 : (0 : Int) < j := hc
  exact mod_int' (by omega) (by rw [Int.fmod_eq_emod_of_nonneg i (by omega)]; exact q)
theorem op_pow : OpR X (binaryOp .Pow) (rI CPow fun i j => .int (i ^ j.toNat)) := opI fun _ _ _ _ _ _ _ hc q => pow_int_small hc.1 hc.2.1 hc.2.2 q
theorem unI {f : Value → Sem Value} {g : Int → Int}
    (rule : ∀ (i : Int) (t : Tok) (s : Shared) (Q : Value → Shared → Prop) (E : Value → Shared → Prop), Q (.int (g i) s.toks) { s with toks := s.toks + 1 } → wpAny (model X.prog X.w) X.A (f (.int i t)) Q E s) :
    UnR X f (rU fun i => .int (g i)) := by
  intro pins s σ H x v Q I rx h
  obtain ⟨i, rfl, q⟩ := h
  obtain ⟨t, rfl⟩ := rx
  exact rule i t s _ _ ⟨.int (g i), H, I.tok _, ⟨_, rfl⟩, q⟩
theorem un_neg : UnR X (unaryOp .USub) (rU fun i => .int (-i)) := unI fun _ _ _ _ _ q => neg_int q
end
section
variable {X : Cx} {a b c : Expr} {ta tb tc : TE} {pos : Pos}
theorem fin_bl {pins : List (Addr × Obj)} {σ : St} {H : Hp} {s : Shared} {Q : VK} {k k' : Bool} (I : Inv X pins σ H s) (q : Q (.bl k) H) (e : k = k') : EP X pins σ Q (.bool k') s := by
  subst e
  exact ⟨.bl k, H, I, rfl, q⟩
theorem op_lt : OpR X (compareOp .Lt) (rI0 fun i j => .bl (decide (i < j))) := opB0 fun _ _ _ _ _ _ _ q => lt_int q
theorem op_gt : OpR X (compareOp .Gt) (rI0 fun i j => .bl (decide (j < i))) := opB0 fun _ _ _ _ _ _ _ q => gt_int q
theorem op_isN : OpR X (compareOp .Is) (fun x y H Q => y = .non ∧ Q (.bl (decide (x = .non))) H) := by
  intro pins s σ H x y v u Q I rx ry h
  obtain ⟨rfl, q⟩ := h
  cases ry
  refine is_none_gen (fin_bl I q ?_)
  cases x <;> first
    | (cases rx; rfl)
    | (obtain ⟨t, rfl⟩ := rx; rfl)
theorem op_notN : OpR X (compareOp .IsNot) (fun x y H Q => y = .non ∧ Q (.bl (!decide (x = .non))) H) := by
  intro pins s σ H x y v u Q I rx ry h
  obtain ⟨rfl, q⟩ := h
  cases ry
  refine isnot_none_gen (fin_bl I q ?_)
  cases x <;> first
    | (cases rx; rfl)
    | (obtain ⟨t, rfl⟩ := rx; rfl)
theorem op_notin_str : OpR X (compareOp .NotIn) (fun x y H Q => ∃ i j, x = .str i ∧ y = .str j ∧ Q (.bl (!(!(Builtin.Str.occurrences j i 0 j.length 1).isEmpty))) H) := by
  intro pins s σ H x y v u Q I rx ry h
  obtain ⟨i, j, rfl, rfl, q⟩ := h
  obtain ⟨t, rfl⟩ := rx
  obtain ⟨t', rfl⟩ := ry
  exact notIn_str (fin_bl I q rfl)
theorem OpR.or {f : Value → Value → Sem Value} {r r' : R2} (h : OpR X f r) (h' : OpR X f r') : OpR X f (fun x y H Q => r x y H Q ∨ r' x y H Q) := by
  intro pins s σ H x y v u Q I rx ry q
  rcases q with q | q
  · exact h pins s σ H x y v u Q I rx ry q
  · exact h' pins s σ H x y v u Q I rx ry q
theorem nomark (b : Expr) {op : CmpOp} (h : op ≠ .In := by decide) (h2 : op ≠ .NotIn := by decide) : behindInMarks op b = false := by
  have e1 : (op == CmpOp.In) = false := by cases op <;> first | rfl | exact absurd rfl h
  have e2 : (op == CmpOp.NotIn) = false := by cases op <;> first | rfl | exact absurd rfl h2
  cases b <;> simp [behindInMarks, e1, e2]
theorem pe_cmpR {op : CmpOp} {r : R2} (ho : OpR X (compareOp op) r) (ha : PE X a ta) (hb : PE X b tb) (hm : behindInMarks op b = false) : PE X (.Compare a [op] [b] pos) (tOp r ta tb) := by
  intro pins s σ H Q I h
  exact wpAny_Compare1 (binT ha hb I h fun v u s2 x y H2 I2 rx ry q => ho pins s2 σ H2 x y v u Q I2 rx ry q) hm
def tTest (t : TE) : TT := fun σ H Q => t σ H fun x H' => ∃ k, x = .bl k ∧ Q k H'
theorem pt_cmpR {op : CmpOp} {r : R2} (ho : OpR X (compareOp op) r) (ha : PE X a ta) (hb : PE X b tb) (hm : behindInMarks op b = false) : PT X (.Compare a [op] [b] pos) (tTest (tOp r ta tb)) := by
  intro pins s σ H Q I h
  refine wpAny_isTrue_Compare1 (thn (ha pins s σ H _ I h) fun v s1 ⟨x, H1, I1, r1, q1⟩ => thn (hb pins s1 σ H1 _ I1 q1) fun u s2 ⟨y, H2, I2, r2, q2⟩ =>
    thn (ho pins s2 σ H2 x y v u _ I2 r1 r2 q2) fun c s3 ⟨z, H3, I3, r3, k, e, q3⟩ => ?_) hm
  subst e
  cases r3
  exact wpAny_truthy_bool ⟨H3, I3, q3⟩
theorem line63 : (sizeLine : Nat) < 2 ^ 63 := by rw [sizeLine_eq]; decide
theorem op_add_str : OpR X (binaryOp .Add) (fun x y H Q => ∃ i j, x = .str i ∧ y = .str j ∧ i.length + j.length ≤ sizeLine ∧ Q (.str (i ++ j)) H) := by
  intro pins s σ H x y v u Q I rx ry h
  obtain ⟨i, j, rfl, rfl, hz, q⟩ := h
  obtain ⟨t, rfl⟩ := rx
  obtain ⟨t', rfl⟩ := ry
  exact add_str (fun t' tk => ⟨.str (i ++ j), H, I.tok _, ⟨_, rfl⟩, q⟩) hz
theorem vals1 {x : V} {us : List Value} (r : Vals [x] us) : ∃ u, us = [u] ∧ RelV x u := by
  cases r with
  | cons r1 r2 => cases r2; exact ⟨_, rfl, r1⟩
theorem vals2 {x y : V} {us : List Value} (r : Vals [x, y] us) : ∃ u w', us = [u, w'] ∧ RelV x u ∧ RelV y w' := by
  cases r with
  | cons r1 r2 =>
    cases r2 with
    | cons r3 r4 => cases r4; exact ⟨_, _, rfl, r1, r3⟩
theorem call_abs : CallR X (.builtin "abs") (fun xs H Q => ∃ i, xs = [.int i] ∧ Q (.int (if i < 0 then -i else i)) H) := by
  intro pins s σ H xs us Q I r h
  obtain ⟨i, rfl, q⟩ := h
  obtain ⟨u, rfl, t, rfl⟩ := vals1 r
  exact call_abs_int fun u tk => ⟨.int (if i < 0 then -i else i), H, I.tok _, ⟨_, rfl⟩, q⟩
theorem call_max2 (hc : X.calm = true) : CallR X (.builtin "max") (fun xs H Q => ∃ i j, xs = [.int i, .int j] ∧ Q (.int (if j > i then j else i)) H) := by
  intro pins s σ H xs us Q I r h
  obtain ⟨i, j, rfl, q⟩ := h
  obtain ⟨u, w', rfl, ⟨t, rfl⟩, ⟨t', rfl⟩⟩ := vals2 r
  refine max_two_ints (I.ok.hd hc) fun h' tk k => ⟨_, H, I.kept k, ?_, q⟩
  by_cases hj : j > i
  · rw [if_pos hj, if_pos hj]; exact ⟨_, rfl⟩
  · rw [if_neg hj, if_neg hj]; exact ⟨_, rfl⟩
theorem call_int1 : CallR X (.type "int") (fun xs H Q => (∃ i, xs = [.int i] ∧ Q (.int i) H) ∨ ∃ k, xs = [.bl k] ∧ Q (.int (if k then 1 else 0)) H) := by
  intro pins s σ H xs us Q I r h
  rcases h with ⟨i, rfl, q⟩ | ⟨k, rfl, q⟩
  · obtain ⟨u, rfl, t, rfl⟩ := vals1 r
    exact call_int_int ⟨.int i, H, I, ⟨_, rfl⟩, q⟩
  · obtain ⟨u, rfl, r1⟩ := vals1 r
    cases r1
    exact call_int_bool ⟨.int (if k then 1 else 0), H, I.tok _, ⟨_, rfl⟩, q⟩
theorem call_str_int : CallR X (.type "str") (fun xs H Q => ∃ i, xs = [.int i] ∧ i.natAbs.log2 < 1920 ∧ Q (.str (toString i)) H) := by
  intro pins s σ H xs us Q I r h
  obtain ⟨i, rfl, hz, q⟩ := h
  obtain ⟨u, rfl, t, rfl⟩ := vals1 r
  exact PySem.P.str_of_int hz ⟨.str _, H, I.tok _, ⟨_, rfl⟩, q⟩
def LenV (K : PySem.W.Frag) (x : V) (H : Hp) (n : Nat) : Prop :=
  match x with
  | .str y => y.length ≤ sizeLine ∧ n = y.length
  | .byt y => y.size ≤ sizeLine ∧ n = y.size
  | .ref p => (∃ xs, SqL K H p xs ∧ n = xs.length) ∨ ∃ xs, SqT K H p xs ∧ n = xs.length
  | _ => False
theorem call_len : CallR X (.builtin "len") (fun xs H Q => ∃ x n, xs = [x] ∧ LenV X.K x H n ∧ Q (.int n) H) := by
  intro pins s σ H xs us Q I r h
  obtain ⟨x, n, rfl, e, q⟩ := h
  obtain ⟨u, rfl, rx⟩ := vals1 r
  have hl := line63
  have hs : sizeLine = 16777216 := sizeLine_eq
  cases x with
  | str y =>
    obtain ⟨t, rfl⟩ := rx
    obtain ⟨hy, e'⟩ : y.length ≤ sizeLine ∧ n = y.length := e
    subst e'
    exact len_str (by omega) ⟨.int _, H, I.tok _, ⟨_, rfl⟩, q⟩
  | byt y =>
    obtain ⟨t, rfl⟩ := rx
    obtain ⟨hy, e'⟩ : y.size ≤ sizeLine ∧ n = y.size := e
    subst e'
    exact PySem.W.len_bytes (by omega) ⟨.int _, H, I.tok _, ⟨_, rfl⟩, q⟩
  | ref p =>
    cases rx
    have e' : (∃ xs, SqL X.K H p xs ∧ n = xs.length) ∨ ∃ xs, SqT X.K H p xs ∧ n = xs.length := e
    rcases e' with ⟨xs, hx, e'⟩ | ⟨xs, hx, e'⟩
    · subst e'
      obtain ⟨its, r', pl, hz⟩ := I.list hx
      have hlen := r'.length
      exact Calls.call_len_list pl.isList (by simp only [List.size_toArray]; omega) ⟨.int xs.length, H, I.tok _, ⟨_, by simp only [List.size_toArray]; rw [hlen]⟩, q⟩
    · subst e'
      obtain ⟨its, r', pl, hz⟩ := I.tuple hx
      have hlen := r'.length
      exact len_tuple pl (by simp only [List.size_toArray]; omega) ⟨.int xs.length, H, I.tok _, ⟨_, by simp only [List.size_toArray]; rw [hlen]⟩, q⟩
  | _ => exact (show False from e).elim
end
end L2
namespace L2
open PySem PySem.Spec PyProof.Rows
structure ObjM (h : Heap) (x dx C : Addr) (mA : Str → Option Value) : Prop where
  obj : h.get? x = some (PySem.W.instObj C dx)
  ns : h.Ns1 dx mA
  ne : dx ≠ x
theorem lookIn_ns {h : Heap} {dx : Addr} {mA : Str → Option Value} (n : h.Ns1 dx mA) : ∃ od, h.get? dx = some od ∧ ∀ name, PySem.W.lookIn name od = some (mA name) := by
  obtain ⟨o, es, ep, ho, hd, hk, _, hm⟩ := n
  refine ⟨o, ho, fun name => ?_⟩
  have e := hm name
  unfold nsFind findBy at e
  rw [← Array.find?_toList] at e
  unfold PySem.W.lookIn
  rw [hd]
  dsimp only
  split
  · rename_i y q
    rw [q] at e
    exact congrArg some e
  · rename_i q
    rw [q] at e
    have a : es.toList.any (·.refKey) = false := by
      rw [List.any_eq_false]
      intro y hy
      obtain ⟨z, t, hkey⟩ := hk y (Array.mem_toList_iff.mp hy)
      simp [DictEntry.refKey, hkey]
    have a' : ¬ es.toList.any (·.refKey) = true := by rw [a]; exact Bool.false_ne_true
    rw [if_neg a']
    exact congrArg some e
theorem ObjM.look {h : Heap} {x dx C : Addr} {mA : Str → Option Value} (I : ObjM h x dx C mA) : ∃ od, PySem.W.InstAt h x (PySem.W.instObj C dx) C (some od) ∧ ∀ name, PySem.W.lookIn name od = some (mA name) :=
  let ⟨od, ho, hl⟩ := lookIn_ns I.ns
  ⟨od, ⟨I.obj, rfl, rfl, ho⟩, hl⟩
section
variable {prog : Program} {w : World} {A : Around} {E : Value → Shared → Prop} {s : Shared} {K : PySem.W.Frag} {x dx C f : Addr} {mA : Str → Option Value} {name : Str} {v : Value}
end
section
variable {P : Program} {w : World} {H H' : Hp} {h h' : Heap} {a C dx : Addr} {fs fs' : List (Str × V)}
end
structure Cls (K : PySem.W.Frag) (C : Addr) : Prop where
  pg : PySem.W.plainGet K C Str.empty = true
  hd : PySem.W.hasDictIn K C = true
  po : PySem.W.plainOver K C = true
  sa : PySem.W.findIn K (.ref C) "__setattr__" = some (some (.builtin "object.__setattr__"))
theorem Cls.get {K : PySem.W.Frag} {C : Addr} (c : Cls K C) (f : Str) : PySem.W.plainGet K C f = true := c.pg
structure Con (K : PySem.W.Frag) (C : Addr) (f : Str) (v : V) (u : Value) : Prop where
  at_ : PySem.W.findIn K (.ref C) f = some (some u)
  rel : RelV v u
  get : PySem.W.specialIn K u "__get__" = some none
  cp : PySem.W.copiedNames.contains f = false
structure Meth (K : PySem.W.Frag) (C : Addr) (m : Str) (f : Addr) : Prop where
  at_ : PySem.W.findIn K (.ref C) m = some (some (.ref f))
  fn : PySem.W.isFn K (.ref f) = true
  kp : PySem.W.keepIn K (.ref f) = true
section
variable {X : Cx} {pins : List (Addr × Obj)} {σ : St} {H : Hp} {s : Shared} {a C dx : Addr} {fs : List (Str × V)} {f : Str} {v : V} {A : Around} {E : Value → Shared → Prop}
theorem Inv.made (I : Inv X pins σ H s) : Inv X pins σ (upd (upd H s.heap.objs.size (.own (s.heap.objs.size + 1))) (s.heap.objs.size + 1) (.ins C s.heap.objs.size []))
    { s with heap := (s.heap.push PySem.W.emptyDict).push (PySem.W.instObj C s.heap.objs.size) } := by
  have e1 : (s.heap.push PySem.W.emptyDict).get? s.heap.objs.size = some PySem.W.emptyDict := Heap.get?_push_size s.heap rfl
  have e2 : ((s.heap.push PySem.W.emptyDict).push (PySem.W.instObj C s.heap.objs.size)).get? (s.heap.objs.size + 1) = some (PySem.W.instObj C s.heap.objs.size) := by
    have := Heap.get?_push_size (s.heap.push PySem.W.emptyDict) (o := PySem.W.instObj C s.heap.objs.size) rfl
    rwa [Heap.size_push] at this
  have e3 : (s.heap.push PySem.W.emptyDict).Ns s.heap.objs.size (fun _ => none) := ⟨PySem.W.emptyDict, #[], _, e1, rfl, (fun e he => absurd he (by simp)), fun _ => rfl⟩
  have I1 := I.laid (a := s.heap.objs.size) (o := .own (s.heap.objs.size + 1)) (h' := s.heap.push PySem.W.emptyDict) (t' := s.toks) (fun b u q => Heap.get?_push_of_some _ q) (Nat.le_refl _) ⟨_, e1⟩
  refine I1.laid (a := s.heap.objs.size + 1) (o := .ins C s.heap.objs.size []) (t' := s.toks) (fun b u q => Heap.get?_push_of_some _ q) (Nat.le_of_eq (Heap.size_push _ _)) ?_
  have ne : s.heap.objs.size ≠ s.heap.objs.size + 1 := Nat.ne_of_lt (Nat.lt_succ_self _)
  refine ⟨by rw [upd_ne ne, upd_same], Nat.zero_le _, ne, e2, fun _ => none, (Heap.Ns1.of_empty e3).at fun o q => Heap.get?_push_of_some _ q, fun _ => True.intro, fun y hy => absurd rfl hy⟩
theorem attr_of {prog : Program} {w : World} {env : Env} {e : Expr} {f : Str} {pos : Pos} {s : Shared} {Q : Value → Shared → Prop} (hb : attributeBase e f env (eval e env) = eval e env)
    (h : wpAny (model prog w) A (eval e env) (fun o s₁ => wpAny (model prog w) A (getAttr o f true) Q E s₁) E s) : wpAny (model prog w) A (eval (.Attribute e f pos) env) Q E s :=
  Attribute_any_ h (by rw [arm_eval_Attribute, hb])
end
section
variable {X : Cx} {o e value : Expr} {f : Str} {pos pos' tpos : Pos} {ta tv : TE}
end
section
variable {X : Cx} {pins : List (Addr × Obj)} {σ : St} {H : Hp} {s : Shared} {A : Around} {E : Value → Shared → Prop} {Q : Value → Shared → Prop} {c : Value} {b : Bool}
inductive TyOf (K : PySem.W.Frag) (H : Hp) : V → Value → Prop where
  | non : TyOf K H .non (.type "NoneType")
  | bl (x : Bool) : TyOf K H (.bl x) (.type "bool")
  | int (i : Int) : TyOf K H (.int i) (.type "int")
  | str (x : Str) : TyOf K H (.str x) (.type "str")
  | flt (x : UInt64) : TyOf K H (.flt x) (.type "float")
  | lst {a : Addr} {xs : List V} (e : H a = some (.lst xs)) : TyOf K H (.ref a) (.type "list")
  | frz {a : Addr} {o : Obj} {xs : List V} (e : H a = some (.frz o (.lst xs))) : TyOf K H (.ref a) (.type "list")
  | tup {a : Addr} {xs : List V} (e : H a = some (.tup xs)) : TyOf K H (.ref a) (.type "tuple")
  | dK {a : Addr} {kvs : List (Key × V)} (e : H a = some (.dK kvs)) : TyOf K H (.ref a) (.type "dict")
  | dT {a : Addr} {kvs : List (List Key × V)} (e : H a = some (.dT kvs)) : TyOf K H (.ref a) (.type "dict")
  | ins {a C dx : Addr} {fs : List (Str × V)} (e : H a = some (.ins C dx fs)) (cl : Cls K C) (ha : PySem.W.findIn K (.ref C) "__class__" = some (some (.builtin "object.__class__")))
      (hn : PySem.W.specialIn K (.builtin "object.__class__") "__get__" = some (some (.builtin "getset_descriptor.__get__"))) (htk : PySem.W.takesIn K (.builtin "object.__class__") = some true)
      (hm : PySem.W.mroIn K C (.type "object") = some true) : TyOf K H (.ref a) (.ref C)
end
end L2
namespace L2
open PySem PySem.Spec PyProof.Rows
structure Room (k : Nat) (A : Around) : Prop where
  hd : A.handled = none
  dp : A.depth + 3 * k + 5 < recursionLimit
  un : A.units + 16 * k + 200 < cLine
theorem Room.mono {j k : Nat} {A : Around} (r : Room k A) (h : j ≤ k) : Room j A := ⟨r.hd, by have := r.dp; omega, by have := r.un; omega⟩
theorem Room.deeper {k : Nat} {A : Around} (r : Room (k + 1) A) (env : Env) : Room k (A.deeper env) :=
  ⟨r.hd, by have := r.dp; show A.depth + 1 + 3 * k + 5 < _; omega, by have := r.un; show A.units + 3 + 16 * k + 200 < _; omega⟩
theorem Room.in1 {k : Nat} {A : Around} (r : Room (k + 1) A) : Room k A.in1 :=
  ⟨r.hd, by have := r.dp; show A.depth + 3 * k + 5 < _; omega, by have := r.un; show A.units + 1 + 16 * k + 200 < _; omega⟩
theorem make_depth {A : Around} {C : Addr} {us : List Value} {kw : List (Str × Value)} : (A.under (.builtin "type.__call__" ⟨.ref C :: us, kw⟩)).depth = A.depth + 1 := by
  first | rfl | simp [Around.under, Code.weight, Code.isCreation, Code.isGuard, Code.isCaller, Code.frames, Code.isFrame, guardIds]
theorem make_units {A : Around} {C : Addr} {us : List Value} {kw : List (Str × Value)} : (A.under (.builtin "type.__call__" ⟨.ref C :: us, kw⟩)).units = A.units + 1 := by
  first | rfl | simp [Around.under, Code.cUnits, Code.frames, Code.isFrame]
theorem Room.make {k : Nat} {A : Around} (r : Room (k + 1) A) (C : Addr) (us : List Value) (kw : List (Str × Value)) : Room k (A.under (.builtin "type.__call__" ⟨.ref C :: us, kw⟩)) :=
  ⟨r.hd, by have := r.dp; rw [make_depth]; omega, by have := r.un; rw [make_units]; omega⟩
theorem Room.depth {k : Nat} {A : Around} (r : Room k A) : A.depth < recursionLimit := by have := r.dp; omega
theorem Room.units {k : Nat} {A : Around} (r : Room k A) : A.units + 64 < cLine := by have := r.un; omega
def tNil : TA := fun _ H Q => Q [] H
def tCons (ta : TE) (tr : TA) : TA := fun σ H Q => ta σ H fun x H1 => tr σ H1 fun xs H2 => Q (x :: xs) H2
section
variable {X : Cx} {e : Expr} {es : List Expr} {te : TE} {t : TA} {pos : Pos}
theorem pa_nil : PA X [] tNil := fun _ _ _ _ H Q I h => Calls.spliced_nil ⟨[], H, I, .nil, h⟩
theorem pa_cons (ha : PE X e te) (hr : PA X es t) (hs : starEach (e :: es) X.env = (false, eval e X.env) :: starEach es X.env := by rfl) : PA X (e :: es) (tCons te t) := by
  intro pos pins s σ H Q I h
  rw [hs]
  show wpAny _ _ (spliced ((false, eval e X.env) :: backTo pos (starEach es X.env))) _ _ s
  refine Calls.spliced_cons (thn (ha pins s σ H _ I h) fun u s1 ⟨x, H1, I1, r1, q1⟩ => ?_)
  exact thn (hr pos pins s1 σ H1 _ I1 q1) fun us s2 ⟨xs, H2, I2, r2, q2⟩ => ⟨x :: xs, H2, I2, .cons r1 r2, q2⟩
def tTup (t : TA) : TE := fun σ H Q => t σ H fun xs H1 => xs.length ≤ sizeLine ∧ ∀ p, H1 p = none → Q (.ref p) (upd H1 p (.tup xs))
def tLst (t : TA) : TE := fun σ H Q => t σ H fun xs H1 => xs.length ≤ sizeLine ∧ ∀ p, H1 p = none → Q (.ref p) (upd H1 p (.lst xs))
theorem pe_tup {x1} (h : PA X es t) : PE X (.Tuple es x1 pos) (tTup t) := by
  intro pins s σ H Q I hq
  refine wpAny_Tuple_spliced (thn (h pos pins s σ H _ I hq) fun us s1 ⟨xs, H1, I1, r, z, q⟩ => ⟨by rw [← r.length]; exact z, ?_⟩)
  have hf : H1 s1.heap.objs.size = none := I1.hok.fresh (Nat.le_refl _)
  refine ⟨.ref s1.heap.objs.size, upd H1 s1.heap.objs.size (.tup xs), I1.laid (t' := s1.toks) (fun b u e => Heap.get?_push_of_some _ e) (Nat.le_refl _) ?_, rfl, q _ hf⟩
  exact ⟨z, us, r, ⟨_, Heap.get?_push_size _ rfl, rfl, _, rfl⟩⟩
theorem pe_lst (h : PA X es t) : PE X (.List es pos) (tLst t) := by
  intro pins s σ H Q I hq
  refine wpAny_List_spliced (thn (h pos pins s σ H _ I hq) fun us s1 ⟨xs, H1, I1, r, z, q⟩ => ⟨by rw [← r.length]; exact z, ?_⟩)
  have hf : H1 s1.heap.objs.size = none := I1.hok.fresh (Nat.le_refl _)
  refine ⟨.ref s1.heap.objs.size, upd H1 s1.heap.objs.size (.lst xs), I1.laid (t' := s1.toks) (fun b u e => Heap.get?_push_of_some _ e) (Nat.le_refl _) ?_, rfl, q _ hf⟩
  exact ⟨z, us, 0, r, Heap.get?_push_size _ rfl⟩
end
abbrev Sp := List V → Hp → VK → XK → Prop
abbrev CXT := List Env → Hp → Shared → XK → Value → Shared → Prop
structure Env0 (P : Program) (w : World) (K : PySem.W.Frag) (mg : Str → Option Value) (base : Heap) (A : Around) (outer : List Env) (s : Shared) (H : Hp) : Prop where
  frames : A.frames = some outer
  mod : Mod K mg base
  bs : ∀ b o, base.get? b = some o → s.heap.get? b = some o ∧ H b = none
  bsz : base.objs.size ≤ s.heap.objs.size
  funs : s.heap.FunFrames base outer
  frf : ∀ b ∈ frs outer, H b = none
  hok : HOk P w H s.heap
  bare : AllBare s.gens
def CE (outer : List Env) (P : Program) (w : World) (H : Hp) (s : Shared) (Q : VK) (u : Value) (s' : Shared) : Prop :=
  ∃ v H', s'.os = s.os ∧ AllBare s'.gens ∧ Un (frs outer) [] H H' s.heap s'.heap ∧ HOk P w H' s'.heap ∧ RelV v u ∧ Q v H'
def CR (CX : CXT) (outer : List Env) (P : Program) (w : World) (H : Hp) (s : Shared) (Q : VK) (E : XK) (r : Result) (s' : Shared) : Prop :=
  match r with
  | .ok (.ret u) => CE outer P w H s Q u s'
  | .ok _ => False
  | .error e => CX outer H s E e s'
structure FnOk (P : Program) (w : World) (K : PySem.W.Frag) (mg : Str → Option Value) (base : Heap) (CX : CXT) (k : Nat) (f : Addr) (fd : FuncData) (ps : List Str) (sp : Sp) : Prop where
  len : ∀ vs H Q E, sp vs H Q E → vs.length = ps.length
  run : ∀ (A : Around) (outer : List Env) (s : Shared) (H : Hp) (args : Args) (us : List Value) (vs : List V) (Q : VK) (E : XK), Room k A → Env0 P w K mg base A outer s H → BindsTo s fd args (ps.zip us) → Vals vs us → sp vs H Q E →
    codeAny (model P w) A (.call (.ref f) args) (CR CX outer P w H s Q E) s
theorem FnOk.mono {P : Program} {w : World} {K : PySem.W.Frag} {mg : Str → Option Value} {base : Heap} {CX : CXT} {j k : Nat} {f : Addr} {fd : FuncData} {ps : List Str} {sp : Sp} (F : FnOk P w K mg base CX j f fd ps sp) (h : j ≤ k) :
    FnOk P w K mg base CX k f fd ps sp := ⟨F.len, fun A outer s H args us vs Q E hr => F.run A outer s H args us vs Q E (hr.mono h)⟩
theorem FnOk.imp {P : Program} {w : World} {K : PySem.W.Frag} {mg : Str → Option Value} {base : Heap} {CX : CXT} {k : Nat} {f : Addr} {fd : FuncData} {ps : List Str} {sp sp' : Sp} (F : FnOk P w K mg base CX k f fd ps sp)
    (h : ∀ vs H Q E, sp' vs H Q E → sp vs H Q E) : FnOk P w K mg base CX k f fd ps sp' :=
  ⟨fun vs H Q E q => F.len vs H Q E (h _ _ _ _ q), fun A outer s H args us vs Q E hr he hb hv hs => F.run A outer s H args us vs Q E hr he hb hv (h _ _ _ _ hs)⟩
theorem Env0.make {P : Program} {w : World} {K : PySem.W.Frag} {mg : Str → Option Value} {base : Heap} {A : Around} {outer : List Env} {s : Shared} {H : Hp} (e : Env0 P w K mg base A outer s H) (C : Addr) (us : List Value) (kw : List (Str × Value)) :
    Env0 P w K mg base (A.under (.builtin "type.__call__" ⟨.ref C :: us, kw⟩)) outer s H := ⟨by first | exact e.frames | (simpa [Around.under, Code.envs, Code.isFrame, pushEnvs] using e.frames), e.mod, e.bs, e.bsz, e.funs, e.frf, e.hok, e.bare⟩
theorem Env0.in1 {P : Program} {w : World} {K : PySem.W.Frag} {mg : Str → Option Value} {base : Heap} {A : Around} {outer : List Env} {s : Shared} {H : Hp} (e : Env0 P w K mg base A outer s H) :
    Env0 P w K mg base A.in1 outer s H := ⟨e.frames, e.mod, e.bs, e.bsz, e.funs, e.frf, e.hok, e.bare⟩
section
variable {X : Cx} {pins : List (Addr × Obj)} {σ : St} {H : Hp} {s s' : Shared}
theorem Inv.env0 (I : Inv X pins σ H s) : Env0 X.prog X.w X.K X.mg X.base X.A X.stack s H :=
  ⟨I.ok.frames, I.ok.mod, I.bs, Nat.le_trans I.ok.bsz I.sz, I.stack, I.stkFree, I.hok, I.bare⟩
theorem Inv.after {Q : VK} {u : Value} (I : Inv X pins σ H s) (h : CE X.stack X.prog X.w H s Q u s') : EP X pins σ Q u s' := by
  obtain ⟨v, H', os, bare, un, hok, r, q⟩ := h
  obtain ⟨hh, g, d, t, os'⟩ := s'
  obtain rfl : os' = s.os := os
  exact ⟨v, H', I.call (h' := hh) (g' := g) (d' := d) (t' := t) (ch := []) un hok bare (fun b z => absurd z (by simp)), r, q⟩
end
def tCall (sp : Sp) (dvs : List V) (E : XK) (t : TA) : TE := fun σ H Q => t σ H fun vs H1 => sp (vs ++ dvs) H1 Q E
def Binds (K : PySem.W.Frag) (fd : FuncData) (ps : List Str) (ds : List Value) : Prop :=
  ∀ (s : Shared) (us : List Value), K.In s.heap → (us ++ ds).length = ps.length → BindsTo s fd ⟨us, []⟩ (ps.zip (us ++ ds))
theorem Binds.all {K : PySem.W.Frag} {fd : FuncData} {ps : List Str} (h : ∀ us : List Value, us.length = ps.length → bindArgs fd ⟨us, []⟩ = pure (ps.zip us)) : Binds K fd ps [] := fun s us _ hl => by
  rw [List.append_nil] at hl ⊢
  exact .of_eq (h us hl)
def Passes (CX : CXT) (X : Cx) (E : XK) : Prop := ∀ (pins : List (Addr × Obj)) (σ : St) (H : Hp) (s : Shared) (e : Value) (s' : Shared), Inv X pins σ H s → CX X.stack H s E e s' → X.xe e s'
section
variable {X : Cx} {CX : CXT} {k : Nat} {f C : Addr} {fd : FuncData} {ps : List Str} {sp : Sp} {dvs : List V} {ds : List Value} {E : XK} {x m : Str} {p pos apos : Pos} {e o : Expr} {es : List Expr} {ta : TE} {t : TA}
theorem run_fn {pins : List (Addr × Obj)} {σ : St} {H : Hp} {s : Shared} {Q : VK} {us : List Value} {vs : List V} (F : FnOk X.prog X.w X.K X.mg X.base CX k f fd ps sp) (hr : Room k X.A) (hb : Binds X.K fd ps ds) (hd : Vals dvs ds) (hx : Passes CX X E)
    (I : Inv X pins σ H s) (r : Vals vs us) (h : sp (vs ++ dvs) H Q E) : wpAny (model X.prog X.w) X.A (call (.ref f) us) (EP X pins σ Q) X.xe s := by
  have r2 : Vals (vs ++ dvs) (us ++ ds) := r.append hd
  have hl : (us ++ ds).length = ps.length := by rw [← r2.length]; exact F.len _ _ _ _ h
  refine wpAny_call (codeAny_mono (F.run X.A X.stack s H ⟨us, []⟩ (us ++ ds) (vs ++ dvs) Q E hr I.env0 (hb s us I.kIn hl) r2 h) fun r s' hq => ?_)
  cases r with
  | error e => exact hx pins σ H s e s' I hq
  | ok fl =>
    cases fl with
    | ret u => exact I.after hq
    | next => exact False.elim hq
    | brk => exact False.elim hq
    | cont => exact False.elim hq
theorem pe_call (F : FnOk X.prog X.w X.K X.mg X.base CX k f fd ps sp) (hr : Room k X.A) (hg : Gl X x) (hm : X.mg x = some (.ref f)) (hk : PySem.W.keepIn X.K (.ref f) = true) (hb : Binds X.K fd ps ds) (hd : Vals dvs ds) (hx : Passes CX X E)
    (ha : PA X (e :: es) t) (hdb : (x == ("__debug__" : Str)) = false := by decide) (he : starEach (e :: es) X.env = (false, eval e X.env) :: starEach es X.env := by rfl) (hpl : (backTo pos (starEach es X.env)).any (·.1) = false := by rfl) :
    PE X (.Call (.Name x p) (e :: es) [] pos) (tCall sp dvs E t) := by
  intro pins s σ H Q I h
  refine wpAny_Call_Name_kw (ld_glob I hg hm ?_ hdb)
  refine PySem.W.callWith_K (h₀ := X.base) I.ok.mod.kin hk (thn (ha pos pins s σ H _ I h) fun us s1 ⟨vs, H1, I1, r, q⟩ => ⟨I1.kIn, ?_⟩) he hpl
  exact run_fn F hr hb hd hx I1 r q
structure Mk (K : PySem.W.Frag) (C f : Addr) : Prop where
  makes : PySem.W.makesIn K C = true
  init : PySem.W.findIn K (.ref C) "__init__" = some (some (.ref f))
  fn : PySem.W.isFn K (.ref f) = true
  kp : PySem.W.keepIn K (.ref C) = true
end
section
variable {X : Cx} {CX : CXT} {k : Nat} {f C : Addr} {fd : FuncData} {ps ks : List Str} {sp : Sp} {E : XK} {x m : Str} {p pos apos kpos : Pos} {e o : Expr} {es : List Expr} {kws : List Keyword} {te ta : TE} {t tk : TA} {nm : Option Str}
structure KBinds (K : PySem.W.Frag) (fd : FuncData) (ps ks : List Str) (g : List Value → List Value → List Value) (gV : List V → List V → List V) : Prop where
  to : ∀ (s : Shared) (us ws : List Value), K.In s.heap → (g us ws).length = ps.length → BindsTo s fd ⟨us, ks.zip ws⟩ (ps.zip (g us ws))
  rel : ∀ {vs : List V} {us : List Value} {zs : List V} {ws : List Value}, Vals vs us → Vals zs ws → Vals (gV vs zs) (g us ws)
variable {g : List Value → List Value → List Value} {gV : List V → List V → List V}
end
structure FnScope (N P : List Str) (sc : Scope) : Prop where
  kind : sc.kind = .function
  co : sc.isCoroutine = false
  gen : sc.isGenerator = false
  nd : N.Nodup
  pre : N.take P.length = P
  par : ∀ x ∈ P, sc.names.lookup x = some .local ∨ sc.names.lookup x = some .cell
  nofree : ∀ y ∈ sc.names, y.2 ≠ .free
theorem bindL_out {kindOf : Str → Option NameKind} {x : Str} : ∀ {binds : List (Str × Value)} {m : Str → Option Value}, (∀ v, (x, v) ∉ binds) → bindL kindOf binds m x = m x
  | [], _, _ => rfl
  | (n, v) :: r, m, h => by
    unfold bindL
    rw [bindL_out fun w hw => h w (List.mem_cons_of_mem _ hw)]
    split
    · have : x ≠ n := by rintro rfl; exact h v List.mem_cons_self
      simp [this]
    · rfl
theorem bindC_out {kindOf : Str → Option NameKind} {x : Str} : ∀ {binds : List (Str × Value)} {m : Str → Option Value}, (∀ v, (x, v) ∉ binds) → bindC kindOf binds m x = m x
  | [], _, _ => rfl
  | (n, v) :: r, m, h => by
    unfold bindC
    rw [bindC_out fun w hw => h w (List.mem_cons_of_mem _ hw)]
    split
    · rfl
    · have : x ≠ n := by rintro rfl; exact h v List.mem_cons_self
      simp [this]
theorem bindL_get {kindOf : Str → Option NameKind} {x : Str} {v : Value} : ∀ {P : List Str} {vs : List Value} {i : Nat} {m : Str → Option Value}, P.Nodup → P[i]? = some x → vs[i]? = some v → kindOf x = some .local →
    bindL kindOf (P.zip vs) m x = some v
  | [], _, _, _, _, h, _, _ => by simp at h
  | _ :: _, [], _, _, _, _, h, _ => by simp at h
  | p :: P, w :: vs, 0, m, nd, h1, h2, hk => by
    simp at h1 h2; subst h1; subst h2
    show bindL kindOf ((p, w) :: P.zip vs) m p = _
    unfold bindL
    rw [bindL_out fun v hv => (List.nodup_cons.mp nd).1 (List.of_mem_zip hv).1, if_pos hk]
    simp
  | p :: P, w :: vs, i + 1, m, nd, h1, h2, hk => by
    show bindL kindOf ((p, w) :: P.zip vs) m x = _
    unfold bindL
    exact bindL_get (i := i) (List.nodup_cons.mp nd).2 (by simpa using h1) (by simpa using h2) hk
theorem bindC_get {kindOf : Str → Option NameKind} {x : Str} {v : Value} : ∀ {P : List Str} {vs : List Value} {i : Nat} {m : Str → Option Value}, P.Nodup → P[i]? = some x → vs[i]? = some v → kindOf x ≠ some .local →
    bindC kindOf (P.zip vs) m x = some v
  | [], _, _, _, _, h, _, _ => by simp at h
  | _ :: _, [], _, _, _, _, h, _ => by simp at h
  | p :: P, w :: vs, 0, m, nd, h1, h2, hk => by
    simp at h1 h2; subst h1; subst h2
    show bindC kindOf ((p, w) :: P.zip vs) m p = _
    unfold bindC
    rw [bindC_out fun v hv => (List.nodup_cons.mp nd).1 (List.of_mem_zip hv).1, if_neg hk]
    simp
  | p :: P, w :: vs, i + 1, m, nd, h1, h2, hk => by
    show bindC kindOf ((p, w) :: P.zip vs) m x = _
    unfold bindC
    exact bindC_get (i := i) (List.nodup_cons.mp nd).2 (by simpa using h1) (by simpa using h2) hk
def start (N : List Str) (vs : List V) : St := vs.map some ++ List.replicate (N.length - vs.length) none
def cxOf (CX : CXT) (P : Program) (w : World) (K : PySem.W.Frag) (mg : Str → Option Value) (base : Heap) (N : List Str) (qual : Str) (scope : Scope) (f : Addr) (cd : Value) (A : Around) (outer : List Env) (s : Shared) (H : Hp) (E : XK) : Cx where
  prog := P
  w := w
  K := K
  mg := mg
  base := base
  A := A.deeper (envOfC qual scope s.heap.objs.size f cd)
  N := N
  s_0 := s
  H_0 := H
  env := envOfC qual scope s.heap.objs.size f cd
  outer := outer
  stack := envOfC qual scope s.heap.objs.size f cd :: outer
  ex := []
  calm := true
  fn := fun _ => true
  pn := []
  xe := fun e s' => wpAny (model P w) (A.deeper (envOfC qual scope s.heap.objs.size f cd)) (leaving (envOfC qual scope s.heap.objs.size f cd) e) (fun _ s'' => CX outer H s E e s'') (fun e' s'' => CX outer H s E e' s'') s'
theorem cell_has {sc : Scope} {n : Nat} {x : Str} (h : sc.names.lookup x = some .cell) : ∃ c, (cellsFrom n sc.names []).lookup x = some c := by
  have q := PySem.W.cellsFrom_some sc.names n [] (.inl h)
  exact Option.isSome_iff_exists.mp q
theorem inv_start {CX : CXT} {P : Program} {w : World} {K : PySem.W.Frag} {mg : Str → Option Value} {base : Heap} {N ps : List Str} {qual : Str} {scope : Scope} {f : Addr} {cd : Value} {A : Around} {outer : List Env} {s s1 : Shared} {H : Hp} {E : XK} {us : List Value} {vs : List V}
    (S : FnScope N ps scope) (hd : A.handled = none) (e0 : Env0 P w K mg base A outer s H) (hl : vs.length = ps.length) (r : Vals vs us)
    (x : InCallC s s.heap.objs.size (bindL (envOfC qual scope s.heap.objs.size f cd).kindOf (ps.zip us) fun _ => none) (cellsFrom (s.heap.objs.size + 1) scope.names []) (bindC (envOfC qual scope s.heap.objs.size f cd).kindOf (ps.zip us) fun _ => none) s1) :
    Inv (cxOf CX P w K mg base N qual scope f cd A outer s H E) [] (start N vs) H s1 := by
  have hpl : ps.length ≤ N.length := by have := congrArg List.length S.pre; rw [List.length_take] at this; omega
  obtain ⟨h1, tk, rfl, hk⟩ := x.done
  have noA : ∀ b : Addr, b ∉ (cxOf CX P w K mg base N qual scope f cd A outer s H E).ex := fun b z => absurd (show b ∈ ([] : List Addr) from z) (by simp)
  refine ⟨⟨e0.mod, S.kind, rfl, rfl, Nat.le_refl _, fun y z c h1 h2 => ?_, fun y hy => ?_, fun y c _ h => ?_, fun _ => hd, Around.frames_deeper e0.frames, .inr ⟨rfl, rfl⟩, fun b z => absurd z (noA b), e0.bs, e0.bsz, fun b _ _ => noA b, fun b z => absurd z (noA b), e0.funs, e0.frf⟩,
    rfl, e0.bare, Un.kept hk, ⟨_, x.toInCall.ns, fun i y v h1 h2 h3 => ?_⟩, fun y c h => ⟨_, x.cell y c h⟩, e0.hok.fresh (Nat.le_refl _), fun y c h => ?_, fun p hp => absurd (show p ∈ ([] : List (Addr × Obj)) from hp) (by simp), e0.hok.kept hk, ?_⟩
  · exact name_of_addr x.apart (PySem.mem_of_lookup h1) (PySem.mem_of_lookup h2)
  · have hy : scope.names.lookup y = some .cell ∨ scope.names.lookup y = some .free := hy
    rcases hy with hy | hy
    · exact cell_has hy
    · exact absurd rfl (S.nofree _ (PySem.mem_of_lookup hy))
  · exact Nat.le_of_lt (x.above y c (PySem.mem_of_lookup h))
  · have hi : i < vs.length := by
      unfold start at h2
      by_cases hi : i < vs.length
      · exact hi
      · rw [List.getElem?_append_right (by simpa using hi)] at h2
        rw [List.getElem?_replicate] at h2
        split at h2 <;> cases h2
    have ha : vs[i]? = some v := by
      unfold start at h2
      rw [List.getElem?_append_left (by simpa using hi), List.getElem?_map] at h2
      cases e : vs[i]? with
      | none => rw [e] at h2; cases h2
      | some a => rw [e] at h2; cases h2; rfl
    obtain ⟨u, hu, rv⟩ := r.get ha
    have hp : ps[i]? = some y := by
      rw [← S.pre, List.getElem?_take_of_lt (by omega)]; exact h1
    have ndP : ps.Nodup := by rw [← S.pre]; exact S.nd.sublist (List.take_sublist _ _)
    refine ⟨u, rv, ?_⟩
    rcases S.par y (List.mem_of_getElem? hp) with k | k
    · exact .inl ⟨k, bindL_get ndP hp hu k⟩
    · obtain ⟨c, e⟩ := cell_has (n := s.heap.objs.size + 1) k
      refine .inr ⟨.inl k, c, e, ?_⟩
      have q := x.cell y c e
      rw [bindC_get ndP hp hu (by show scope.names.lookup y ≠ _; rw [k]; decide)] at q
      exact q
  · exact e0.hok.fresh (Nat.le_of_lt (x.above y c (PySem.mem_of_lookup h)))
  · unfold start
    show _ = N.length
    rw [List.length_append, List.length_map, List.length_replicate]
    omega
theorem fn_of {CX : CXT} {P : Program} {w : World} {K : PySem.W.Frag} {mg : Str → Option Value} {base : Heap} {k : Nat} {f : Addr} {name qual : Str} {params : Arguments} {body : List Stmt} {scope : Scope} {dV kV doc pm cdv ct oc : Value} {an od : Option Addr}
    {osl : Array (Option Value)} {N ps : List Str} {sp : Sp} (lk : K.lookup f = some ⟨oc, od, .func (PySem.W.fnOf name qual params body scope dV kV doc pm an cdv ct), osl⟩) (hcd : PySem.W.codeIn K cdv qual = true) (S : FnScope N ps scope)
    (len : ∀ vs H Q E, sp vs H Q E → vs.length = ps.length)
    (hbody : ∀ (A : Around) (outer : List Env) (s : Shared) (H : Hp) (vs : List V) (Q : VK) (E : XK), Room k (A.deeper (envOfC qual scope s.heap.objs.size f cdv)) → sp vs H Q E →
      ∃ t, PSs (cxOf CX P w K mg base N qual scope f cdv A outer s H E) body t ∧ t { nx := fun _ H' => Q .non H', rt := Q } (start N vs) H) :
    FnOk P w K mg base CX (k + 1) f (PySem.W.fnOf name qual params body scope dV kV doc pm an cdv ct) ps sp := by
  refine ⟨len, fun A outer s H args us vs Q E hr e0 hb r hsp => ?_⟩
  have hl := len _ _ _ _ hsp
  have KX : K.In s.heap := e0.mod.kin.keeps fun b o e => (e0.bs b o e).1
  have lim : s.heap.NoLimit := e0.mod.nolimit.keeps fun b o e => (e0.bs b o e).1
  have hkind : ∀ y ∈ ps.zip us, scope.names.lookup y.1 = some .local ∨ (scope.names.lookup y.1 = some .cell ∧ ((cellsFrom (s.heap.objs.size + 1) scope.names []).lookup y.1).isSome = true) := fun ⟨n, v⟩ hy => by
    rcases S.par n (List.of_mem_zip hy).1 with q | q
    · exact .inl q
    · exact .inr ⟨q, PySem.W.cellsFrom_some _ _ _ (.inl q)⟩
  refine codeAny_call_function hr.depth (KX _ _ lk) rfl S.co S.gen rfl (PySem.W.codeRec_of KX hcd) (hb _ _ _ _ ?_)
  refine wpAny_newFunctionEnv_cells S.kind hkind fun env he s1 x => ?_
  subst he
  refine ⟨lim.keeps x.toInCall.keep, codeAny_func ?_⟩
  obtain ⟨t, ht, hq⟩ := hbody A outer s H vs Q E (hr.deeper _) hsp
  have I : Inv (cxOf CX P w K mg base N qual scope f cdv A outer s H E) [] (start N vs) H s1 := inv_start S hr.hd e0 hl r x
  refine wpAny_mono (ht [] s1 (start N vs) H _ I hq) (fun fl s' hs => ?_) fun e s' hs => hs
  have fin : ∀ {σ' : St} {H' : Hp} {v : V} {u : Value}, Inv (cxOf CX P w K mg base N qual scope f cdv A outer s H E) [] σ' H' s' → RelV v u → Q v H' → CE outer P w H s Q u s' :=
    fun {σ' H' v u} J rv q => ⟨v, H', J.os, J.bare, J.base, J.hok, rv, q⟩
  cases fl with
  | ret u =>
    obtain ⟨v, σ', H', J, rv, q⟩ := hs
    exact fin J rv q
  | next =>
    obtain ⟨σ', H', J, q⟩ := hs
    exact fin (v := V.non) (u := Value.none) J rfl q
  | brk =>
    obtain ⟨_, _, _, q⟩ := hs
    exact False.elim q
  | cont =>
    obtain ⟨_, _, _, q⟩ := hs
    exact False.elim q
end L2
namespace L2
open PySem PySem.Spec PyProof.Rows
section
variable {X : Cx} {x : Str} {p pos : Pos} {e : Expr} {es : List Expr} {t : TA} {id T : String} {r : List V → Hp → VK → Prop}
def tCB (r : List V → Hp → VK → Prop) (t : TA) : TE := fun σ H Q => t σ H fun vs H1 => r vs H1 Q
theorem pe_callB (hc : CallR X (.builtin id) r) (hg : Gl X x) (hm : X.mg x = none) (hv : bootBuiltins x = some (.builtin id)) (ha : PA X (e :: es) t) (hn : x ≠ "__name__" := by decide) (hdb : (x == ("__debug__" : Str)) = false := by decide)
    (he : starEach (e :: es) X.env = (false, eval e X.env) :: starEach es X.env := by rfl) (hpl : (backTo pos (starEach es X.env)).any (·.1) = false := by rfl) : PE X (.Call (.Name x p) (e :: es) [] pos) (tCB r t) := by
  intro pins s σ H Q I h
  refine wpAny_Call_Name_kw (ld_blt I hg hm hv ?_ hn hdb)
  exact PyProof.Rows.callWith_builtin1 (thn (ha pos pins s σ H _ I h) fun us s1 ⟨vs, H1, I1, r1, q1⟩ => hc pins s1 σ H1 vs us Q I1 r1 q1) he hpl
theorem pe_callTy (hc : CallR X (.type T) r) (hg : Gl X x) (hm : X.mg x = none) (hv : bootBuiltins x = some (.type T)) (ha : PA X (e :: es) t) (hn : x ≠ "__name__" := by decide) (hdb : (x == ("__debug__" : Str)) = false := by decide)
    (he : starEach (e :: es) X.env = (false, eval e X.env) :: starEach es X.env := by rfl) (hpl : (backTo pos (starEach es X.env)).any (·.1) = false := by rfl) : PE X (.Call (.Name x p) (e :: es) [] pos) (tCB r t) := by
  intro pins s σ H Q I h
  refine wpAny_Call_Name_kw (ld_blt I hg hm hv ?_ hn hdb)
  exact PyProof.Rows.callWith_type1 (thn (ha pos pins s σ H _ I h) fun us s1 ⟨vs, H1, I1, r1, q1⟩ => hc pins s1 σ H1 vs us Q I1 r1 q1) he hpl
end
end L2
namespace HT
open PySem PyProof.Rows
section
open PySem.SeqAt
open PySem.AutoSeq1 (wpAny_loadPart')
open PySem.MeetsSeq PySem.MeetsSeq2 PySem.MeetsSeq3
end
section
variable {prog : Program} {w : World} {A : Around} {E : Value → Shared → Prop} {s : Shared}
def sIx (n d : Nat) : Option Int → Nat
  | none => d
  | some v => if v < 0 then (v + (n : Int)).toNat else min v.toNat n
theorem sIx_none (n d : Nat) : sIx n d none = d := rfl
theorem sIx_nat (n d k : Nat) : sIx n d (some (k : Int)) = min k n := by
  show (if (k : Int) < 0 then ((k : Int) + (n : Int)).toNat else min (k : Int).toNat n) = min k n
  rw [if_neg (by omega), Int.toNat_natCast]
theorem sIx_le (n d : Nat) (hd : d ≤ n) (o : Option Int) : sIx n d o ≤ n := by
  cases o with
  | none => exact hd
  | some v =>
    show (if v < 0 then (v + (n : Int)).toNat else min v.toNat n) ≤ n
    by_cases hv : v < 0
    · rw [if_pos hv]; omega
    · rw [if_neg hv]; exact Nat.min_le_right _ _
end
end HT
namespace L2
open PySem PySem.Spec PyProof.Rows
abbrev TO := St → Hp → (Option Int → Hp → Prop) → Prop
def PO (X : Cx) (e : Option Expr) (t : TO) : Prop :=
  ∀ (pins : List (Addr × Obj)) (s : Shared) (σ : St) (H : Hp) (Q : Option Int → Hp → Prop), Inv X pins σ H s → t σ H Q →
    wpAny (model X.prog X.w) X.A (evalPart e X.env) (fun u s' => ∃ o H', Inv X pins σ H' s' ∧ IsPart u o ∧ Q o H') X.xe s
def tNoPart : TO := fun _ H Q => Q none H
def tPart (t : TE) : TO := fun σ H Q => t σ H fun x H1 => ∃ i, x = .int i ∧ Q (some i) H1
section
variable {X : Cx} {e : Expr} {te : TE} {lo hi : Option Expr} {tl th : TO} {pos p2 : Pos}
theorem po_none : PO X none tNoPart := by
  intro pins s σ H Q I h
  rw [evalPart_none]
  exact wpAny_pure ⟨none, H, I, .none, h⟩
theorem po_some (h : PE X e te) : PO X (some e) (tPart te) := by
  intro pins s σ H Q I hw
  rw [evalPart_some]
  refine thn (h pins s σ H _ I hw) fun u s1 ⟨x, H1, I1, r1, q1⟩ => ?_
  obtain ⟨i, rfl, q⟩ := q1
  obtain ⟨t, rfl⟩ := r1
  exact ⟨some i, H1, I1, .int i t, q⟩
def SlR (X : Cx) (r : V → Option Int → Option Int → Hp → VK → Prop) : Prop :=
  ∀ (pins : List (Addr × Obj)) (s : Shared) (σ : St) (H : Hp) (x : V) (v vl vu : Value) (lo hi : Option Int) (sl : Addr) (Q : VK), Inv X pins σ H s → RelV x v → s.heap.IsSliceOf sl vl vu .none → IsPart vl lo → IsPart vu hi → r x lo hi H Q →
    ∃ T id, typeLookup (.type T) "__getitem__" = pure (some (.builtin id)) ∧ s.TypeIs v T ∧ wpAny (model X.prog X.w) X.A (getItem v (.ref sl)) (EP X pins σ Q) X.xe s
theorem SlR.or {r r' : V → Option Int → Option Int → Hp → VK → Prop} (h : SlR X r) (h' : SlR X r') : SlR X (fun x lo hi H Q => r x lo hi H Q ∨ r' x lo hi H Q) := by
  intro pins s σ H x v vl vu lo hi sl Q I rx hs pl pu q
  rcases q with q | q
  · exact h pins s σ H x v vl vu lo hi sl Q I rx hs pl pu q
  · exact h' pins s σ H x v vl vu lo hi sl Q I rx hs pl pu q
def tSl (r : V → Option Int → Option Int → Hp → VK → Prop) (te : TE) (tl th : TO) : TE := fun σ H Q => te σ H fun x H1 => tl σ H1 fun l H2 => th σ H2 fun u H3 => r x l u H3 Q
theorem pe_slice {r : V → Option Int → Option Int → Hp → VK → Prop} (hr : SlR X r) (he : PE X e te) (hl : PO X lo tl) (hu : PO X hi th) : PE X (.Subscript e (.Slice lo hi none p2) pos) (tSl r te tl th) := by
  intro pins s σ H Q I h
  refine Subscript_ (thn (he pins s σ H _ I h) fun v s1 ⟨x, H1, I1, r1, q1⟩ => ?_)
  refine wpAny_Slice (thn (hl pins s1 σ H1 _ I1 q1) fun vl s2 ⟨l, H2, I2, pl, q2⟩ => thn (hu pins s2 σ H2 _ I2 q2) fun vu s3 ⟨u, H3, I3, pu, q3⟩ => ?_)
  rw [evalPart_none]
  refine wpAny_pure ?_
  have I4 : Inv X pins σ H3 { s3 with heap := s3.heap.push { cls := .type "slice", data := .fields #[vl, vu, .none] } } := I3.kept (t' := s3.toks) fun b ob q => Heap.get?_push_of_some _ q
  obtain ⟨T, id, hT, ht, hg⟩ := hr pins { s3 with heap := s3.heap.push { cls := .type "slice", data := .fields #[vl, vu, .none] } } σ H3 x v vl vu l u s3.heap.objs.size Q I4 r1 (Heap.IsSliceOf.new ..) pl pu q3
  show wpAny (model X.prog X.w) X.A (subscriptTail e (.Slice lo hi none p2) v (.ref s3.heap.objs.size)) (EP X pins σ Q) X.xe { s3 with heap := s3.heap.push { cls := .type "slice", data := .fields #[vl, vu, .none] } }
  exact tail_any (ops := [.ref s3.heap.objs.size, v]) ht hT hg (by with_unfolding_all rfl)
def cutV (xs : List V) (lo hi : Option Int) : List V := (xs.drop (HT.sIx xs.length 0 lo)).take (HT.sIx xs.length xs.length hi - HT.sIx xs.length 0 lo)
theorem cutV_length (xs : List V) (lo hi : Option Int) : (cutV xs lo hi).length ≤ xs.length := by
  unfold cutV
  rw [List.length_take, List.length_drop]
  omega
end
end L2
namespace L2
open PySem PySem.Spec PyProof.Rows
def ixN (n : Nat) (i : Int) : Option Nat := if 0 ≤ i then (if i < n then some i.toNat else none) else if -(n : Int) ≤ i then some (i + n).toNat else none
def atI {α : Type} (xs : List α) (i : Int) : Option α := (ixN xs.length i).bind fun j => xs[j]?
theorem ixN_seq {n : Nat} {i : Int} {j : Nat} (h : ixN n i = some j) : seqIndex? i n = some j ∧ j < n ∧ -(n : Int) ≤ i ∧ i < n := by
  unfold ixN at h
  by_cases h0 : 0 ≤ i
  · rw [if_pos h0] at h
    by_cases h1 : i < n
    · rw [if_pos h1] at h
      have e : i.toNat = j := Option.some.inj h
      exact ⟨by rw [seqIndex_of h0 h1, e], by omega, by omega, h1⟩
    · rw [if_neg h1] at h; cases h
  · rw [if_neg h0] at h
    by_cases h1 : -(n : Int) ≤ i
    · rw [if_pos h1] at h
      have e : (i + n).toNat = j := Option.some.inj h
      exact ⟨by rw [seqIndex_neg (by omega) h1, e], by omega, h1, by omega⟩
    · rw [if_neg h1] at h; cases h
theorem atI_get {α : Type} {xs : List α} {i : Int} {v : α} (h : atI xs i = some v) : ∃ j, seqIndex? i xs.length = some j ∧ xs[j]? = some v ∧ j < xs.length ∧ -(xs.length : Int) ≤ i ∧ i < xs.length := by
  unfold atI at h
  cases e : ixN xs.length i with
  | none => rw [e] at h; cases h
  | some j =>
    rw [e] at h
    obtain ⟨h1, h2, h3, h4⟩ := ixN_seq e
    exact ⟨j, h1, h, h2, h3, h4⟩
theorem atI_nat {α : Type} {xs : List α} {j : Nat} {v : α} (h : xs[j]? = some v) : atI xs (j : Int) = some v := by
  have hj : j < xs.length := (List.getElem?_eq_some_iff.mp h).1
  have e : ixN xs.length (j : Int) = some j := by
    unfold ixN
    rw [if_pos (by omega), if_pos (by omega)]; simp
  unfold atI; rw [e]; exact h
theorem atI_last {α : Type} (xs : List α) (v : α) : atI (xs ++ [v]) (-1) = some v := by
  have hl : (xs ++ [v]).length = xs.length + 1 := by simp
  have e : ixN (xs ++ [v]).length (-1) = some xs.length := by
    unfold ixN
    rw [hl, if_neg (by decide), if_pos (by omega)]
    congr 1
    omega
  unfold atI
  rw [e]
  show (xs ++ [v])[xs.length]? = some v
  simp
def PlainIx (b : Expr) : Prop := ∀ o i, subscripted b false o i = operate [o, i] (getItem o i)
def IxR (X : Cx) (r : R2) : Prop :=
  ∀ (value slice : Expr) (pins : List (Addr × Obj)) (s : Shared) (σ : St) (H : Hp) (x y : V) (v u : Value) (Q : VK), Inv X pins σ H s → RelV x v → RelV y u → r x y H Q →
    subscripted slice false v u = operate [v, u] (getItem v u) → wpAny (model X.prog X.w) X.A (subscriptTail value slice v u) (EP X pins σ Q) X.xe s
def MtR (X : Cx) (id : String) (r : V → List V → Hp → VK → Prop) : Prop :=
  ∀ (pins : List (Addr × Obj)) (s : Shared) (σ : St) (H : Hp) (x : V) (xs : List V) (v : Value) (us : List Value) (Q : VK), Inv X pins σ H s → RelV x v → Vals xs us → r x xs H Q →
    wpAny (model X.prog X.w) X.A (call (.builtin id) (v :: us)) (EP X pins σ Q) X.xe s
section
variable {X : Cx} {a b : Expr} {ta tb : TE} {pos : Pos}
theorem IxR.or {r r' : R2} (h : IxR X r) (h' : IxR X r') : IxR X (fun x y H Q => r x y H Q ∨ r' x y H Q) := by
  intro value slice pins s σ H x y v u Q I rx ry q hs
  rcases q with q | q
  · exact h value slice pins s σ H x y v u Q I rx ry q hs
  · exact h' value slice pins s σ H x y v u Q I rx ry q hs
theorem MtR.or {id : String} {r r' : V → List V → Hp → VK → Prop} (h : MtR X id r) (h' : MtR X id r') : MtR X id (fun x xs H Q => r x xs H Q ∨ r' x xs H Q) := by
  intro pins s σ H x xs v us Q I rx rs q
  rcases q with q | q
  · exact h pins s σ H x xs v us Q I rx rs q
  · exact h' pins s σ H x xs v us Q I rx rs q
theorem pe_ix {r : R2} (hr : IxR X r) (ha : PE X a ta) (hb : PE X b tb) (hs : PlainIx b) : PE X (.Subscript a b pos) (tOp r ta tb) := by
  intro pins s σ H Q I h
  exact Subscript_ (binT ha hb I h fun v u s2 x y H2 I2 rx ry q => hr a b pins s2 σ H2 x y v u Q I2 rx ry q (hs _ _))
def rIxL (K : PySem.W.Frag) : R2 := fun x y H Q => ∃ p xs i v, x = .ref p ∧ y = .int i ∧ SqL K H p xs ∧ atI xs i = some v ∧ Q v H
def rIxT (K : PySem.W.Frag) : R2 := fun x y H Q => ∃ p xs i v, x = .ref p ∧ y = .int i ∧ SqT K H p xs ∧ atI xs i = some v ∧ Q v H
def rIxS : R2 := fun x y H Q => ∃ z i c, x = .str z ∧ y = .int i ∧ z.length ≤ sizeLine ∧ atI z.cps.toList i = some c ∧ Q (.str ⟨#[c]⟩) H
theorem ix_list : IxR X (rIxL X.K) := by
  intro value slice pins s σ H x y v u Q I rx ry h hs
  obtain ⟨p, xs, i, z, rfl, rfl, hq, he, q⟩ := h
  cases rx
  obtain ⟨t, rfl⟩ := ry
  obtain ⟨its, r, pl, hz⟩ := I.list hq
  obtain ⟨j, h1, h2, h3, h4, h5⟩ := atI_get he
  obtain ⟨w, ew, rw'⟩ := r.get h2
  have hl := r.length
  have hn := line63
  have fin : EP X pins σ Q w s := ⟨z, H, I, rw', q⟩
  by_cases h0 : 0 ≤ i
  · have hj : i.toNat = j := by
      rw [seqIndex_of h0 h5] at h1
      exact Option.some.inj h1
    exact item_listR pl.isList h0 (by omega) (by rw [hj]; simpa using ew) fin hs
  · have hj : (i + (its.toArray.size : Int)).toNat = j := by
      rw [seqIndex_neg (by omega) h4] at h1
      rw [List.size_toArray, ← hl]
      exact Option.some.inj h1
    exact subscriptTail_builtinR (x := w) pl.isList.typeIs slot_list_getitem.lookup
      (wpAny_getItem_list_neg (Q := fun r s' => r = w ∧ EP X pins σ Q r s') pl.isList (by omega) (by rw [List.size_toArray] <;> omega) (by omega) (by rw [hj]; simpa using ew) ⟨rfl, fin⟩) hs
theorem ix_tup : IxR X (rIxT X.K) := by
  intro value slice pins s σ H x y v u Q I rx ry h hs
  obtain ⟨p, xs, i, z, rfl, rfl, hq, he, q⟩ := h
  cases rx
  obtain ⟨t, rfl⟩ := ry
  obtain ⟨its, r, pl, hz⟩ := I.tuple hq
  obtain ⟨j, h1, h2, h3, h4, h5⟩ := atI_get he
  obtain ⟨w, ew, rw'⟩ := r.get h2
  have hl := r.length
  have hn := line63
  have fin : EP X pins σ Q w s := ⟨z, H, I, rw', q⟩
  exact subscriptTail_builtinR (x := w) pl.typeIs slot_tuple_getitem.lookup
    (getItem_tuple (j := j) (Q := fun r s' => r = w ∧ EP X pins σ Q r s') pl (by omega) (by omega) (by rw [List.size_toArray, ← hl]; exact h1) (by simpa using ew) ⟨rfl, fin⟩) hs
theorem ix_str : IxR X rIxS := by
  intro value slice pins s σ H x y v u Q I rx ry h hs
  obtain ⟨z, i, c, rfl, rfl, hz, he, q⟩ := h
  obtain ⟨t, rfl⟩ := rx
  obtain ⟨t', rfl⟩ := ry
  obtain ⟨j, h1, h2, h3, h4, h5⟩ := atI_get he
  have hl : z.cps.toList.length = z.length := by simp [Str.length]
  rw [hl] at h1 h4 h5
  have hn := line63
  exact tail_any (typeIs_str s z t) slot_str_getitem.lookup (getItem_str (c := c) (by
    have e1 : decide (i < -(2 ^ 63 : Int)) = false := decide_eq_false (by omega)
    have e2 : decide (i ≥ 2 ^ 63) = false := decide_eq_false (by omega)
    rw [e1, e2, Bool.or_false]) (by rw [h1]; simpa using h2) ⟨.str ⟨#[c]⟩, H, I.tok _, ⟨_, rfl⟩, q⟩) hs
def rIx (K : PySem.W.Frag) : R2 := fun x y H Q => rIxL K x y H Q ∨ rIxT K x y H Q ∨ rIxS x y H Q
theorem ix_seq : IxR X (rIx X.K) := ix_list.or (ix_tup.or ix_str)
theorem mapSeq_set (its : List Value) (n j : Nat) (u : Value) : Obj.mapSeq (·.setIfInBounds j u) { cls := .type "list", data := .seq its.toArray n } = { cls := .type "list", data := .seq (its.set j u).toArray n } := by
  simp [Obj.mapSeq]
theorem Inv.lst {pins : List (Addr × Obj)} {σ : St} {H : Hp} {s : Shared} {p : Addr} {xs : List V} (I : Inv X pins σ H s) (h : H p = some (.lst xs)) :
    ∃ (its : List Value) (n : Nat), Vals xs its ∧ s.heap.get? p = some { cls := .type "list", data := .seq its.toArray n } ∧ xs.length ≤ sizeLine := by
  obtain ⟨z, its, n, r, e⟩ := I.hok p _ h
  exact ⟨its, n, r, e, z⟩
theorem Inv.lstUpd {pins : List (Addr × Obj)} {σ : St} {H : Hp} {s : Shared} {p : Addr} {xs ys : List V} {its its' : List Value} {n n' : Nat} {f : Obj → Obj} (I : Inv X pins σ H s) (h : H p = some (.lst xs))
    (ho : s.heap.get? p = some { cls := .type "list", data := .seq its.toArray n }) (hf : f { cls := .type "list", data := .seq its.toArray n } = { cls := .type "list", data := .seq its'.toArray n' }) (r : Vals ys its') (hz : ys.length ≤ sizeLine) (t : Nat) :
    Inv X pins σ (upd H p (.lst ys)) { s with heap := s.heap.update p f, toks := t } := by
  have e : (s.heap.update p f).get? p = some { cls := .type "list", data := .seq its'.toArray n' } := by
    rw [Heap.get?_update_self f ho (by rw [hf] <;> rfl), hf]
  refine I.write (x := p) (e := p) (by rw [h]; trivial) (.inl rfl) (fun b u hb q => (Heap.get?_update_other _ _ (Ne.symm hb)).trans q) ⟨_, e⟩ ?_
  exact ⟨hz, its', n', r, e⟩
def rSetL : V → V → V → Hp → (Hp → Prop) → Prop := fun o i v H Q => ∃ p xs k j, o = .ref p ∧ i = .int k ∧ H p = some (.lst xs) ∧ ixN xs.length k = some j ∧ Q (upd H p (.lst (xs.set j v)))
theorem set_list : PSet X rSetL := by
  intro pins s σ H o i v ov iv u Q I ro ri rv h
  obtain ⟨p, xs, k, j, rfl, rfl, hp, hj, q⟩ := h
  cases ro
  obtain ⟨t, rfl⟩ := ri
  obtain ⟨its, n, r, ho, hz⟩ := I.lst hp
  obtain ⟨h1, h2, h3, h4⟩ := ixN_seq hj
  have hl := r.length
  have hn := line63
  have I' : Inv X pins σ (upd H p (.lst (xs.set j v))) { s with heap := s.heap.update p (Obj.mapSeq (·.setIfInBounds j u)) } :=
    I.lstUpd hp ho (mapSeq_set its n j u) (r.set rv j) (by rw [List.length_set]; exact hz) s.toks
  by_cases h0 : 0 ≤ k
  · have hk : k.toNat = j := by
      rw [seqIndex_of h0 h4] at h1
      exact Option.some.inj h1
    exact PySem.W.ki_setAt ho h0 (by omega) (by rw [List.size_toArray, ← hl]; exact h4) (by rw [hk]; exact ⟨_, I', q⟩)
  · have hk : (k + (its.toArray.size : Int)).toNat = j := by
      rw [seqIndex_neg (by omega) h3] at h1
      rw [List.size_toArray, ← hl]
      exact Option.some.inj h1
    exact PySem.W.ki_setBack ho (by omega) (by rw [List.size_toArray, ← hl]; exact h3) (by omega) (by rw [hk]; exact ⟨_, I', q⟩)
theorem slice_bounds (lo hi : Option Int) (n : Nat) : (sliceBounds lo hi none n).1 = ((HT.sIx n 0 lo : Nat) : Int) ∧ (sliceBounds lo hi none n).2.1 = ((HT.sIx n n hi : Nat) : Int) ∧ (sliceBounds lo hi none n).2.2 = 1 := by
  refine ⟨?_, ?_, rfl⟩
  · cases lo with
    | none => simp [sliceBounds, HT.sIx]
    | some i =>
      simp only [sliceBounds, HT.sIx, Option.getD_none, show (1 : Int) > 0 by decide, if_true]
      by_cases h : i < 0
      · simp only [h, if_true] <;> omega
      · simp only [h, if_false] <;> omega
  · cases hi with
    | none => simp [sliceBounds, HT.sIx]
    | some i =>
      simp only [sliceBounds, HT.sIx, Option.getD_none, show (1 : Int) > 0 by decide, if_true]
      by_cases h : i < 0
      · simp only [h, if_true] <;> omega
      · simp only [h, if_false] <;> omega
theorem slicePick_cut (its : List Value) (lo hi : Option Int) : slicePick its.toArray lo hi none = ((its.drop (HT.sIx its.length 0 lo)).take (HT.sIx its.length its.length hi - HT.sIx its.length 0 lo)).toArray := by
  obtain ⟨h1, h2, h3⟩ := slice_bounds lo hi its.toArray.size
  unfold slicePick
  rw [h1, h2, h3]
  simp only [sliceRange_one, pick_run, List.size_toArray] <;> rfl
def rSlL (K : PySem.W.Frag) : V → Option Int → Option Int → Hp → VK → Prop := fun x lo hi H Q => ∃ a xs, x = .ref a ∧ SqL K H a xs ∧ ∀ p, H p = none → Q (.ref p) (upd H p (.lst (cutV xs lo hi)))
theorem sl_list : SlR X (rSlL X.K) := by
  intro pins s σ H x v vl vu lo hi sl Q I rx hs pl pu h
  obtain ⟨a, xs, rfl, hx, q⟩ := h
  cases rx
  obtain ⟨its, r, ht, hz⟩ := I.list hx
  have hlen := r.length
  refine ⟨"list", _, slot_list_getitem.lookup, ht.isList.typeIs, ?_⟩
  refine wpAny_getItem_list_slice ht.isList hs pl pu .none (by simp) ?_ (by rw [List.size_toArray] <;> omega)
  rw [slicePick_cut, ← hlen]
  refine ⟨.ref s.heap.objs.size, _, I.laid (t' := s.toks) (o := .lst (cutV xs lo hi)) (fun b ob q => Heap.get?_push_of_some _ q) (Nat.le_refl _) ?_, rfl, q _ (I.hok.fresh (Nat.le_refl _))⟩
  exact ⟨Nat.le_trans (cutV_length xs lo hi) hz, _, 0, (r.drop (HT.sIx xs.length 0 lo)).take (HT.sIx xs.length xs.length hi - HT.sIx xs.length 0 lo), Heap.get?_push_size _ rfl⟩
def flatV : V → Bool
  | .non => true
  | .bl _ => true
  | .int _ => true
  | .str _ => true
  | _ => false
def eqV : V → V → Bool
  | .non, .non => true
  | .bl a, .bl b => a == b
  | .bl a, .int b => (if a then 1 else 0) == b
  | .int a, .bl b => a == (if b then 1 else 0)
  | .int a, .int b => a == b
  | .str a, .str b => a == b
  | _, _ => false
theorem eqAt_V {A : Around} {s : Shared} {y x : V} {u v : Value} (ry : RelV y u) (rx : RelV x v) (fy : flatV y = true) (fx : flatV x = true) : SeqAt.EqAt A s u v (eqV y x) := by
  cases y with
  | non =>
    cases ry
    cases x with
    | non => cases rx; exact SeqAt.EqAt.same _
    | bl b => cases rx; exact SeqAt.EqAt.none_bool b
    | int b => obtain ⟨t, rfl⟩ := rx; exact SeqAt.EqAt.none_int b t
    | str b => obtain ⟨t, rfl⟩ := rx; exact SeqAt.EqAt.none_str b t
    | _ => exact absurd (show false = true from fx) Bool.false_ne_true
  | bl a =>
    cases ry
    cases x with
    | non => cases rx; exact SeqAt.EqAt.bool_none a
    | bl b => cases rx; exact SeqAt.EqAt.bool_bool a b
    | int b => obtain ⟨t, rfl⟩ := rx; exact SeqAt.EqAt.bool_int a b t
    | str b => obtain ⟨t, rfl⟩ := rx; exact SeqAt.EqAt.bool_str a b t
    | _ => exact absurd (show false = true from fx) Bool.false_ne_true
  | int a =>
    obtain ⟨t', rfl⟩ := ry
    cases x with
    | non => cases rx; exact SeqAt.EqAt.int_none a t'
    | bl b => cases rx; exact SeqAt.EqAt.int_bool a t' b
    | int b => obtain ⟨t, rfl⟩ := rx; exact SeqAt.EqAt.int_int a t' b t
    | str b => obtain ⟨t, rfl⟩ := rx; exact SeqAt.EqAt.int_str a t' b t
    | _ => exact absurd (show false = true from fx) Bool.false_ne_true
  | str a =>
    obtain ⟨t', rfl⟩ := ry
    cases x with
    | non => cases rx; exact SeqAt.EqAt.str_none a t'
    | bl b => cases rx; exact SeqAt.EqAt.str_bool a t' b
    | int b => obtain ⟨t, rfl⟩ := rx; exact SeqAt.EqAt.str_int a t' b t
    | str b => obtain ⟨t, rfl⟩ := rx; exact SeqAt.EqAt.str_str a t' b t
    | _ => exact absurd (show false = true from fx) Bool.false_ne_true
  | _ => exact absurd (show false = true from fy) Bool.false_ne_true
def eqU (x : V) (u : Value) : Bool := match u with
  | .none => eqV .non x
  | .bool b => eqV (.bl b) x
  | .int i _ => eqV (.int i) x
  | .str z _ => eqV (.str z) x
  | _ => false
theorem eqU_of {x y : V} {u : Value} (r : RelV y u) (f : flatV y = true) : eqU x u = eqV y x := by
  cases y with
  | non => cases r; rfl
  | bl b => cases r; rfl
  | int i => obtain ⟨t, rfl⟩ := r; rfl
  | str z => obtain ⟨t, rfl⟩ := r; rfl
  | _ => exact absurd (show false = true from f) Bool.false_ne_true
theorem any_eqU {x : V} : ∀ {xs : List V} {us : List Value}, Vals xs us → xs.all flatV = true → us.any (eqU x) = xs.any fun y => eqV y x
  | _, _, .nil, _ => rfl
  | y :: xs, u :: us, .cons r t, f => by
    rw [List.all_cons, Bool.and_eq_true] at f
    rw [List.any_cons, List.any_cons, eqU_of r f.1, any_eqU t f.2]
theorem mem_eqAt {A : Around} {s : Shared} {x : V} {v : Value} (rx : RelV x v) (fx : flatV x = true) : ∀ {xs : List V} {us : List Value}, Vals xs us → xs.all flatV = true → ∀ u ∈ us, SeqAt.EqAt A s u v (eqU x u)
  | _, _, .nil, _ => fun u hu => by cases hu
  | y :: xs, u :: us, .cons r t, f => fun u' hu => by
    rw [List.all_cons, Bool.and_eq_true] at f
    rcases List.mem_cons.mp hu with rfl | hu
    · rw [eqU_of r f.1]; exact eqAt_V r rx f.1 fx
    · exact mem_eqAt rx fx t f.2 u' hu
def inV (x : V) (xs : List V) : Bool := xs.any fun y => eqV y x
def rIn (K : PySem.W.Frag) (neg : Bool) : R2 := fun x y H Q => ∃ p xs, y = .ref p ∧ (SqL K H p xs ∨ SqT K H p xs) ∧ flatV x = true ∧ xs.all flatV = true ∧ Q (.bl (if neg then !inV x xs else inV x xs)) H
theorem op_notIn_seq : OpR X (compareOp .NotIn) (rIn X.K true) := by
  intro pins s σ H x y v u Q I rx ry h
  obtain ⟨p, xs, rfl, hq, fx, fs, q⟩ := h
  cases ry
  rcases hq with hq | hq
  · obtain ⟨its, r, pl, hz⟩ := I.list hq
    refine SeqAt.notIn_listAt (eqU x) pl.isList (fun w hw => mem_eqAt rx fx r fs w (by simpa using hw)) ⟨.bl _, H, I, rfl, ?_⟩
    rw [show its.toArray.any (eqU x) = its.any (eqU x) by simp, any_eqU r fs]
    exact q
  · obtain ⟨its, r, pl, hz⟩ := I.tuple hq
    refine SeqAt.notIn_tupleAt (eqU x) pl (fun w hw => mem_eqAt rx fx r fs w (by simpa using hw)) ⟨.bl _, H, I, rfl, ?_⟩
    rw [show its.toArray.any (eqU x) = its.any (eqU x) by simp, any_eqU r fs]
    exact q
theorem CallR.or {f : Value} {r r' : List V → Hp → VK → Prop} (h : CallR X f r) (h' : CallR X f r') : CallR X f (fun xs H Q => r xs H Q ∨ r' xs H Q) := by
  intro pins s σ H xs us Q I rs q
  rcases q with q | q
  · exact h pins s σ H xs us Q I rs q
  · exact h' pins s σ H xs us Q I rs q
def tyV (K : PySem.W.Frag) (T : String) (x : V) (H : Hp) : Prop := match x with
  | .str _ => T = "str"
  | .int _ => T = "int"
  | .ref p => (T = "list" ∧ ∃ xs, SqL K H p xs) ∨ (T = "tuple" ∧ ∃ o, K.lookup p = some o ∧ o.cls = .type "tuple" ∧ o.dict = none) ∨
      (T = "dict" ∧ ((∃ kvs, H p = some (.dK kvs)) ∨ ∃ kvs, H p = some (.dT kvs))) ∨ (T = "set" ∧ ∃ S n, H p = some (.set S n))
  | _ => False
theorem tyV_is {pins : List (Addr × Obj)} {σ : St} {H : Hp} {s : Shared} {T : String} {x : V} {v : Value} (I : Inv X pins σ H s) (r : RelV x v) (ty : tyV X.K T x H) :
    s.TypeIs v T ∧ ∀ a, v = .ref a → ∃ ob, s.heap.get? a = some ob ∧ ob.dict = none := by
  cases x with
  | str z =>
    obtain ⟨t, rfl⟩ := r
    cases (show T = "str" from ty)
    exact ⟨typeIs_str s z t, fun _ e => nomatch e⟩
  | int i =>
    obtain ⟨t, rfl⟩ := r
    cases (show T = "int" from ty)
    exact ⟨typeIs_int s i t, fun _ e => nomatch e⟩
  | ref p =>
    cases r
    rcases ty with ⟨rfl, xs, hq⟩ | ⟨rfl, o, hk, hc, hd⟩ | ⟨rfl, hk⟩ | ⟨rfl, S, n, hk⟩
    · obtain ⟨its, _, pl, _⟩ := I.list hq
      refine ⟨pl.isList.typeIs, fun a e => ?_⟩
      cases e
      obtain ⟨o, n, e, c, hd, _⟩ := pl
      exact ⟨o, e, hd⟩
    · refine ⟨⟨o, I.kIn p o hk, hc⟩, fun a e => ?_⟩
      cases e
      exact ⟨o, I.kIn _ o hk, hd⟩
    · have z : ∃ o, s.heap.get? p = some o ∧ o.ExactDict := by
        rcases hk with ⟨kvs, hk⟩ | ⟨kvs, hk⟩
        · obtain ⟨_, _, _, _, o, _, _, e, ex, _⟩ := I.hok p _ hk
          exact ⟨o, e, ex⟩
        · obtain ⟨_, _, _, _, o, _, _, e, ex, _⟩ := I.hok p _ hk
          exact ⟨o, e, ex⟩
      obtain ⟨o, e, ex⟩ := z
      refine ⟨⟨o, e, ex.1⟩, fun a e2 => ?_⟩
      cases e2
      exact ⟨o, e, ex.2.1⟩
    · obtain ⟨o, _, _, _, e, ex, _⟩ := I.hok p _ hk
      refine ⟨⟨o, e, ex.1⟩, fun a e2 => ?_⟩
      cases e2
      exact ⟨o, e, ex.2.1⟩
  | _ => exact False.elim ty
def tBM (K : PySem.W.Frag) (T : String) (r : V → List V → Hp → VK → Prop) (to : TE) (t : TA) : TE := fun σ H Q => to σ H fun x H1 => tyV K T x H1 ∧ t σ H1 fun xs H2 => r x xs H2 Q
variable {o e : Expr} {es : List Expr} {to : TE} {t : TA} {name : Str} {apos cpos : Pos} {T id : String} {r : V → List V → Hp → VK → Prop}
theorem pe_bm (pa : PlainAttrs T) (slot : Slot T name id) (hty : typeOf (.builtin id) = pure (.type "method_descriptor")) (hm : MtR X id r) (ho : PE X o to) (ha : PA X (e :: es) t)
    (hbase : attributeBase o name X.env (eval o X.env) = eval o X.env := by rfl)
    (hfew : ((backTo cpos (starEach (e :: es) X.env)).all (fun x => !x.1) && (backToKw cpos (keywordEach [] X.env)).all (fun x => x.1.isSome)
      && decide ((e :: es).length + ([] : List Keyword).length + (if ([] : List Keyword).isEmpty then 0 else 1) < 30)) = true := by rfl)
    (hline : (apos.endLine == cpos.line) = true := by rfl) (hs : starEach (e :: es) X.env = (false, eval e X.env) :: starEach es X.env := by rfl) (hplain : (backTo cpos (starEach es X.env)).any (·.1) = false := by rfl) :
    PE X (.Call (.Attribute o name apos) (e :: es) [] cpos) (tBM X.K T r to t) := by
  intro pins s σ H Q I h
  refine wpAny_Call_method_late hbase hfew hline rfl (thn (ho pins s σ H _ I h) fun v s1 ⟨x, H1, I1, r1, ty, q1⟩ => ?_)
  obtain ⟨h1, h2⟩ := tyV_is I1 r1 ty
  refine ⟨T, id, pa, slot, hty, h1, h2, ?_⟩
  have hA := ha cpos pins s1 σ H1 _ I1 q1
  rw [hs] at hA ⊢
  refine Calls.callWith_builtin (by show (false || (backTo cpos (starEach es X.env)).any (·.1)) = false; rw [hplain] <;> rfl) (Calls.evalArgs_plain ?_)
  exact thn hA fun us s2 ⟨vs, H2, I2, r2, q2⟩ => hm pins s2 σ H2 x vs v us Q I2 r1 r2 q2
/- xs.append(e), list.index on a module's tuple .. are MtR facts of 06m -/
end
end L2
namespace L2
open PySem PySem.Spec PyProof.Rows
def MtM (X : Cx) (id : String) (r : V → List V → Hp → VK → Prop) : Prop :=
  ∀ (pins : List (Addr × Obj)) (s : Shared) (σ : St) (H : Hp) (x : V) (xs : List V) (v : Value) (us : List Value) (Q : VK), Inv X pins σ H s → RelV x v → Vals xs us → r x xs H Q →
    wpAny (model X.prog X.w) X.A (call (.builtin id) (v :: us)) (EP X pins σ Q) X.xe s
theorem Vals.one : ∀ {x : V} {us : List Value}, Vals [x] us → ∃ u, us = [u] ∧ RelV x u
  | _, _, .cons r .nil => ⟨_, rfl, r⟩
theorem Vals.two : ∀ {x y : V} {us : List Value}, Vals [x, y] us → ∃ u v, us = [u, v] ∧ RelV x u ∧ RelV y v
  | _, _, _, .cons r (.cons q .nil) => ⟨_, _, rfl, r, q⟩
theorem Vals.zero : ∀ {us : List Value}, Vals [] us → us = []
  | _, .nil => rfl
theorem Vals.dropLast {xs : List V} {us : List Value} (h : Vals xs us) : Vals xs.dropLast us.dropLast := by
  induction h with
  | nil => exact .nil
  | cons r t ih =>
    cases t with
    | nil => exact .nil
    | cons q t' => exact .cons r ih
theorem Vals.reverse {xs : List V} {us : List Value} (h : Vals xs us) : Vals xs.reverse us.reverse := by
  induction h with
  | nil => exact .nil
  | cons r t ih => rw [List.reverse_cons, List.reverse_cons]; exact Vals.append ih (.cons r .nil)
theorem Vals.rep {xs : List V} {us : List Value} (h : Vals xs us) : ∀ k : Nat, Vals (List.replicate k xs).flatten (List.replicate k us).flatten
  | 0 => .nil
  | k + 1 => by
    rw [List.replicate_succ, List.replicate_succ, List.flatten_cons, List.flatten_cons]
    exact Vals.append h (Vals.rep h k)
theorem foldl_rep (its : List Value) : ∀ (k : Nat) (acc : List Value),
    List.foldl (fun x1 x2 => x1 ++ x2) acc.toArray (List.replicate k its.toArray) = (acc ++ (List.replicate k its).flatten).toArray
  | 0, acc => by simp
  | k + 1, acc => by
    have e : acc.toArray ++ its.toArray = (acc ++ its).toArray := by simp
    have e2 : (acc ++ its) ++ (List.replicate k its).flatten = acc ++ (List.replicate (k + 1) its).flatten := by
      rw [List.replicate_succ, List.flatten_cons, List.append_assoc]
    rw [← e2, ← foldl_rep its k (acc ++ its), ← e, List.replicate_succ, List.foldl_cons]
section
variable {X : Cx} {pins : List (Addr × Obj)} {σ : St} {H : Hp} {s : Shared} {l b : Addr} {xs ys zs : List V}
theorem Inv.lset {its its' : List Value} {n : Nat} {f : Array Value → Array Value} {t' : Nat} (I : Inv X pins σ H s) (hH : H l = some (.lst xs))
    (e : s.heap.get? l = some { cls := .type "list", data := .seq its.toArray n }) (hf : f its.toArray = its'.toArray) (hv : Vals ys its') (hz : ys.length ≤ sizeLine) :
    Inv X pins σ (upd H l (.lst ys)) { s with heap := s.heap.update l (Obj.mapSeq f), toks := t' } := by
  have q := PySem.IsL.update e f
  rw [hf] at q
  refine I.write (x := l) (e := l) (by rw [hH]; exact trivial) (.inl rfl) (fun b' u hb hu => (Heap.get?_update_other s.heap (Obj.mapSeq f) (Ne.symm hb)).trans hu) ⟨_, q⟩ ?_
  exact ⟨hz, its', _, hv, q⟩
theorem Inv.lnew {its : List Value} {t' : Nat} (I : Inv X pins σ H s) (hv : Vals ys its) (hz : ys.length ≤ sizeLine) :
    Inv X pins σ (upd H s.heap.objs.size (.lst ys)) { s with heap := s.heap.push { cls := .type "list", data := .seq its.toArray }, toks := t' } :=
  I.laid (fun _ _ q => Heap.get?_push_of_some _ q) (Nat.le_refl _) ⟨hz, its, 0, hv, Heap.get?_push_size _ rfl⟩
theorem Inv.fresh (I : Inv X pins σ H s) : H s.heap.objs.size = none := I.hok.fresh (Nat.le_refl _)
theorem Inv.lstM (I : Inv X pins σ H s) (hH : H l = some (.lst xs)) : xs.length ≤ sizeLine ∧ ∃ (its : List Value) (n : Nat), Vals xs its ∧ xs.length = its.length ∧ s.heap.get? l = some { cls := .type "list", data := .seq its.toArray n } := by
  obtain ⟨z, its, n, r, e⟩ := I.hok l _ hH
  exact ⟨z, its, n, r, r.length, e⟩
theorem notLongL {n : Nat} (h : n ≤ sizeLine) : Builtin.List.listTooLong n = false := by
  unfold Builtin.List.listTooLong
  exact decide_eq_false (by omega)
end
section
variable {X : Cx}
def rAppend : V → List V → Hp → VK → Prop := fun x vs H Q => ∃ l xs y, x = .ref l ∧ vs = [y] ∧ H l = some (.lst xs) ∧ xs.length < sizeLine ∧ Q .non (upd H l (.lst (xs ++ [y])))
theorem mt_append : MtM X "list.append" rAppend := by
  intro pins s σ H x vs v us Q I rx rv h
  obtain ⟨l, xs, y, rfl, rfl, hH, hz, q⟩ := h
  cases rx
  obtain ⟨u, rfl, ru⟩ := rv.one
  obtain ⟨z, its, n, r, hl, e⟩ := I.lstM hH
  refine call_meets F.slot_list_append ⟨_, e, rfl⟩ F.entry_list_append (F.args_list_append_2 _ _) (PySem.list_append l its.toArray n u (by rw [List.size_toArray]; omega)) ⟨e, ?_⟩
  refine ⟨.non, _, I.lset (its' := its ++ [u]) hH e (by simp) (r.append (.cons ru .nil)) ?_, rfl, q⟩
  rw [List.length_append, List.length_singleton]
  omega
def rRep : R2 := fun x y H Q => ∃ l k xs, x = .ref l ∧ y = .int k ∧ H l = some (.lst xs) ∧ -(2 ^ 63) ≤ k ∧ k < 2 ^ 63 ∧ xs.length * k.toNat ≤ sizeLine ∧
  ∀ p, H p = none → Q (.ref p) (upd H p (.lst (List.replicate k.toNat xs).flatten))
theorem len_rep {α : Type} (xs : List α) (k : Nat) : (List.replicate k xs).flatten.length = k * xs.length := by
  induction k with
  | zero => simp
  | succ k ih => rw [List.replicate_succ, List.flatten_cons, List.length_append, ih, Nat.succ_mul, Nat.add_comm]
theorem op_rep : OpR X (binaryOp .Mult) rRep := by
  intro pins s σ H x y v u Q I rx ry h
  obtain ⟨l, k, xs, rfl, rfl, hH, h1, h2, hz, q⟩ := h
  cases rx
  obtain ⟨t, rfl⟩ := ry
  obtain ⟨z, its, n, r, hl, e⟩ := I.lstM hH
  have hlen : its.toArray.size * k.toNat ≤ sizeLine := by rw [List.size_toArray, ← hl]; exact hz
  have hcap : ¬ its.toArray.size * k.toNat > (2 ^ 63 - 1) / 8 := by
    have : (sizeLine : Nat) ≤ (2 ^ 63 - 1) / 8 := by decide
    omega
  have hfit : ¬ (!Builtin.List.listFitsIndex k) = true := by
    rw [fitsIndex_both h1 h2]
    exact Bool.false_ne_true
  have hlong : ¬ Builtin.List.listTooLong (its.toArray.size * k.toNat) = true := by
    rw [notLongL hlen]
    exact Bool.false_ne_true
  have hnew : List.foldl (fun x1 x2 => x1 ++ x2) #[] (List.replicate (if its.toArray.isEmpty = true then 0 else k.toNat) its.toArray) = (List.replicate k.toNat its).flatten.toArray := by
    have f0 : ∀ m : Nat, List.foldl (fun x1 x2 => x1 ++ x2) #[] (List.replicate m its.toArray) = (List.replicate m its).flatten.toArray := fun m => by
      have := foldl_rep its m []
      rw [List.nil_append] at this
      exact this
    rw [f0]
    cases its with
    | nil => simp
    | cons a r' => rw [if_neg (by simp)]
  refine wpAny_binaryOp_repeat_ref (T := "list") (U := "int") (by decide) ⟨_, e, rfl⟩ (fun s' => typeIs_int s' k t) noFill_list_mul F.fills_int_mul F.slot_int_rmul repeat_list F.slot_int_index.lookup
    (call_meets F.slot_int_rmul (typeIs_int s k t) F.entry_int_rmul (F.args_int_rmul_2 _ _) (int___rmul___int_list k t l its.toArray n)
      ⟨e, rfl, ⟨_, e, rfl⟩, call_meets F.slot_list_mul ⟨_, e, rfl⟩ F.entry_list_mul (F.args_list_mul_2 _ _) (AutoListH.list___mul___list_int_3 l its.toArray n k t hfit hcap hlong) ⟨e, ?_⟩⟩)
  rw [hnew]
  exact ⟨.ref _, _, I.lnew (t' := s.toks) (r.rep k.toNat) (by rw [len_rep, Nat.mul_comm]; exact hz), rfl, q _ I.fresh⟩
end
section
variable {prog : Program} {w : World} {A : Around} {E : Value → Shared → Prop} {s : Shared}
end
section
variable {X : Cx}
end
end L2
namespace L2
open PySem PySem.Spec PyProof.Rows
theorem Vals.ints : ∀ {ns : List Int} {us : List Value}, Vals (ns.map V.int) us → IntsAre us ns
  | [], us, h => by
    rw [List.map_nil] at h
    cases h
    exact IntsAre.nil
  | n :: ns, us, h => by
    rw [List.map_cons] at h
    cases h with
    | cons r t =>
      obtain ⟨k, rfl⟩ := r
      exact IntsAre.cons n k (Vals.ints t)
theorem Vals.ref1 {a : Addr} {us : List Value} (r : Vals [V.ref a] us) : us = [Value.ref a] := by
  cases r with
  | cons r t =>
    cases t
    cases r
    rfl
section
variable {prog : Program} {w : World} {A : Around} {E : Value → Shared → Prop} {s : Shared} {l : Addr} {its : List Value} {ns : List Int} {Q : Value → Shared → Prop}
theorem sum_raw (hh : A.handled = none) (hl : s.heap.IsList l its.toArray) (hi : IntsAre its ns)
    (h : ∀ h' tk t', (∀ b o, s.heap.get? b = some o → h'.get? b = some o) → Q (.int ns.sum t') { s with heap := h', toks := tk }) : wpAny (model prog w) A (call (.builtin "sum") [.ref l]) Q E s := by
  obtain ⟨xs, e⟩ := hi.allInts.items
  have hn : numsOf (intItems xs).toList = ns := by rw [← e]; exact hi.numsOf
  rw [nums_intItems] at hn
  rw [e] at hl
  refine PySem.sum_intListG hh hl fun h' tk t' hk => ?_
  have := h h' tk t' hk
  rw [preSum_eq, List.take_of_length_le (by simp), hn]; exact this
end
section
variable {X : Cx}
def rSum (K : PySem.W.Frag) : List V → Hp → VK → Prop := fun vs H Q => ∃ (a : Addr) (ns : List Int), vs = [V.ref a] ∧ SqL K H a (ns.map V.int) ∧ Q (.int ns.sum) H
theorem cr_sum (hc : X.calm = true) : CallR X (.builtin "sum") (rSum X.K) := by
  intro pins s σ H vs us Q I r h
  obtain ⟨a, ns, rfl, hs, q⟩ := h
  obtain ⟨its, rv, hl, _⟩ := I.list hs
  rw [Vals.ref1 r]
  exact sum_raw (I.ok.hd hc) hl.isList rv.ints fun h' tk t' hk => ⟨.int _, H, I.kept hk, ⟨_, rfl⟩, q⟩
end
section
variable {X : Cx}
def rIndex (K : PySem.W.Frag) : V → List V → Hp → VK → Prop := fun x xs H Q => ∃ (a : Addr) (ys : List V) (y : V) (j : Nat) (z : V), x = V.ref a ∧ xs = [y] ∧ SqL K H a ys ∧ flatV y = true ∧ ys.all flatV = true ∧ ys[j]? = some z ∧ eqV z y = true ∧
  (∀ (m : Nat) (z' : V), m < j → ys[m]? = some z' → eqV z' y = false) ∧ Q (.int (j : Nat)) H
theorem flat_at {ys : List V} (f : ys.all flatV = true) {j : Nat} {z : V} (h : ys[j]? = some z) : flatV z = true := List.all_eq_true.mp f z (List.mem_of_getElem? h)
theorem mt_index : MtR X "list.index" (rIndex X.K) := by
  intro pins s σ H x xs v us Q I rx rxs h
  obtain ⟨a, ys, y, j, z, rfl, rfl, hs, fy, fys, hz, hzj, hno, q⟩ := h
  cases rx
  cases rxs with
  | cons ry rt =>
    rename_i uy ut
    cases rt
    obtain ⟨its, rv, ⟨⟨cls, dd, data, sl⟩, n, ho, hc, hdn, hd⟩, hlen⟩ := I.list hs
    simp only at hc hd
    subst hc hd
    obtain ⟨u, hu, ru⟩ := rv.get hz
    obtain ⟨hjl, hje⟩ := List.getElem?_eq_some_iff.mp hu
    have hvl := rv.length
    have hj : j < its.toArray.size := by simpa using hjl
    have hsl := sizeLine_eq
    refine call_meets PySem.F.slot_list_index ⟨_, ho, rfl⟩ PySem.F.entry_list_index (PySem.F.args_list_index_2 _ _)
      (SeqAt.list_indexAt a its.toArray n dd sl uy (eqU y) j hj (by omega) ?_ ?_) ⟨ho, fun u' hu' => mem_eqAt ry fy rv fys u' (by simpa using hu'), ?_⟩
    · have e1 : its.toArray[j] = u := by simpa using hje
      rw [e1, eqU_of ru (flat_at fys hz)]
      exact hzj
    · intro m hm hmj
      have hml : m < its.length := by simpa using hm
      have hmy : m < ys.length := by omega
      have hy' : ys[m]? = some ys[m] := List.getElem?_eq_getElem hmy
      obtain ⟨u2, hu2, ru2⟩ := rv.get hy'
      obtain ⟨_, hme⟩ := List.getElem?_eq_some_iff.mp hu2
      have e1 : its.toArray[m] = u2 := by simpa using hme
      rw [e1, eqU_of ru2 (flat_at fys hy')]
      exact hno m _ hmj hy'
    · exact ⟨.int (j : Nat), H, I.tok _, ⟨_, rfl⟩, q⟩
end
section
variable {X : Cx}
end
section
variable {X : Cx}
end
mutual
inductive Dp (K : PySem.W.Frag) (H : Hp) : V → PyData → Prop
  | non : Dp K H .non .none
  | bl (b : Bool) : Dp K H (.bl b) (.bool b)
  | int (i : Int) : Dp K H (.int i) (.int i)
  | str (x : Str) : Dp K H (.str x) (.str x)
  | lst {a : Addr} {xs : List V} {ds : List PyData} : SqL K H a xs → DpAll K H xs ds → Dp K H (.ref a) (.list ds)
  | tup {a : Addr} {xs : List V} {ds : List PyData} : SqT K H a xs → DpAll K H xs ds → Dp K H (.ref a) (.tuple ds)
inductive DpAll (K : PySem.W.Frag) (H : Hp) : List V → List PyData → Prop
  | nil : DpAll K H [] []
  | cons {v : V} {vs : List V} {d : PyData} {ds : List PyData} : Dp K H v d → DpAll K H vs ds → DpAll K H (v :: vs) (d :: ds)
end
section
variable {X : Cx} {pins : List (Addr × Obj)} {σ : St} {H : Hp} {s : Shared}
mutual
theorem Dp.reads (I : Inv X pins σ H s) : ∀ (d : PyData) (v : V) (u : Value), Dp X.K H v d → RelV v u → ∃ as, Reads s.heap u d as
  | .none, _, _, h, r => by
    cases h
    cases r
    exact ⟨_, Reads.none⟩
  | .bool b, _, _, h, r => by
    cases h
    cases r
    exact ⟨_, Reads.bool b⟩
  | .int i, _, _, h, r => by
    cases h
    obtain ⟨t, rfl⟩ := r
    exact ⟨_, Reads.int i t⟩
  | .str x, _, _, h, r => by
    cases h
    obtain ⟨t, rfl⟩ := r
    exact ⟨_, Reads.str x t⟩
  | .list ds, _, _, h, r => by
    cases h with
    | lst hs ha =>
      cases r
      obtain ⟨its, rv, ⟨o, n, ho, hc, _, hd⟩, _⟩ := I.list hs
      obtain ⟨as, hr⟩ := Dp.readsAll I ds _ its ha rv
      exact ⟨_, Reads.list ho hc hd hr⟩
  | .tuple ds, _, _, h, r => by
    cases h with
    | tup hs ha =>
      cases r
      obtain ⟨its, rv, ⟨o, ho, hc, n, hd⟩, _⟩ := I.tuple hs
      obtain ⟨as, hr⟩ := Dp.readsAll I ds _ its ha rv
      exact ⟨_, Reads.tuple ho hc hd hr⟩
  | .dict _, _, _, h, _ => by cases h
theorem Dp.readsAll (I : Inv X pins σ H s) : ∀ (ds : List PyData) (vs : List V) (us : List Value), DpAll X.K H vs ds → Vals vs us → ∃ as, ReadsAll s.heap us ds as
  | [], _, _, h, r => by
    cases h
    cases r
    exact ⟨_, ReadsAll.nil⟩
  | d :: ds, _, _, h, r => by
    cases h with
    | cons h1 h2 =>
      cases r with
      | cons r1 r2 =>
        obtain ⟨as, q1⟩ := Dp.reads I d _ _ h1 r1
        obtain ⟨bs, q2⟩ := Dp.readsAll I ds _ _ h2 r2
        exact ⟨_, ReadsAll.cons q1 q2⟩
end
end
section
variable {X : Cx}
def rEqD (K : PySem.W.Frag) : R2 := fun x y H Q => ∃ d e, Dp K H x d ∧ Dp K H y e ∧ SeqAt.shaped d = true ∧ SeqAt.shaped e = true ∧ Q (.bl (PyData.eqv d e)) H
def rNeD (K : PySem.W.Frag) : R2 := fun x y H Q => ∃ d e, Dp K H x d ∧ Dp K H y e ∧ SeqAt.shaped d = true ∧ SeqAt.shaped e = true ∧ Q (.bl (!PyData.eqv d e)) H
theorem op_eqD (hu : X.A.units + 64 < cLine) : OpR X (compareOp .Eq) (rEqD X.K) := by
  intro pins s σ H x y v u Q I rx ry h
  obtain ⟨d, e, hd, he, sd, se, q⟩ := h
  obtain ⟨as, r1⟩ := Dp.reads I d x v hd rx
  obtain ⟨bs, r2⟩ := Dp.reads I e y u he ry
  exact SeqAt.compareEq_shaped r1 r2 sd se hu ⟨.bl _, H, I, rfl, q⟩
theorem op_neD (hu : X.A.units + 64 < cLine) : OpR X (compareOp .NotEq) (rNeD X.K) := by
  intro pins s σ H x y v u Q I rx ry h
  obtain ⟨d, e, hd, he, sd, se, q⟩ := h
  obtain ⟨as, r1⟩ := Dp.reads I d x v hd rx
  obtain ⟨bs, r2⟩ := Dp.reads I e y u he ry
  exact SeqAt.compareNe_shaped r1 r2 sd se hu ⟨.bl _, H, I, rfl, q⟩
end
end L2
namespace L2
open PySem PySem.Spec PyProof.Rows
abbrev CellAt (h : Heap) (c : Addr) (v : Option Value) : Prop := h.IsCell c v
def relS (scope sc : Scope) : Scope :=
  { scope with names := scope.names.map fun (n, k) => if (k == .free && sc.kind == .function && sc.names.lookup n == some .cell) then (n, .cell) else (n, k) }
def cloFrom (cells : List (Str × Addr)) : List (Str × NameKind) → List (Str × Addr) → List (Str × Addr)
  | [], acc => acc
  | (n, k) :: r, acc => if k == .free then cloFrom cells r ((n, (cells.lookup n).getD 0) :: acc) else cloFrom cells r acc
theorem closure_loop (env : Env) (f : Str × NameKind → List (Str × Addr) → Sem (ForInStep (List (Str × Addr))))
    (hf : ∀ n k c, f (n, k) c = if k == .free then (do let a ← cellOf env n; pure (.yield ((n, a) :: c))) else pure (.yield c)) :
    ∀ (names : List (Str × NameKind)) (acc : List (Str × Addr)), (∀ y ∈ names, y.2 = .free → ∃ c, env.cells.lookup y.1 = some c) → forIn names acc f = pure (cloFrom env.cells names acc)
  | [], acc, _ => by rw [List.forIn_nil]; rfl
  | (n, k) :: r, acc, h => by
    rw [List.forIn_cons, hf]
    have ih := fun acc => closure_loop env f hf r acc fun y hy => h y (List.mem_cons_of_mem _ hy)
    unfold cloFrom
    by_cases hk : (k == NameKind.free) = true
    · rw [if_pos hk, if_pos hk]
      obtain ⟨c, hc⟩ := h (n, k) List.mem_cons_self (by simpa using hk)
      have e : cellOf env n = pure c := by unfold cellOf; rw [hc]
      rw [e]
      have e2 : (env.cells.lookup n).getD 0 = c := by rw [hc]; rfl
      rw [e2]
      exact ih _
    · rw [if_neg hk, if_neg hk]
      exact ih _
theorem closure_ok {scope : Scope} {env : Env} (h : ∀ y ∈ scope.names, y.2 = .free → ∃ c, env.cells.lookup y.1 = some c) : closureFor scope env = pure (cloFrom env.cells scope.names []) := by
  simp only [closureFor]
  rw [closure_loop env _ (fun n k c => rfl) scope.names [] h]
  rfl
theorem mem_lookup {α : Type} : ∀ {l : List (Str × α)} {n : Str} {c : α}, (n, c) ∈ l → ∃ c', l.lookup n = some c'
  | (k, v) :: r, n, c, h => by
    rw [List.lookup_cons]
    cases hb : n == k with
    | true => exact ⟨_, rfl⟩
    | false =>
      rcases List.mem_cons.mp h with e | h
      · cases e; simp at hb
      · exact mem_lookup h
theorem cloFrom_mem {cells : List (Str × Addr)} : ∀ {names : List (Str × NameKind)} {acc : List (Str × Addr)} {n : Str} {c : Addr}, (n, c) ∈ cloFrom cells names acc → (n, c) ∈ acc ∨ ((n, .free) ∈ names ∧ c = (cells.lookup n).getD 0)
  | [], _, _, _, h => .inl h
  | (m, k) :: r, acc, n, c, h => by
    unfold cloFrom at h
    split at h
    · rename_i hk
      have hk : k = .free := by simpa using hk
      rcases cloFrom_mem h with h | ⟨h1, h2⟩
      · rcases List.mem_cons.mp h with e | h
        · cases e; exact .inr ⟨hk ▸ List.mem_cons_self, rfl⟩
        · exact .inl h
      · exact .inr ⟨List.mem_cons_of_mem _ h1, h2⟩
    · rcases cloFrom_mem h with h | ⟨h1, h2⟩
      · exact .inl h
      · exact .inr ⟨List.mem_cons_of_mem _ h1, h2⟩
theorem cloFrom_acc {cells : List (Str × Addr)} : ∀ {names : List (Str × NameKind)} {acc : List (Str × Addr)} {p : Str × Addr}, p ∈ acc → p ∈ cloFrom cells names acc
  | [], _, _, h => h
  | (m, k) :: r, acc, p, h => by
    unfold cloFrom
    split
    · exact cloFrom_acc (List.mem_cons_of_mem _ h)
    · exact cloFrom_acc h
theorem cloFrom_has {cells : List (Str × Addr)} : ∀ {names : List (Str × NameKind)} {acc : List (Str × Addr)} {n : Str}, (n, .free) ∈ names → (n, (cells.lookup n).getD 0) ∈ cloFrom cells names acc
  | (m, k) :: r, acc, n, h => by
    unfold cloFrom
    rcases List.mem_cons.mp h with e | h
    · cases e
      exact cloFrom_acc List.mem_cons_self
    · split
      · exact cloFrom_has h
      · exact cloFrom_has h
theorem cells_mem : ∀ {names : List (Str × NameKind)} {h : Heap} {acc : List (Str × Addr)} {x : Str} {c : Addr}, (x, c) ∈ cellsFrom h.objs.size names acc →
    (x, c) ∈ acc ∨ ((x, .cell) ∈ names ∧ h.objs.size ≤ c ∧ CellAt (pushCells h names) c none)
  | [], _, _, _, _, h => .inl h
  | (n, k) :: r, h, acc, x, c, hm => by
    unfold cellsFrom at hm
    unfold pushCells
    split at hm
    · rename_i hk
      rw [if_pos hk]
      have hk : k = .cell := by simpa using hk
      rw [← Heap.size_push h { cls := .type "cell", data := .cell none }] at hm
      rcases cells_mem hm with hm | ⟨h1, h2, h3⟩
      · rcases List.mem_cons.mp hm with e | hm
        · cases e
          exact .inr ⟨hk ▸ List.mem_cons_self, Nat.le_refl _, _, pushCells_keeps r _ _ _ (Heap.get?_push_size _ rfl), rfl⟩
        · exact .inl hm
      · rw [Heap.size_push] at h2
        exact .inr ⟨List.mem_cons_of_mem _ h1, Nat.le_of_succ_le h2, h3⟩
    · rename_i hk
      rw [if_neg hk]
      rcases cells_mem hm with hm | ⟨h1, h2, h3⟩
      · exact .inl hm
      · exact .inr ⟨List.mem_cons_of_mem _ h1, h2, h3⟩
theorem cells_acc : ∀ {names : List (Str × NameKind)} {n : Nat} {acc : List (Str × Addr)} {p : Str × Addr}, p ∈ acc → p ∈ cellsFrom n names acc
  | [], _, _, _, h => h
  | (m, k) :: r, n, acc, p, h => by
    unfold cellsFrom
    split
    · exact cells_acc (List.mem_cons_of_mem _ h)
    · exact cells_acc h
theorem cells_has : ∀ {names : List (Str × NameKind)} {n : Nat} {acc : List (Str × Addr)} {x : Str}, (x, .cell) ∈ names → ∃ c, (x, c) ∈ cellsFrom n names acc
  | (m, k) :: r, n, acc, x, h => by
    unfold cellsFrom
    rcases List.mem_cons.mp h with e | h
    · cases e
      exact ⟨n, cells_acc List.mem_cons_self⟩
    · split
      · exact cells_has h
      · exact cells_has h
theorem cells_inj : ∀ {names : List (Str × NameKind)} {h : Heap} {acc : List (Str × Addr)} {x y : Str} {c : Addr}, (∀ p ∈ acc, p.2 < h.objs.size) → (∀ x y c, (x, c) ∈ acc → (y, c) ∈ acc → x = y) →
    (x, c) ∈ cellsFrom h.objs.size names acc → (y, c) ∈ cellsFrom h.objs.size names acc → x = y
  | [], _, _, _, _, _, _, hi, h1, h2 => hi _ _ _ h1 h2
  | (n, k) :: r, h, acc, x, y, c, hl, hi, h1, h2 => by
    unfold cellsFrom at h1 h2
    split at h1
    · rename_i hk
      rw [if_pos hk] at h2
      rw [← Heap.size_push h { cls := .type "cell", data := .cell none }] at h1 h2
      refine cells_inj (h := h.push _) (fun p hp => ?_) (fun x y c a b => ?_) h1 h2
      · rw [Heap.size_push]
        rcases List.mem_cons.mp hp with rfl | hp
        · exact Nat.lt_succ_self _
        · exact Nat.lt_succ_of_lt (hl p hp)
      · rcases List.mem_cons.mp a with e | a <;> rcases List.mem_cons.mp b with e' | b
        · cases e; cases e'; rfl
        · cases e; exact absurd (hl _ b) (Nat.lt_irrefl _)
        · cases e'; exact absurd (hl _ a) (Nat.lt_irrefl _)
        · exact hi _ _ _ a b
    · rename_i hk
      rw [if_neg hk] at h2
      exact cells_inj hl hi h1 h2
theorem newEnv_comp {M : Model} {A : Around} {E : Value → Shared → Prop} {s : Shared} {scope : Scope} {globals : Addr} {closure : List (Str × Addr)} {qual : Str} {func : Option Addr} {code : Value} {around : Env} {builtins : Addr} {Q : Env → Shared → Prop}
    (h : Q (newEnv scope s.heap.objs.size globals (cellsFrom (s.heap.objs.size + 1) scope.names closure) qual func code (some around) builtins)
      { s with heap := pushCells (s.heap.push { cls := .type "dict", data := .dict #[] }) scope.names }) :
    wpAny M A (newFunctionEnv scope globals closure [] qual func code (some around) builtins) Q E s := by
  simp only [newFunctionEnv, Option.isSome_some, if_true]
  refine wpAny_bind (wpAny_alloc ?_)
  refine wpAny_bind (wpAny_layCells _ (fun n k c => rfl) scope.names closure _ _ ?_)
  rw [show ({ s with heap := s.heap.push { cls := .type "dict", data := .dict #[] } } : Shared).heap.objs.size = s.heap.objs.size + 1 from Heap.size_push ..]
  rw [List.forIn_nil]
  exact wpAny_bind (wpAny_pure (wpAny_pure h))
theorem lookup_relS {sc : Scope} : ∀ {names : List (Str × NameKind)} {x : Str} {k : NameKind},
    (names.map fun (n, k) => if (k == NameKind.free && sc.kind == .function && sc.names.lookup n == some .cell) then (n, NameKind.cell) else (n, k)).lookup x = some k →
    ∃ k', names.lookup x = some k' ∧ (k = k' ∨ (k' = .free ∧ k = .cell))
  | [], _, _, h => by simp at h
  | (n, k₀) :: r, x, k, h => by
    have ih := @lookup_relS sc r x k
    have h' : List.lookup x ((if (k₀ == NameKind.free && sc.kind == .function && sc.names.lookup n == some .cell) = true then (n, NameKind.cell) else (n, k₀)) :: (r.map _)) = some k := h
    cases hx : x == n with
    | true =>
      simp only [List.lookup_cons, hx]
      by_cases hc : (k₀ == NameKind.free && sc.kind == .function && sc.names.lookup n == some .cell) = true
      · rw [if_pos hc] at h'
        simp only [List.lookup_cons, hx] at h'
        cases h'
        simp only [Bool.and_eq_true, beq_iff_eq] at hc
        exact ⟨k₀, rfl, .inr ⟨hc.1.1, rfl⟩⟩
      · rw [if_neg hc] at h'
        simp only [List.lookup_cons, hx] at h'
        cases h'
        exact ⟨_, rfl, .inl rfl⟩
    | false =>
      simp only [List.lookup_cons, hx]
      by_cases hc : (k₀ == NameKind.free && sc.kind == .function && sc.names.lookup n == some .cell) = true
      · rw [if_pos hc] at h'
        simp only [List.lookup_cons, hx] at h'
        exact ih h'
      · rw [if_neg hc] at h'
        simp only [List.lookup_cons, hx] at h'
        exact ih h'
structure BlkOk (N : List Str) (sc scope : Scope) (own : List (Str × Nat)) : Prop where
  kind : scope.kind = .function
  uniq : ∀ y ∈ scope.names, scope.names.lookup y.1 = some y.2
  ix : ∀ p ∈ own, N[p.2]? = some p.1
  free : ∀ y ∈ scope.names, y.2 = .free → sc.names.lookup y.1 = some .cell ∨ sc.names.lookup y.1 = some .free
  own : ∀ y ∈ scope.names, y.2 = .local ∨ y.2 = .cell → y.1 ∈ own.map (·.1) ∨ y.1 ∉ N
def wipe (σ : St) : List Nat → St
  | [] => σ
  | v :: vs => (wipe σ vs).set v none
theorem wipe_length (σ : St) : ∀ vs : List Nat, (wipe σ vs).length = σ.length
  | [] => rfl
  | v :: vs => by unfold wipe; rw [List.length_set, wipe_length σ vs]
theorem wipe_some {σ : St} {i : Nat} {x : V} : ∀ {vs : List Nat}, (wipe σ vs)[i]? = some (some x) → σ[i]? = some (some x) ∧ i ∉ vs
  | [], h => ⟨h, by simp⟩
  | v :: vs, h => by
    unfold wipe at h
    by_cases hi : v = i
    · subst hi
      by_cases hv : v < (wipe σ vs).length
      · rw [List.getElem?_set_self hv] at h; cases h
      · rw [List.getElem?_eq_none (by simpa using hv)] at h; cases h
    · rw [List.getElem?_set_ne hi] at h
      obtain ⟨h1, h2⟩ := wipe_some h
      exact ⟨h1, by simp only [List.mem_cons, not_or]; exact ⟨fun e => hi e.symm, h2⟩⟩
abbrev Cx.blk (X : Cx) (s : Shared) (H : Hp) (scope : Scope) (cenv : Env) (fp : List Addr) : Cx := { X with s_0 := s, H_0 := H, env := cenv, outer := X.stack, ex := fp, fn := fun x => scope.names.lookup x == some .cell, pn := [], xe := fun _ _ => False }
section
variable {X : Cx} {pins : List (Addr × Obj)} {σ : St} {H : Hp} {s : Shared}
theorem block_start {scope : Scope} {own : List (Str × Nat)} {fp : List Addr} (I : Inv X pins σ H s) (ok : BlkOk X.N X.env.scope scope own) (hN : X.N.Nodup) (hfp : ∀ b ∈ fp, FpOk X pins H b ∧ b < s.heap.objs.size) :
    Inv (X.blk s H scope (compEnvC scope (cellsFrom (s.heap.objs.size + 1) scope.names (cloFrom X.env.cells scope.names [])) s.heap.objs.size X.env) fp) [] (wipe σ (own.map (·.2))) H { s with heap := pushCells (s.heap.push { cls := .type "dict", data := .dict #[] }) scope.names } := by
  have hfree : ∀ y ∈ scope.names, y.2 = .free → ∃ c, X.env.cells.lookup y.1 = some c := fun y hy e => by
    rcases ok.free y hy e with k | k
    · exact I.ok.has _ (.inl k)
    · exact I.ok.has _ (.inr k)
  generalize hcenv : compEnvC scope (cellsFrom (s.heap.objs.size + 1) scope.names (cloFrom X.env.cells scope.names [])) s.heap.objs.size X.env = cenv
  have kp : ∀ b o, s.heap.get? b = some o → (pushCells (s.heap.push { cls := .type "dict", data := .dict #[] }) scope.names).get? b = some o := fun b o e => pushCells_keeps _ _ _ _ (Heap.get?_push_of_some _ e)
  have hL : cenv.locals = s.heap.objs.size := by rw [← hcenv]; rfl
  have hcl : cenv.cells = cellsFrom (s.heap.objs.size + 1) scope.names (cloFrom X.env.cells scope.names []) := by rw [← hcenv]; rfl
  have hsc : cenv.scope = relS scope X.env.scope := by rw [← hcenv]; rfl
  rw [← Heap.size_push s.heap { cls := .type "dict", data := .dict #[] }] at hcl
  have cm : ∀ {y c}, (y, c) ∈ cloFrom X.env.cells scope.names [] → X.env.cells.lookup y = some c ∧ c < s.heap.objs.size := fun {y c} hm => by
    rcases cloFrom_mem hm with hm | ⟨h1, rfl⟩
    · cases hm
    · obtain ⟨c, hc⟩ := hfree _ h1 rfl
      rw [hc]
      obtain ⟨w, z⟩ := I.cell _ _ hc
      exact ⟨rfl, z.lt⟩
  have mem : ∀ {y c}, cenv.cells.lookup y = some c → (X.env.cells.lookup y = some c ∧ c < s.heap.objs.size) ∨ (s.heap.objs.size + 1 ≤ c ∧ CellAt (pushCells (s.heap.push { cls := .type "dict", data := .dict #[] }) scope.names) c none) := fun {y c} e => by
    rw [hcl] at e
    rcases cells_mem (PySem.mem_of_lookup e) with hm | ⟨_, h2, h3⟩
    · exact .inl (cm hm)
    · rw [Heap.size_push] at h2; exact .inr ⟨h2, h3⟩
  have look : ∀ {y}, scope.names.lookup y = some .free → ∃ c, cenv.cells.lookup y = some c ∧ X.env.cells.lookup y = some c := fun {y} hl => by
    have hy : (y, NameKind.free) ∈ scope.names := PySem.mem_of_lookup hl
    obtain ⟨c', e'⟩ := mem_lookup (cells_acc (names := scope.names) (n := (s.heap.push { cls := .type "dict", data := .dict #[] }).objs.size) (cloFrom_has (cells := X.env.cells) (acc := []) hy))
    rw [← hcl] at e'
    refine ⟨c', e', ?_⟩
    rw [hcl] at e'
    rcases cells_mem (PySem.mem_of_lookup e') with hm | ⟨h1, _, _⟩
    · exact (cm hm).1
    · have := ok.uniq _ h1
      rw [hl] at this; cases this
  have okB : (X.blk s H scope cenv fp).Ok := by
    refine ⟨I.ok.mod, by show cenv.scope.kind = _; rw [hsc]; exact ok.kind, by show cenv.globals = _; rw [← hcenv]; exact I.ok.glob, by show cenv.builtins = _; rw [← hcenv]; exact I.ok.blt, by show s.heap.objs.size ≤ cenv.locals; rw [hL]; exact Nat.le_refl _,
      fun y z c e1 e2 => ?_, fun y hy => ?_, fun y c z e => ?_, I.ok.hd, I.ok.frames, .inl rfl, fun b hb => ⟨?_, fun y c e z => ?_⟩, I.bs, Nat.le_trans I.ok.bsz I.sz, fun b o e hb => ?_, fun b hb z => ?_, I.stack, I.stkFree⟩
    · have e1 : cenv.cells.lookup y = some c := e1
      have e2 : cenv.cells.lookup z = some c := e2
      rw [hcl] at e1 e2
      refine cells_inj (fun p hp => ?_) (fun y z c a b => I.ok.inj y z c (cm a).1 (cm b).1) (PySem.mem_of_lookup e1) (PySem.mem_of_lookup e2)
      rw [Heap.size_push]
      exact Nat.lt_succ_of_lt (cm (y := p.1) (c := p.2) hp).2
    · show ∃ c, cenv.cells.lookup y = some c
      have key : ∀ k, cenv.kindOf y = some k → (k = .cell ∨ k = .free) → ∃ c, cenv.cells.lookup y = some c := fun k hk hk' => by
        unfold Env.kindOf at hk
        rw [hsc] at hk
        obtain ⟨k', e, r⟩ := lookup_relS hk
        have : k' = .cell ∨ k' = .free := by
          rcases r with rfl | ⟨rfl, _⟩
          · exact hk'
          · exact .inr rfl
        rcases this with rfl | rfl
        · obtain ⟨c, hm⟩ := cells_has (n := (s.heap.push { cls := .type "dict", data := .dict #[] }).objs.size) (acc := cloFrom X.env.cells scope.names []) (PySem.mem_of_lookup e)
          obtain ⟨c', e'⟩ := mem_lookup hm
          exact ⟨c', by rw [hcl]; exact e'⟩
        · obtain ⟨c, h1, _⟩ := look e
          exact ⟨c, h1⟩
      rcases hy with hy | hy
      · exact key _ hy (.inl rfl)
      · exact key _ hy (.inr rfl)
    · have z : (scope.names.lookup y == some NameKind.cell) = true := z
      have z : scope.names.lookup y = some .cell := by simpa using z
      have e : cenv.cells.lookup y = some c := e
      rw [hcl] at e
      rcases cells_mem (PySem.mem_of_lookup e) with hm | ⟨_, h2, _⟩
      · rcases cloFrom_mem hm with hm | ⟨h1, _⟩
        · cases hm
        · have q := ok.uniq _ h1
          rw [z] at q; cases q
      · rw [Heap.size_push] at h2
        exact Nat.le_of_succ_le h2
    · show b ≠ cenv.locals
      rw [hL]; exact Nat.ne_of_lt (hfp b hb).2
    · have e : cenv.cells.lookup y = some c := e
      rcases mem e with ⟨h1, _⟩ | ⟨h1, _⟩
      · exact (hfp b hb).1.2.2.2.2.1 y c h1 z
      · have h2 : s.heap.objs.size + 1 ≤ b := by rw [← z]; exact h1
        exact absurd (Nat.lt_of_lt_of_le (hfp b hb).2 (Nat.le_of_succ_le h2)) (Nat.lt_irrefl _)
    · rcases (hfp b hb).1.2.2.2.1 with z | z
      · exact I.ok.noex b o e z
      · exact absurd (Nat.lt_of_lt_of_le (Heap.lt_size e) (Nat.le_trans I.ok.bsz z)) (Nat.lt_irrefl _)
    · rcases List.mem_cons.mp (I.stkSub b z) with z | z
      · exact (hfp b hb).1.2.1 z
      · exact (hfp b hb).1.2.2.1 z
  refine ⟨okB, rfl, I.bare, Un.kept kp, ⟨fun _ => none, ?_, fun i y av e1 e2 e3 => ?_⟩, fun y c e => ?_, ?_, fun y c e => ?_, fun p hp => ?_, I.hok.kept kp, by rw [wipe_length]; exact I.len⟩
  · show Heap.Ns _ cenv.locals _
    rw [hL]
    exact Heap.Ns.keeps (Heap.Ns.new ..) fun b o e => pushCells_keeps _ _ _ _ e
  · obtain ⟨e2, hne⟩ := wipe_some e2
    have hfr : scope.names.lookup y = some .free ∧ (cenv.kindOf y = some .cell ∨ cenv.kindOf y = some .free) := by
      have key : ∀ k, cenv.scope.names.lookup y = some k → k = .local ∨ k = .cell ∨ k = .free → scope.names.lookup y = some .free ∧ (cenv.kindOf y = some .cell ∨ cenv.kindOf y = some .free) := fun k hk hk' => by
        have hk0 := hk
        rw [hsc] at hk
        obtain ⟨k', e, r⟩ := lookup_relS hk
        have no : ¬ (k' = .local ∨ k' = .cell) := fun hh => by
          rcases ok.own _ (PySem.mem_of_lookup e) hh with e' | e'
          · obtain ⟨p, hp, hpy⟩ := List.mem_map.mp e'
            have e3 := ok.ix p hp
            have : p.1 = y := hpy
            rw [this] at e3
            exact hne (List.mem_map.mpr ⟨p, hp, nodup_ix hN e3 e1⟩)
          · exact e' (List.mem_of_getElem? e1)
        rcases r with rfl | ⟨rfl, rfl⟩
        · rcases hk' with rfl | rfl | rfl
          · exact absurd (.inl rfl) no
          · exact absurd (.inr rfl) no
          · exact ⟨e, .inr hk0⟩
        · exact ⟨e, .inl hk0⟩
      have e3 : Vis cenv.scope y := e3
      rcases e3 with e3 | e3 | e3
      · exact key _ e3 (.inl rfl)
      · exact key _ e3 (.inr (.inl rfl))
      · exact key _ e3 (.inr (.inr rfl))
    obtain ⟨m, hn, hl⟩ := I.loc
    have hvis : Vis X.env.scope y := (ok.free _ (PySem.mem_of_lookup hfr.1) rfl).elim (fun k => .inr (.inl k)) (fun k => .inr (.inr k))
    obtain ⟨w, r, q⟩ := hl i y av e1 e2 hvis
    refine ⟨w, r, .inr ⟨hfr.2, ?_⟩⟩
    obtain ⟨c, h1, h2⟩ := look hfr.1
    rcases q with ⟨k, _⟩ | ⟨_, c', e', z⟩
    · have k : X.env.scope.names.lookup y = some .local := k
      rcases ok.free _ (PySem.mem_of_lookup hfr.1) rfl with k' | k' <;> rw [show X.env.scope.names.lookup y = _ from k'] at k <;> cases k
    · rw [h2] at e'; cases e'
      exact ⟨c, h1, z.keeps kp⟩
  · have e : cenv.cells.lookup y = some c := e
    rcases mem e with ⟨h1, _⟩ | ⟨_, z⟩
    · obtain ⟨w, z⟩ := I.cell y c h1
      exact ⟨w, z.keeps kp⟩
    · exact ⟨_, z⟩
  · show H cenv.locals = none
    rw [hL]; exact I.hok.fresh (Nat.le_refl _)
  · have e : cenv.cells.lookup y = some c := e
    rcases mem e with ⟨h1, _⟩ | ⟨h1, _⟩
    · exact I.freeC y c h1
    · exact I.hok.fresh (Nat.le_of_succ_le h1)
  · exact absurd (show p ∈ ([] : List (Addr × Obj)) ++ [] from hp) (by simp)
theorem app_ok {E : Value → Shared → Prop} {D : Addr} {xs : List V} {y : V} {v : Value} {Q : Value → Shared → Prop} (I : Inv X pins σ H s) (hD : H D = some (.lst xs)) (hz : xs.length < sizeLine) (r : RelV y v)
    (h : ∀ s', Inv X pins σ (upd H D (.lst (xs ++ [y]))) s' → Q .none s') : wpAny (model X.prog X.w) X.A (call (.builtin "list.append") [.ref D, v]) Q E s := by
  obtain ⟨hz', its, n, ri, e⟩ := I.hok D _ hD
  have hl := ri.length
  refine append_at (hsz := by rw [List.size_toArray]; omega) e fun h' sb ho' => ?_
  refine h { s with heap := h' } (I.write (t' := s.toks) (by rw [hD]; trivial) (.inl rfl) (fun b u hb q => (sb.2 b hb).trans q) ⟨_, ho'⟩ ⟨by rw [List.length_append]; exact hz, its ++ [v], n + 1, ri.append (.cons r .nil), ?_⟩)
  rw [ho']
  simp
def PTs (X : Cx) (ifs : List Expr) (t : TT) : Prop :=
  ∀ (pins : List (Addr × Obj)) (s : Shared) (σ : St) (H : Hp) (Q : Bool → Hp → Prop), Inv X pins σ H s → t σ H Q →
    wpAny (model X.prog X.w) X.A (forIn ifs true fun c r => if r = true then do let ok ← isTrue c X.env (eval c X.env); pure (ForInStep.yield ok) else pure (ForInStep.yield r)) (TP X pins σ Q) X.xe s
def tYes : TT := fun _ H Q => Q true H
theorem pts_nil : PTs X [] tYes := fun _ _ _ H _ I h => wpAny_tests_nil ⟨H, I, h⟩
theorem pts_one {c : Expr} {t : TT} (h : PT X c t) : PTs X [c] t := fun pins s σ H Q I hw => wpAny_tests_one (h pins s σ H Q I hw)
end
theorem thnF {α : Type} {t : Sem α} {Q Q' : α → Shared → Prop} {M : Model} {A : Around} {E : Value → Shared → Prop} {s : Shared} (h : wpAny M A t Q (fun _ _ => False) s) (hQ : ∀ a s, Q a s → Q' a s) : wpAny M A t Q' E s := wpAny_mono h hQ fun _ _ z => False.elim z
theorem compLoop_any {prog : Program} {w : World} {A : Around} {R : Result → Shared → Prop} {s : Shared} {elt target iter : Expr} {ifs : List Expr} {scope : Scope} {pos : Pos} {it acc : Value} {env : Env} (I : Nat → Shared → Prop)
    (turn : ∀ n s, I n s → wpAny (model prog w) A (pyNext it) (fun r s₁ => match r with
      | none => R (.ok .next) s₁
      | some v => wpAny (model prog w) A (letOwnedTupleGo target it v) (fun _ s₁' => wpAny (model prog w) A (assign target env v) (fun _ s₂ =>
          wpAny (model prog w) A (forIn ifs true fun c r => if r = true then do let ok ← isTrue c env (eval c env); pure (ForInStep.yield ok) else pure (ForInStep.yield r)) (fun ok s₃ =>
            if ok = true then wpAny (model prog w) A (eval elt env) (fun x s₄ =>
              wpAny (model prog w) A (call (.builtin "list.append") [acc, x]) (fun _ s₅ => ∃ m, m < n ∧ I m s₅) (notedBy (model prog w) A env fun e s' => R (.error e) s') s₄) (notedBy (model prog w) A env fun e s' => R (.error e) s') s₃
            else ∃ m, m < n ∧ I m s₃) (notedBy (model prog w) A env fun e s' => R (.error e) s') s₂) (notedBy (model prog w) A env fun e s' => R (.error e) s') s₁') (notedBy (model prog w) A env fun e s' => R (.error e) s') s₁) (notedBy (model prog w) A env fun e s' => R (.error e) s') s)
    (n : Nat) (h : I n s) :
    codeAny (model prog w) A (.compLoop (.ListComp elt [⟨target, iter, ifs, 0⟩] scope pos) 0 it acc env) R s := by
  refine codeAny_loop rfl I (fun n s hI => ?_) n h
  show wpAny _ A ((compTurn (.ListComp elt [⟨target, iter, ifs, 0⟩] scope pos) 0 it acc env).onRaise (fun x => do noteFrame x env; theTreesLotGoes x)) _ _ s
  refine wpAny_noted ?_
  rw [compTurn_list]
  refine wpAny_bind (wpAny_standAt (wpAny_bind (wpAny_mono (turn n s hI) (fun r s₁ h₁ => ?_) fun _ _ h' => h')))
  cases r with
  | none => exact wpAny_pure h₁
  | some v =>
    refine wpAny_bind (wpAny_mono h₁ (fun _ s₁' h₁' => ?_) fun _ _ h' => h')
    refine wpAny_bind (wpAny_mono h₁' (fun _ s₂ h₂ => wpAny_bind (wpAny_mono h₂ (fun ok s₃ h₃ => ?_) fun _ _ h' => h')) fun _ _ h' => h')
    cases ok with
    | false => exact wpAny_pure ⟨rfl, h₃⟩
    | true =>
      exact wpAny_bind (wpAny_bind (wpAny_mono h₃ (fun x s₄ h₄ => wpAny_bind (wpAny_mono h₄ (fun _ s₅ h₅ => wpAny_pure (wpAny_pure ⟨rfl, h₅⟩)) fun _ _ h' => h')) fun _ _ h' => h'))
section
variable {X : Cx}
def tLc (wi : TI) (g : TG) (tt : TT) (te : TE) (vs : List Nat) : TE := fun σ H Q => wi σ H fun J H1 => ∀ D, H1 D = none → ∃ W : Nat → Nat → Hp → Prop, (∃ m, W 0 m (upd H1 D (.lst []))) ∧ ∀ i m H, W i m H →
  (J.stop i H ∧ Q (.ref D) H) ∨ (J.go i H ∧ ∃ Nx : Hp → Prop, (∀ H', Nx H' → ∃ m', m' < m ∧ W (i + 1) m' H') ∧ ∀ x H', J.yld i H x H' → g x (wipe σ vs) H' fun σ2 H2 => wipe σ2 vs = wipe σ vs ∧ tt σ2 H2 fun b H3 =>
    if b = true then te σ2 H3 fun y H4 => ∃ acc, H4 D = some (.lst acc) ∧ acc.length < sizeLine ∧ Nx (upd H4 D (.lst (acc ++ [y]))) else Nx H3)
theorem lc_core {pins : List (Addr × Obj)} {s : Shared} {σ : St} {H : Hp} {Q : VK} {elt tg iter : Expr} {ifs : List Expr} {scope : Scope} {own : List (Str × Nat)} {pos pos' : Pos} {wi : TI} {g : TG} {tt : TT} {te : TE} {use : Option (Value → Sem Unit)} {Qf : Value → Shared → Prop}
    (hc : X.calm = true) (hN : X.N.Nodup) (I : Inv X pins σ H s) (hi : PI X tg iter wi) (ok : BlkOk X.N X.env.scope scope own)
    (hg : ∀ (s : Shared) (H : Hp) (C : Addr) (cl : List (Str × Addr)) (fp : List Addr), PG (X.blk s H scope (compEnvC scope cl C X.env) fp) tg g) (ht : ∀ (s : Shared) (H : Hp) (C : Addr) (cl : List (Str × Addr)) (fp : List Addr), PTs (X.blk s H scope (compEnvC scope cl C X.env) fp) ifs tt)
    (he : ∀ (s : Shared) (H : Hp) (C : Addr) (cl : List (Str × Addr)) (fp : List Addr), PE (X.blk s H scope (compEnvC scope cl C X.env) fp) elt te) (hs : ∀ x, foldedSetIterable iter X.env x = pure x)
    (h : tLc wi g tt te (own.map (·.2)) σ H Q)
    (hRR : ∀ D C s' m H', Inv X pins σ H' s' → Q (.ref D) H' → s'.heap.Ns C m → FpOk X pins H' C → compPost (model X.prog X.w) X.A X.xe use Qf (.ref D) C (.ok .next) s') :
    wpAny (model X.prog X.w) X.A (comprehension (.ListComp elt [⟨tg, iter, ifs, 0⟩] scope pos) scope X.env pos' (newList []) false (eval iter X.env) use) Qf X.xe s := by
  have hfree : ∀ y ∈ scope.names, y.2 = .free → ∃ c, X.env.cells.lookup y.1 = some c := fun y hy e => by
    rcases ok.free y hy e with k | k
    · exact I.ok.has _ (.inl k)
    · exact I.ok.has _ (.inr k)
  refine wpAny_comprehension_free (use := use) rfl hs (closure_ok hfree) ok.kind (fun y hy e => by rw [ok.uniq y hy, e])
    (thn (hi pins s σ H _ I h) fun xv s1 hx => thn hx fun itv s2 h2 => ?_)
  obtain ⟨it, fp, tn, J, H2, e, I2, T, st2, f2, q⟩ := h2
  subst e
  refine wpAny_newObj_type (newEnv_comp ?_) (by show 0 ≤ sizeLine; decide)
  generalize hD : s2.heap.objs.size = D
  have hDn : H2 D = none := I2.hok.fresh (Nat.le_of_eq hD)
  obtain ⟨W, ⟨m0, w0⟩, turn⟩ := q D hDn
  -- the new list
  generalize hs3 : ({ s2 with heap := s2.heap.push { cls := .type "list", data := .seq ([] : List Value).toArray } } : Shared) = s3
  have I3 : Inv X pins σ (upd H2 D (.lst [])) s3 := by
    rw [← hs3]
    refine I2.laid (t' := s2.toks) (fun b o e => Heap.get?_push_of_some _ e) (Nat.le_of_eq hD) ⟨Nat.zero_le _, [], 0, .nil, ?_⟩
    rw [← hD]
    exact Heap.get?_push_size _ rfl
  have h3 : s3.heap = s2.heap.push { cls := .type "list", data := .seq ([] : List Value).toArray } := by rw [← hs3]
  have sz : ∀ b ∈ fp, b < s2.heap.objs.size := fun b hb => by
    obtain ⟨o, e, _⟩ := T.obj _ _ st2 b hb
    exact Heap.lt_size e
  have f3 : ∀ b ∈ fp, FpOk X pins (upd H2 D (.lst [])) b ∧ b < s3.heap.objs.size := fun b hb => by
    have hlt := sz b hb
    refine ⟨⟨?_, (f2 b hb).2⟩, by rw [h3, Heap.size_push]; exact Nat.lt_succ_of_lt hlt⟩
    rw [upd_ne (by rw [← hD]; exact Nat.ne_of_lt hlt)]
    exact (f2 b hb).1
  have st3 : tn 0 s3.heap := T.keep _ _ _ st2 fun b _ o e => by rw [h3]; exact Heap.get?_push_of_some _ e
  have I4 := block_start I3 ok hN f3
  have pg := hg s3 (upd H2 D (.lst [])) s3.heap.objs.size (cellsFrom (s3.heap.objs.size + 1) scope.names (cloFrom X.env.cells scope.names [])) fp
  have pt := ht s3 (upd H2 D (.lst [])) s3.heap.objs.size (cellsFrom (s3.heap.objs.size + 1) scope.names (cloFrom X.env.cells scope.names [])) fp
  have pe := he s3 (upd H2 D (.lst [])) s3.heap.objs.size (cellsFrom (s3.heap.objs.size + 1) scope.names (cloFrom X.env.cells scope.names [])) fp
  show codeAny _ _ (.compStart (.ListComp elt [⟨tg, iter, ifs, 0⟩] scope pos) 0 (.ref it) (.ref D) (compEnvC scope (cellsFrom (s3.heap.objs.size + 1) scope.names (cloFrom X.env.cells scope.names [])) s3.heap.objs.size X.env)) (compPost (model X.prog X.w) X.A X.xe use Qf (.ref D) s3.heap.objs.size) { s3 with heap := pushCells (s3.heap.push { cls := .type "dict", data := .dict #[] }) scope.names }
  have nfp : ∀ b ∈ fp, (upd H2 D (.lst [])) b = none := fun b hb => (f3 b hb).1.1
  generalize hce : compEnvC scope (cellsFrom (s3.heap.objs.size + 1) scope.names (cloFrom X.env.cells scope.names [])) s3.heap.objs.size X.env = ce at I4 pg pt pe ⊢
  have cL : ce.locals = s3.heap.objs.size := by subst hce; rfl
  generalize hH3 : upd H2 D (.lst []) = H3 at I3 I4 pg pt pe w0 nfp f3
  generalize hs4 : ({ s3 with heap := pushCells (s3.heap.push { cls := .type "dict", data := .dict #[] }) scope.names } : Shared) = s4 at I4 ⊢
  have st4 : tn 0 s4.heap := T.keep _ _ _ st3 fun b _ o e => by rw [← hs4]; exact pushCells_keeps _ _ _ _ (Heap.get?_push_of_some _ e)
  have stat : ∀ {σ' : St} {H' : Hp} {s' : Shared}, Inv (X.blk s3 H3 scope ce fp) [] σ' H' s' → (∀ b ∈ fp, H' b = none) → ∀ b ∈ fp, FpOk (X.blk s3 H3 scope ce fp) [] H' b := fun {σ' H' s'} I' hn b hb =>
    ⟨hn b hb, (I'.ok.exf b hb).1, I'.ok.exfs b hb, .inl hb, fun x c e => (I'.ok.exf b hb).2 x c e, fun p hp => absurd (show p ∈ ([] : List (Addr × Obj)) ++ [] from hp) (by simp)⟩
  have loop : codeAny (model X.prog X.w) X.A (.compLoop (.ListComp elt [⟨tg, iter, ifs, 0⟩] scope pos) 0 (.ref it) (.ref D) ce) (compPost (model X.prog X.w) X.A X.xe use Qf (.ref D) s3.heap.objs.size) s4 := by
    refine compLoop_any (fun n s' => ∃ i H', Inv (X.blk s3 H3 scope ce fp) [] (wipe σ (own.map (·.2))) H' s' ∧ tn i s'.heap ∧ (∀ b ∈ fp, H' b = none) ∧ W i n H') ?_ m0 ⟨0, H3, I4, st4, nfp, w0⟩
    rintro n s5 ⟨i, H5, I5, st5, n5, w5⟩
    rcases turn i n H5 w5 with ⟨stop, qq⟩ | ⟨go, Nx, hNx, step⟩
    · have td := T.done (X.blk s3 H3 scope ce fp) rfl rfl rfl hc i [] s5 _ H5 (fun _ _ => False) I5 (stat I5 n5) st5 stop
      refine thnF td fun r s6 ⟨hr, I6⟩ => ?_
      subst hr
      -- back in the def's context
      have I7 : Inv X pins σ H5 s6 := I3.call' (ch := fp) I6.os I6.base I6.hok I6.bare fun b hb => ⟨(f3 b hb).1.2.2.2.1, (f3 b hb).1.2.1, (f3 b hb).1.2.2.2.2.1, (f3 b hb).1.2.2.2.2.2⟩
      have nC : H5 s3.heap.objs.size = none := by
        have z : H5 ce.locals = none := I6.free
        rw [cL] at z
        exact z
      obtain ⟨m, hn, _⟩ := I6.loc
      have hn : s6.heap.Ns ce.locals m := hn
      rw [cL] at hn
      exact hRR D s3.heap.objs.size s6 m H5 I7 qq hn (I3.fpOk (Nat.le_refl _) nC)
    · have ti := T.item (X.blk s3 H3 scope ce fp) rfl rfl rfl hc i [] s5 _ H5 (fun _ _ => False) I5 (stat I5 n5) st5 go
      refine thnF ti fun r s6 ⟨u, hr, h6⟩ => ?_
      subst hr
      refine thnF h6 fun _ s7 ⟨x, H7, I7, r7, y7, st7, n7⟩ => ?_
      have I7' := I7.pinned (stat I7 n7) (T.obj _ _ st7)
      refine thnF (pg _ s7 _ H7 x u _ I7' r7 (step x H7 y7)) fun _ s8 ⟨σ8, H8, I8, hw8, q8⟩ => ?_
      refine thnF (pt _ s8 σ8 H8 _ I8 q8) fun b s9 ⟨H9, I9, q9⟩ => ?_
      -- the turn's end
      have fin : ∀ {s' : Shared} {H' : Hp}, Inv (X.blk s3 H3 scope ce fp) ([] ++ pinsAt fp s7.heap) σ8 H' s' → Nx H' → ∃ m, m < n ∧ ∃ i H', Inv (X.blk s3 H3 scope ce fp) [] (wipe σ (own.map (·.2))) H' s' ∧ tn i s'.heap ∧ (∀ b ∈ fp, H' b = none) ∧ W i m H' := fun {s' H'} I' nx => by
        obtain ⟨m', hm, w'⟩ := hNx H' nx
        have pin' : ∀ b ∈ fp, ∀ o, s7.heap.get? b = some o → s'.heap.get? b = some o ∧ H' b = none := fun b hb o e =>
          let z := I'.pin (b, o) (List.mem_append_right _ (List.mem_append_right _ (mem_pinsAt hb e)))
          ⟨z.1, z.2.1⟩
        have hl : (wipe σ (own.map (·.2))).length = σ8.length := by rw [← hw8, wipe_length]
        refine ⟨m', hm, i + 1, H', (I'.unpinned (pins := [])).weak hl (fun j v e => ?_), T.keep _ _ _ st7 fun b hb o e => (pin' b hb o e).1, fun b hb => ?_, w'⟩
        · rw [← hw8] at e
          exact (wipe_some e).1
        · obtain ⟨o, e, _⟩ := T.obj _ _ st7 b hb
          exact (pin' b hb o e).2
      cases b with
      | false =>
        simp only [Bool.false_eq_true, if_false] at q9 ⊢
        exact fin I9 q9
      | true =>
        simp only [if_true] at q9 ⊢
        refine thnF (pe _ s9 σ8 H9 _ I9 q9) fun z s10 ⟨yv, H10, I10, r10, acc, hD10, hz10, nx⟩ => ?_
        exact app_ok (X := X.blk s3 H3 scope ce fp) I10 hD10 hz10 r10 fun s11 I11 => fin I11 nx
  exact codeAny_compStart_list loop (T.self X.A 0 _ _ _ st4 loop)
theorem pe_lc {elt tg iter : Expr} {ifs : List Expr} {scope : Scope} {own : List (Str × Nat)} {pos : Pos} {wi : TI} {g : TG} {tt : TT} {te : TE} (hc : X.calm = true) (hN : X.N.Nodup) (hi : PI X tg iter wi) (ok : BlkOk X.N X.env.scope scope own)
    (hg : ∀ (s : Shared) (H : Hp) (C : Addr) (cl : List (Str × Addr)) (fp : List Addr), PG (X.blk s H scope (compEnvC scope cl C X.env) fp) tg g) (ht : ∀ (s : Shared) (H : Hp) (C : Addr) (cl : List (Str × Addr)) (fp : List Addr), PTs (X.blk s H scope (compEnvC scope cl C X.env) fp) ifs tt)
    (he : ∀ (s : Shared) (H : Hp) (C : Addr) (cl : List (Str × Addr)) (fp : List Addr), PE (X.blk s H scope (compEnvC scope cl C X.env) fp) elt te) (hs : ∀ x, foldedSetIterable iter X.env x = pure x := by intro _; rfl) :
    PE X (.ListComp elt [⟨tg, iter, ifs, 0⟩] scope pos) (tLc wi g tt te (own.map (·.2))) := by
  intro pins s σ H Q I h
  rw [eval_ListComp]
  refine lc_core hc hN I hi ok hg ht he hs h fun D C s' m H' I' q hn f => ⟨m, hn, fun h'' sb => ?_⟩
  obtain ⟨f0, f1, f2, f3, f4, f5⟩ := f
  exact ⟨.ref D, H', I'.turned (t' := s'.toks) (fun b o hb e => (sb.2 b hb).trans e) f0 f1 f3 f4 f5, rfl, q⟩
theorem ps_setLc {i : Nat} {y : Str} {py : Pos} {elt tg iter : Expr} {ifs : List Expr} {scope : Scope} {own : List (Str × Nat)} {pos spos : Pos} {wi : TI} {g : TG} {tt : TT} {te : TE} (hc : X.calm = true) (hN : X.N.Nodup) (hy : X.N[i]? = some y) (hyl : X.env.scope.names.lookup y = some .local)
    (hsw : swapsWith (.ListComp elt [⟨tg, iter, ifs, 0⟩] scope pos) (some (.Name y py)) spos.line X.env = pure true) (hi : PI X tg iter wi) (ok : BlkOk X.N X.env.scope scope own)
    (hg : ∀ (s : Shared) (H : Hp) (C : Addr) (cl : List (Str × Addr)) (fp : List Addr), PG (X.blk s H scope (compEnvC scope cl C X.env) fp) tg g) (ht : ∀ (s : Shared) (H : Hp) (C : Addr) (cl : List (Str × Addr)) (fp : List Addr), PTs (X.blk s H scope (compEnvC scope cl C X.env) fp) ifs tt)
    (he : ∀ (s : Shared) (H : Hp) (C : Addr) (cl : List (Str × Addr)) (fp : List Addr), PE (X.blk s H scope (compEnvC scope cl C X.env) fp) elt te) (hs : ∀ x, foldedSetIterable iter X.env x = pure x := by intro _; rfl) :
    PS X (.Assign [.Name y py] (.ListComp elt [⟨tg, iter, ifs, 0⟩] scope pos) spos) (tAsg (tLc wi g tt te (own.map (·.2))) (gName i)) := by
  intro pins s σ H D I h
  rw [exec_Assign_Name_used _ _ _ _ hsw]
  refine wpAny_bind (wpAny_standAt (wpAny_bind ?_))
  show wpAny _ X.A (do let _ ← comprehension (.ListComp elt [⟨tg, iter, ifs, 0⟩] scope pos) scope X.env (firstIterPos [⟨tg, iter, ifs, 0⟩] pos) (newList []) false (eval iter X.env) (some (assign (.Name y py) X.env))) _ _ s
  have h : tLc wi g tt te (own.map (·.2)) σ H (fun x H1 => gName i x σ H1 D.nx) := h
  refine wpAny_bind (thn (lc_core (Qf := fun _ s' => SP X pins D .next s') hc hN I hi ok hg ht he hs h fun L C s' m H' I' q hn f => ?_) fun _ s' hq => wpAny_pure (wpAny_pure hq))
  show wpAny _ _ (assign (.Name y py) X.env (.ref L)) _ _ _
  refine wpAny_assign_Name (store_ok2 (v := V.ref L) I' hN hy (.inl hyl) rfl (fun s2 I2 ⟨a, sb, ha⟩ => ?_) (.inr hyl))
  obtain ⟨f0, f1, f2, f3, f4, f5⟩ := f
  have haC : C ≠ a := by
    rcases ha with z | z
    · rw [z]; exact f1
    · exact fun e => f4 y a z e.symm
  refine ⟨m, hn.sameBut sb haC, fun h3 sb3 => ?_⟩
  exact ⟨_, H', I2.turned (t' := s2.toks) (fun b o hb e => (sb3.2 b hb).trans e) f0 f1 f3 f4 f5, q⟩
theorem sw_true {elt : Expr} {gs : List Comprehension} {scope : Scope} {pos py : Pos} {y : Str} {l : Nat} {env : Env} (hk : env.scope.kind = .function) (hy : env.scope.names.lookup y = some .local) (hl : (py.line == pos.line) = true)
    (ha : (scope.names.any fun (n, k) => n == y && (k == .local || k == .cell)) = false) : swapsWith (.ListComp elt gs scope pos) (some (.Name y py)) l env = pure true := by
  have ky : env.kindOf y = some .local := hy
  have hb : env.blockKind = .function := by unfold Env.blockKind; rw [hk]; rfl
  unfold swapsWith
  simp only [hb, ky, ha, Expr.pos, hl]
  rfl
end
def blkC (N : List Str) (sc scope : Scope) (own : List (Str × Nat)) : Bool :=
  (match scope.kind with | .function => true | _ => false) && (scope.names.all fun y => decide (scope.names.lookup y.1 = some y.2)) && (own.all fun p => decide (N[p.2]? = some p.1)) &&
    (scope.names.all fun y => match y.2 with
      | .free => (match sc.names.lookup y.1 with | some .cell => true | some .free => true | _ => false)
      | .local => decide (y.1 ∈ own.map (·.1)) || decide (y.1 ∉ N)
      | .cell => decide (y.1 ∈ own.map (·.1)) || decide (y.1 ∉ N)
      | _ => true)
theorem blkOk_by {N : List Str} {sc scope : Scope} {own : List (Str × Nat)} (h : blkC N sc scope own = true) : BlkOk N sc scope own := by
  unfold blkC at h
  simp only [Bool.and_eq_true, List.all_eq_true, decide_eq_true_eq] at h
  obtain ⟨⟨⟨h1, h2⟩, h3⟩, h4⟩ := h
  refine ⟨?_, h2, h3, fun y hy e => ?_, fun y hy e => ?_⟩
  · split at h1
    · assumption
    · cases h1
  · have q := h4 y hy
    simp only [e] at q
    split at q <;> first | exact .inl (by assumption) | exact .inr (by assumption) | cases q
  · have q := h4 y hy
    rcases e with e | e <;> (simp only [e, Bool.or_eq_true, decide_eq_true_eq] at q; exact q)
end L2
namespace L2
open PySem PySem.Spec PyProof.Rows
section
variable {prog : Program} {w : World} {A : Around} {R : Result → Shared → Prop} {s : Shared} {elt t0 i0 t1 i1 : Expr} {ifs0 ifs1 : List Expr} {scope : Scope} {pos : Pos} {it acc : Value} {env : Env}
end
section
variable {X : Cx}
end
end L2
namespace L2
open PySem PySem.Spec PyProof.Rows
section
variable {κ : Type} [DecidableEq κ]
def valV (kvs : List (κ × V)) (k : κ) : Option V := (kvs.find? fun kv => decide (kv.1 = k)).map (·.2)
def putK (kvs : List (κ × V)) (k : κ) (v : V) : List (κ × V) :=
  if (kvs.any fun kv => decide (kv.1 = k)) = true then kvs.map (fun kv => if kv.1 = k then (kv.1, v) else kv) else kvs ++ [(k, v)]
def dropK (kvs : List (κ × V)) (k : κ) : List (κ × V) := kvs.filter fun kv => decide (kv.1 ≠ k)
theorem valV_pos {p : κ × V} {r : List (κ × V)} {k : κ} (e : p.1 = k) : valV (p :: r) k = some p.2 := by simp [valV, List.find?_cons, e]
theorem valV_neg {p : κ × V} {r : List (κ × V)} {k : κ} (e : ¬ p.1 = k) : valV (p :: r) k = valV r k := by simp [valV, List.find?_cons, e]
theorem valV_any (k : κ) : ∀ kvs : List (κ × V), (kvs.any fun kv => decide (kv.1 = k)) = (valV kvs k).isSome
  | [] => rfl
  | p :: r => by
    rw [List.any_cons]
    by_cases e : p.1 = k
    · simp only [valV_pos e, decide_eq_true e, Bool.true_or, Option.isSome_some]
    · rw [valV_neg e, decide_eq_false e, Bool.false_or]; exact valV_any k r
theorem RelO.isSome_eq {o : Option V} {u : Option Value} (r : RelO o u) : o.isSome = u.isSome := by
  cases o with
  | none => cases u with
    | none => rfl
    | some _ => exact (show False from r).elim
  | some _ => cases u with
    | none => exact (show False from r).elim
    | some _ => rfl
theorem RelO.getD {o : Option V} {u : Option Value} {d : V} {d' : Value} (r : RelO o u) (rd : RelV d d') : RelV (o.getD d) (u.getD d') := by
  cases o with
  | none => cases u with
    | none => exact rd
    | some _ => exact (show False from r).elim
  | some _ => cases u with
    | none => exact (show False from r).elim
    | some _ => exact r
theorem KV.val {kvs : List (κ × V)} {vs : List (κ × Value)} (r : KV kvs vs) (k : κ) : RelO (valV kvs k) (valueAt vs k) := by
  unfold KV at r
  induction r with
  | nil => exact True.intro
  | @cons p q ps qs h t ih =>
    obtain ⟨h1, h2⟩ := h
    by_cases e : p.1 = k
    · have e' : q.1 = k := h1.symm.trans e
      have b : valueAt (q :: qs) k = some q.2 := by simp [valueAt, List.find?_cons, e']
      rw [valV_pos e, b]; exact h2
    · have e' : ¬ q.1 = k := fun z => e (h1.trans z)
      have b : valueAt (q :: qs) k = valueAt qs k := by simp [valueAt, List.find?_cons, e']
      rw [valV_neg e, b]; exact ih
theorem KV.any {kvs : List (κ × V)} {vs : List (κ × Value)} (r : KV kvs vs) (k : κ) : (kvs.any fun kv => decide (kv.1 = k)) = vs.any fun kv => decide (kv.1 = k) := by
  unfold KV at r
  induction r with
  | nil => rfl
  | cons h t ih => rw [List.any_cons, List.any_cons, ih, h.1]
theorem KV.repl {kvs : List (κ × V)} {vs : List (κ × Value)} (r : KV kvs vs) (k : κ) {y : V} {u : Value} (ry : RelV y u) :
    KV (kvs.map fun kv => if kv.1 = k then (kv.1, y) else kv) (vs.map fun kv => if kv.1 = k then (kv.1, u) else kv) := by
  unfold KV at r ⊢
  induction r with
  | nil => exact .nil
  | @cons p q ps qs h t ih =>
    rw [List.map_cons, List.map_cons]
    refine .cons ?_ ih
    obtain ⟨h1, h2⟩ := h
    by_cases e : p.1 = k
    · rw [if_pos e, if_pos (h1.symm.trans e)]; exact ⟨h1, ry⟩
    · rw [if_neg e, if_neg (fun z => e (h1.trans z))]; exact ⟨h1, h2⟩
theorem KV.put {kvs : List (κ × V)} {vs : List (κ × Value)} (r : KV kvs vs) (k : κ) {y : V} {u : Value} (ry : RelV y u) : KV (putK kvs k y) (stored vs k u) := by
  unfold putK stored
  rw [r.any k]
  by_cases e : (vs.any fun kv => decide (kv.1 = k)) = true
  · rw [if_pos e, if_pos e]; exact r.repl k ry
  · rw [if_neg e, if_neg e]; exact Paired.snoc r ⟨rfl, ry⟩
theorem KV.drop {kvs : List (κ × V)} {vs : List (κ × Value)} (r : KV kvs vs) (k : κ) : KV (dropK kvs k) (without vs k) := by
  unfold KV at r ⊢
  unfold dropK without
  induction r with
  | nil => exact .nil
  | @cons p q ps qs h t ih =>
    obtain ⟨h1, h2⟩ := h
    rw [List.filter_cons, List.filter_cons]
    by_cases e : p.1 = k
    · have a : ¬ decide (p.1 ≠ k) = true := by simp [e]
      have b : ¬ decide (q.1 ≠ k) = true := by simp [h1.symm.trans e]
      rw [if_neg a, if_neg b]; exact ih
    · have e' : ¬ q.1 = k := fun z => e (h1.trans z)
      have a : decide (p.1 ≠ k) = true := by simp [e]
      have b : decide (q.1 ≠ k) = true := by simp [e']
      rw [if_pos a, if_pos b]; exact .cons ⟨h1, h2⟩ ih
theorem KV.keys {kvs : List (κ × V)} {vs : List (κ × Value)} (r : KV kvs vs) : kvs.map (·.1) = vs.map (·.1) := by
  unfold KV at r
  induction r with
  | nil => rfl
  | cons h t ih => rw [List.map_cons, List.map_cons, ih, h.1]
theorem KV.length {kvs : List (κ × V)} {vs : List (κ × Value)} (r : KV kvs vs) : kvs.length = vs.length := Paired.length r
end
theorem kV_is {P : Program} {w : World} {k : Key} {u : Value} (r : RelV (kV k) u) : (mixKind P w).is k u = true := by
  cases k with
  | inl i => obtain ⟨t, e⟩ := (show ∃ t, u = Value.int i t from r); subst e; exact mixKind_int P w i t
  | inr x => obtain ⟨t, e⟩ := (show ∃ t, u = Value.str x t from r); subst e; exact mixKind_str P w x t
theorem items_are {P : Program} {w : World} : ∀ {ks : List Key} {us : List Value}, Vals (ks.map kV) us → ItemsAre (mixKind P w) ks us
  | [], _, r => by rw [List.map_nil] at r; cases r; exact .nil
  | k :: ks, _, r => by
    rw [List.map_cons] at r
    cases r with
    | cons h t => exact .cons (kV_is h) (items_are t)
abbrev KT (H : Hp) : List (List Key × V) → List (List Key × Addr × Value) → Prop := Paired fun p q => p.1 = q.1 ∧ H q.2.1 = some (.tup (p.1.map kV)) ∧ RelV p.2 q.2.2
theorem KT.val {H : Hp} {kvs : List (List Key × V)} {xs : List (List Key × Addr × Value)} (r : KT H kvs xs) (k : List Key) : RelO (valV kvs k) ((atKey xs k).map (·.2)) := by
  induction r with
  | nil => exact True.intro
  | @cons p q ps qs h t ih =>
    obtain ⟨h1, _, h2⟩ := h
    by_cases e : p.1 = k
    · have e' : q.1 = k := h1.symm.trans e
      have b : atKey (q :: qs) k = some q.2 := by simp [atKey, List.find?_cons, e']
      rw [valV_pos e, b]; exact h2
    · have e' : ¬ q.1 = k := fun z => e (h1.trans z)
      have b : atKey (q :: qs) k = atKey qs k := by simp [atKey, List.find?_cons, e']
      rw [valV_neg e, b]; exact ih
theorem KT.repl {H : Hp} {kvs : List (List Key × V)} {xs : List (List Key × Addr × Value)} (r : KT H kvs xs) (k : List Key) {y : V} {u : Value} (ry : RelV y u) :
    KT H (kvs.map fun kv => if kv.1 = k then (kv.1, y) else kv) (xs.map (putAt k u)) := by
  induction r with
  | nil => exact .nil
  | @cons p q ps qs h t ih =>
    rw [List.map_cons, List.map_cons]
    refine .cons ?_ ih
    obtain ⟨h1, h2, h3⟩ := h
    unfold putAt
    by_cases e : p.1 = k
    · rw [if_pos e, if_pos (h1.symm.trans e)]; exact ⟨h1, h2, ry⟩
    · rw [if_neg e, if_neg (fun z => e (h1.trans z))]; exact ⟨h1, h2, h3⟩
theorem KT.put {H : Hp} {kvs : List (List Key × V)} {xs : List (List Key × Addr × Value)} (r : KT H kvs xs) (k : List Key) {b : Addr} {y : V} {u : Value} (hb : H b = some (.tup (k.map kV))) (ry : RelV y u) :
    KT H (putK kvs k y) (storedH xs k b u) := by
  have e : (kvs.any fun kv => decide (kv.1 = k)) = (atKey xs k).isSome := by
    rw [valV_any, (r.val k).isSome_eq, Option.isSome_map]
  unfold putK storedH
  rw [e]
  by_cases q : (atKey xs k).isSome = true
  · rw [if_pos q, if_pos q]; exact r.repl k ry
  · rw [if_neg q, if_neg q]; exact Paired.snoc r ⟨rfl, hb, ry⟩
theorem KT.keeps {H H' : Hp} {kvs : List (List Key × V)} {xs : List (List Key × Addr × Value)} (r : KT H kvs xs) (ht : ∀ b ys, H b = some (.tup ys) → H' b = some (.tup ys)) : KT H' kvs xs :=
  Paired.mapP r fun _ _ z => ⟨z.1, ht _ _ z.2.1, z.2.2⟩
section
variable {P : Program} {w : World} {H : Hp} {h : Heap} {a : Addr}
theorem rd_of {u : HO} (ok : HOk P w H h) (e : Rd H a u) : ObjOk P w H h a u := e.ok ok
theorem key_of {ks : List Key} (ok : HOk P w H h) (e : H a = some (.tup (ks.map kV))) : (tupleKind (mixKind P w)).is h ks a := by
  obtain ⟨_, its, r, o, h1, h2, n, h3⟩ := (show ObjOk P w H h a (.tup (ks.map kV)) from ok a _ e)
  exact ⟨o, its.toArray, n, h1, h2, h3, by simpa using items_are r⟩
theorem dt_rd {kvs : List (List Key × V)} (ok : HOk P w H h) (e : Rd H a (.dT kvs)) : kvs.length ≤ sizeLine ∧ (a == sysModules) = false ∧
    ∃ xs, KT H kvs xs ∧ h.DictOfH (tupleKind (mixKind P w)) a xs := by
  obtain ⟨z, y, xs, r, o, es, ep, h1, h2, h3, h4, h5⟩ := (show ObjOk P w H h a (.dT kvs) from rd_of ok e)
  refine ⟨z, y, xs, r, o, es, ep, h1, h2, h3, h4, fun x hx => ?_, h5⟩
  have all : ∀ {l : List (List Key × V)} {m : List (List Key × Addr × Value)}, KT H l m → ∀ x ∈ m, (tupleKind (mixKind P w)).is h x.1 x.2.1 := by
    intro l m q
    induction q with
    | nil => intro x hx; exact nomatch hx
    | @cons p q ps qs hq t ih =>
      intro x hx
      rcases List.mem_cons.mp hx with e | hx
      · subst e
        exact key_of ok (by rw [← hq.1]; exact hq.2.1)
      · exact ih x hx
  exact all r x hx
theorem dt_of {kvs : List (List Key × V)} (ok : HOk P w H h) (e : H a = some (.dT kvs)) : kvs.length ≤ sizeLine ∧ (a == sysModules) = false ∧
    ∃ xs, KT H kvs xs ∧ h.DictOfH (tupleKind (mixKind P w)) a xs := dt_rd ok (.inl e)
end
def DGet (H : Hp) (a : Addr) (y : V) (r : Option V) : Prop :=
  (∃ kvs k, Rd H a (.dK kvs) ∧ y = kV k ∧ r = valV kvs k) ∨ ∃ kvs k b, Rd H a (.dT kvs) ∧ y = .ref b ∧ H b = some (.tup (k.map kV)) ∧ r = valV kvs k
def DPut (H : Hp) (a : Addr) (y v : V) (H' : Hp) : Prop :=
  (∃ kvs k, H a = some (.dK kvs) ∧ y = kV k ∧ kvs.length < sizeLine ∧ H' = upd H a (.dK (putK kvs k v))) ∨
  ∃ kvs k b, H a = some (.dT kvs) ∧ y = .ref b ∧ H b = some (.tup (k.map kV)) ∧ kvs.length < sizeLine ∧ H' = upd H a (.dT (putK kvs k v))
theorem DGet.k {H : Hp} {a : Addr} {kvs : List (Key × V)} {k : Key} (e : H a = some (.dK kvs)) : DGet H a (kV k) (valV kvs k) := .inl ⟨kvs, k, .inl e, rfl, rfl⟩
theorem DGet.t {H : Hp} {a b : Addr} {kvs : List (List Key × V)} {k : List Key} (e : H a = some (.dT kvs)) (eb : H b = some (.tup (k.map kV))) : DGet H a (.ref b) (valV kvs k) := .inr ⟨kvs, k, b, .inl e, rfl, eb, rfl⟩
theorem DPut.k {H : Hp} {a : Addr} {kvs : List (Key × V)} {k : Key} {v : V} (e : H a = some (.dK kvs)) (hl : kvs.length < sizeLine) : DPut H a (kV k) v (upd H a (.dK (putK kvs k v))) := .inl ⟨kvs, k, e, rfl, hl, rfl⟩
theorem DPut.t {H : Hp} {a b : Addr} {kvs : List (List Key × V)} {k : List Key} {v : V} (e : H a = some (.dT kvs)) (eb : H b = some (.tup (k.map kV))) (hl : kvs.length < sizeLine) :
    DPut H a (.ref b) v (upd H a (.dT (putK kvs k v))) := .inr ⟨kvs, k, b, e, rfl, eb, hl, rfl⟩
section
variable {X : Cx} {pins : List (Addr × Obj)} {σ : St} {H : Hp} {s : Shared} {a : Addr} {y v : V} {u r : Value} {o : Option V} {A : Around} {E : Value → Shared → Prop}
end
section
variable {X : Cx} {pins : List (Addr × Obj)} {σ : St} {H : Hp} {s : Shared} {a : Addr} {kvs : List (Key × V)} {k : Key} {u : Value} {A : Around} {E : Value → Shared → Prop}
end
section
variable {X : Cx} {o i e value : Expr} {pos pos' tpos : Pos} {td ty tv : TE}
end
section
variable {X : Cx} {pos : Pos}
end
def tPairs : List (TE × TE) → St → Hp → (List (V × V) → Hp → Prop) → Prop
  | [], _, H, Q => Q [] H
  | (tk, tv) :: r, σ, H, Q => tk σ H fun x H1 => tv σ H1 fun y H2 => tPairs r σ H2 fun ps H3 => Q ((x, y) :: ps) H3
abbrev VV : List (V × V) → List (Value × Value) → Prop := Paired fun p q => RelV p.1 q.1 ∧ RelV p.2 q.2
def PPs (X : Cx) (pos : Pos) (keys : List (Option Expr)) (values : List Expr) (trs : List (TE × TE)) : Prop :=
  ∀ (pins : List (Addr × Obj)) (s : Shared) (σ : St) (H : Hp) (Q : List (V × V) → Hp → Prop), Inv X pins σ H s → tPairs trs σ H Q →
    wpAny (model X.prog X.w) X.A (evalPairs (pairTrees keys values X.env pos)) (fun vs s' => ∃ ps H', Inv X pins σ H' s' ∧ VV ps vs ∧ Q ps H') X.xe s
structure M1 (X : Cx) (o : Expr) (m : Str) (apos : Pos) (e : Expr) (cpos : Pos) : Prop where
  base : attributeBase o m X.env (eval o X.env) = eval o X.env
  few : ((backTo cpos (starEach [e] X.env)).all (fun x => !x.1) && (backToKw cpos (keywordEach [] X.env)).all (fun x => x.1.isSome)
    && decide (([e] : List Expr).length + ([] : List Keyword).length + (if ([] : List Keyword).isEmpty then 0 else 1) < 30)) = true
  line : (apos.endLine == cpos.line) = true
  trees : backTo cpos (starEach [e] X.env) = [(false, eval e X.env)]
structure M2 (X : Cx) (o : Expr) (m : Str) (apos : Pos) (e f : Expr) (cpos : Pos) : Prop where
  base : attributeBase o m X.env (eval o X.env) = eval o X.env
  few : ((backTo cpos (starEach [e, f] X.env)).all (fun x => !x.1) && (backToKw cpos (keywordEach [] X.env)).all (fun x => x.1.isSome)
    && decide (([e, f] : List Expr).length + ([] : List Keyword).length + (if ([] : List Keyword).isEmpty then 0 else 1) < 30)) = true
  line : (apos.endLine == cpos.line) = true
  trees : backTo cpos (starEach [e, f] X.env) = [(false, eval e X.env), (false, eval f X.env)]
section
variable {X : Cx} {pins : List (Addr × Obj)} {σ : St} {H : Hp} {s : Shared} {a : Addr} {y d : V} {u r : Value} {o : Option V} {A : Around} {E : Value → Shared → Prop}
end
section
variable {X : Cx} {o e f : Expr} {apos cpos : Pos} {td ty tx : TE}
end
section
variable {X : Cx} {pins : List (Addr × Obj)} {σ : St} {H : Hp} {s : Shared} {a : Addr} {kvs : List (Key × V)} {A : Around} {E : Value → Shared → Prop}
end
section
variable {X : Cx} {pins : List (Addr × Obj)} {σ : St} {H : Hp} {s : Shared} {a : Addr} {y : V} {u : Value} {A : Around} {E : Value → Shared → Prop}
end
end L2
namespace L2
open PySem PySem.Spec PyProof.Rows
section
variable {prog : Program} {w : World} {A : Around} {E : Value → Shared → Prop}
end
section
variable {X : Cx}
end
end L2
namespace L2
open PySem PySem.Spec PyProof.Rows
section
variable {X : Cx} {pins : List (Addr × Obj)} {σ : St} {H : Hp} {s : Shared} {h' : Heap}
end
section
variable {X : Cx}
theorem pi_one {tg : Expr} {pins : List (Addr × Obj)} {σ : St} {H : Hp} {s : Shared} {R : It → Hp → Prop} {J : It} {tn : Nat → Heap → Prop} {tk : Nat} (I : Inv X pins σ H s) (o : Obj)
    (T : Turn X.prog X.w X.K tg J [s.heap.objs.size] s.heap.objs.size tn) (st : tn 0 (s.heap.push o)) (q : R J H) : PIE X pins σ tg R (.ref s.heap.objs.size) { s with heap := s.heap.push o, toks := tk } := by
  refine ⟨s.heap.objs.size, [s.heap.objs.size], tn, J, H, rfl, I.kept fun b ob e => Heap.get?_push_of_some _ e, T, st, fun b hb => ?_, q⟩
  have e : b = s.heap.objs.size := by simpa using hb
  subst e
  exact I.fpOk (Nat.le_refl _) (I.hok.fresh (Nat.le_refl _))
end
def RgC (i j c : Int) (n : Nat) : Prop := c ≠ 0 ∧ c.natAbs < 1073741824 ∧ Builtin.Range.small i j c = true ∧ Builtin.Range.rangeSize i j c = n
theorem RgC.neg {i j : Int} (ha : -(2 ^ 62) ≤ i) (ha' : i < 2 ^ 62) (hb : -(2 ^ 62) ≤ j) (hb' : j < 2 ^ 62) : RgC i j (-1) (i - j).toNat :=
  ⟨by decide, by decide, PySem.W.small_down ha ha' hb hb', PySem.W.rangeSize_downNat i j⟩
section
variable {X : Cx} {tg : Expr}
end
section
variable {X : Cx} {tg : Expr}
end
def Its (x : Str) : It := ⟨fun i _ => i < x.cps.size, fun i H v H' => H' = H ∧ ∃ c, x.cps[i]? = some c ∧ v = .str ⟨#[c]⟩, fun i _ => x.cps.size ≤ i⟩
theorem turn_str {P : Program} {w : World} {K : PySem.W.Frag} {tg : Expr} (it : Addr) (x : Str) (t : Tok) (ty : String) (hty : ty = "str_ascii_iterator" ∨ ty = "str_iterator") :
    Turn P w K tg (Its x) [it] it (fun i h => h.IsStrIter it ty x t i) where
  mem := by simp
  obj := fun i h st b hb => by
    have e : b = it := by simpa using hb
    subst e
    obtain ⟨o, e, c, d⟩ := st
    exact ⟨o, e, fun v z => by rw [d] at z; cases z⟩
  keep := fun i h h' st k => let ⟨o, ho, r⟩ := st; ⟨o, k it (by simp) o ho, r⟩
  item := by
    intro X hP hw hK hc i pins s σ H E I hf st hg
    subst hP hw hK
    obtain ⟨f0, f1, f2, f3, f4, f5⟩ := hf it (by simp)
    have W : Walks X.prog X.w X.A it [it] [it] x.cps.size (SignAt x) (fun i h => h.IsStrIter it ty x t i) := by
      rcases hty with e | e
      · rw [e]; exact Walks.strAscii (I.ok.hd hc) it x t
      · rw [e]; exact Walks.strWide (I.ok.hd hc) it x t
    have hno : ["enumerate", "zip", "dict_itemiterator", "dict_reverseitemiterator", "odict_iterator", "itertools.zip_longest", "itertools.pairwise"].contains ty = false := by
      rcases hty with e | e
      · rw [e]; decide
      · rw [e]; decide
    refine W.item i s _ _ hg st fun v h' tk hv st' kk => ?_
    obtain ⟨c, u, hcx, rfl⟩ := hv
    have I1 : Inv X pins σ H { s with heap := h', toks := tk } := I.turned (fun b o hb e => kk b o (by simpa using hb) e) f0 f1 f3 f4 f5
    obtain ⟨oi, e, cc, dd⟩ := id st'
    exact ⟨_, rfl, go_of (s := { s with heap := h', toks := tk }) e cc dd hno ⟨.str ⟨#[c]⟩, H, I1, ⟨u, rfl⟩, ⟨rfl, c, hcx, rfl⟩, st', fun b hb => (hf b hb).1⟩⟩
  done := by
    intro X hP hw hK hc i pins s σ H E I hf st hg
    subst hP hw hK
    obtain ⟨f0, f1, f2, f3, f4, f5⟩ := hf it (by simp)
    have hx : x.cps[i]? = none := Array.getElem?_eq_none hg
    rcases hty with e | e
    · rw [e] at st
      exact wpAny_pyNext_ascii_end (I.ok.hd hc) st hx fun h' eb => ⟨rfl, I.turned (t' := s.toks) (fun b o hb e => eb b o hb e) f0 f1 f3 f4 f5⟩
    · rw [e] at st
      exact wpAny_pyNext_wide_end (I.ok.hd hc) st hx fun h' eb => ⟨rfl, I.turned (t' := s.toks) (fun b o hb e => eb b o hb e) f0 f1 f3 f4 f5⟩
  self := fun A i s Q E st h => by
    rcases hty with e | e
    · rw [e] at st; exact wpAny_pyIter_striter_ascii st h
    · rw [e] at st; exact wpAny_pyIter_striter_wide st h
def iStr (te : TE) : TI := fun σ H R => te σ H fun v H1 => ∃ x, v = .str x ∧ R (Its x) H1
theorem pi_str {X : Cx} {tg e : Expr} {te : TE} (he : PE X e te) : PI X tg e (iStr te) := by
  intro pins s σ H R I h
  refine thn (he pins s σ H _ I h) fun v s1 ⟨y, H1, I1, r1, x, ex, q⟩ => ?_
  subst ex
  obtain ⟨t, rfl⟩ := r1
  cases ha : x.cps.all (· < 128)
  · exact wpAny_pyIter_wide ha (pi_one (tk := s1.toks) I1 _ (turn_str _ x t "str_iterator" (.inr rfl)) ⟨_, Heap.get?_push_size _ rfl, rfl, rfl⟩ q)
  · exact wpAny_pyIter_ascii ha (pi_one (tk := s1.toks) I1 _ (turn_str _ x t "str_ascii_iterator" (.inl rfl)) ⟨_, Heap.get?_push_size _ rfl, rfl, rfl⟩ q)
section
variable {prog : Program} {w : World} {A : Around} {E : Value → Shared → Prop} {s : Shared}
end
theorem paired_get {α β : Type} {G : α → β → Prop} {l₁ : List α} {l₂ : List β} (h : Paired G l₁ l₂) : ∀ {i : Nat} {a : α}, l₁[i]? = some a → ∃ b, l₂[i]? = some b ∧ G a b := by
  induction h with
  | nil => intro i a e; simp at e
  | @cons a b l₁ l₂ r t ih =>
    intro i a' e
    cases i with
    | zero =>
      simp only [List.getElem?_cons_zero, Option.some.injEq] at e
      subst e
      exact ⟨b, rfl, r⟩
    | succ j =>
      simp only [List.getElem?_cons_succ] at e ⊢
      exact ih e
section
variable {X : Cx} {pins : List (Addr × Obj)} {σ : St} {H : Hp} {s : Shared} {d : Addr} {o : Obj}
end
section
variable {P : Program} {w : World} {K : PySem.W.Frag} {tg : Expr} {d : Addr} {o : Obj} {es : Array DictEntry} {ep : Nat}
end
section
variable {X : Cx} {tg e : Expr} {td : TE} {apos cpos : Pos}
end
end L2
section 
namespace Bits
open PySem PyProof.Rows
end Bits
end 
section 
namespace TL
open PySem PySem.Builtin PySem.Builtin.Str PySem.StrLaws
abbrev tl (x : Str) : List Nat := x.cps.toList
def pre (S l : List Nat) : Bool := l.take S.length == S
def par (S : List Nat) : List Nat → List Nat → Option (List Nat × List Nat)
  | _, [] => none
  | acc, c :: r => if pre S (c :: r) = true then some (acc, (c :: r).drop S.length) else par S (acc ++ [c]) r
end TL
end 
namespace L2
open PySem PySem.Spec PyProof.Rows
theorem vals_strs : ∀ l : List (Str × Tok), Vals ((l.map (·.1)).map V.str) (strValues l)
  | [] => .nil
  | p :: r => .cons ⟨p.2, rfl⟩ (vals_strs r)
theorem strs_of_vals : ∀ {ys : List Str} {us : List Value}, Vals (ys.map V.str) us → StrsAre us ys
  | [], _, .nil => .nil
  | y :: ys, _, .cons r t => by
    obtain ⟨k, rfl⟩ := r
    exact .cons y k (strs_of_vals t)
def rNewStrs (ys : List Str) : Hp → VK → Prop := fun H Q => ∀ p, H p = none → Q (.ref p) (upd H p (.lst (ys.map V.str)))
section
variable {X : Cx} {pins : List (Addr × Obj)} {σ : St} {H : Hp} {s : Shared} {Q : VK}
theorem laid_strs {l : List (Str × Tok)} {ys : List Str} {k : Nat} (I : Inv X pins σ H s) (e : l.map (·.1) = ys) (hz : ys.length ≤ sizeLine) (h : rNewStrs ys H Q) :
    EP X pins σ Q (.ref s.heap.objs.size) { s with toks := k, heap := s.heap.push { cls := .type "list", data := .seq (strValues l).toArray } } := by
  have hp := I.hok.fresh (Nat.le_refl _)
  refine ⟨.ref s.heap.objs.size, upd H s.heap.objs.size (.lst (ys.map V.str)), I.laid (fun b u q => Heap.get?_push_of_some _ q) (Nat.le_refl _) ⟨by rw [List.length_map]; exact hz, strValues l, _, ?_, Heap.get?_push_size _ rfl⟩, rfl, h _ hp⟩
  rw [← e]
  exact vals_strs l
end
section
variable {X : Cx}
theorem mt_split : MtR X "str.split" (fun x xs H Q => ∃ a b, x = .str a ∧ xs = [.str b] ∧ (b.length == 0) = false ∧ a.length + 2 ≤ sizeLine ∧ rNewStrs (Txt.split a b) H Q) := by
  intro pins s σ H x xs v us Q I rx rs h
  obtain ⟨a, b, rfl, rfl, hb, hz, h⟩ := h
  obtain ⟨t, rfl⟩ := rx
  cases rs with
  | cons r1 rs =>
    cases rs
    obtain ⟨u, rfl⟩ := r1
    have hl : (Txt.split a b).length ≤ sizeLine := Nat.le_trans (PyProof.Rows.split_le a b) hz
    have hn : (Builtin.Str.partsBetween a (Builtin.Str.occurrences a b 0 a.length (a.length + 1)) b.length).length ≤ sizeLine := by
      have e1 := StrLaws.occ_length_le a b 0 a.length (a.length + 1)
      rw [length_partsBetween]; omega
    cases h1 : (decide (a.length < b.length) || decide (Builtin.Str.strKind a < Builtin.Str.strKind b))
    · cases hf : (Builtin.Str.occurrences a b 0 a.length (a.length + 1)).isEmpty
      · refine call_meets F.slot_str_split (typeIs_str _ _ _) F.entry_str_split (F.args_str_split_2 _ _) (meets_str_split_sep a b t u h1 hb hf (by omega) hn) ?_
        show EP X pins σ Q (.ref s.heap.objs.size) { s with toks := _, heap := s.heap.push { cls := .type "list", data := .seq (strsFrom s.toks (Builtin.Str.partsBetween a (Builtin.Str.occurrences a b 0 a.length (a.length + 1)) b.length)).toArray } }
        rw [strsFrom_eq]
        exact laid_strs (ys := Txt.split a b) I ((numbered_texts _ _).trans ((if_neg (ne_true_of_eq_false h1)).trans (if_neg (ne_true_of_eq_false hf))).symm) hl h
      · refine call_meets F.slot_str_split (typeIs_str _ _ _) F.entry_str_split (F.args_str_split_2 _ _) (meets_str_split_not_found a b t u h1 hb hf) ?_
        exact laid_strs (l := [(a, t)]) (ys := Txt.split a b) (k := s.toks) I ((if_neg (ne_true_of_eq_false h1)).trans (if_pos hf)).symm hl h
    · refine call_meets F.slot_str_split (typeIs_str _ _ _) F.entry_str_split (F.args_str_split_2 _ _) (meets_str_split_cannot_occur a b t u h1) ?_
      exact laid_strs (l := [(a, t)]) (ys := Txt.split a b) (k := s.toks) I (if_pos h1).symm hl h
theorem mt_join : MtR X "str.join" (fun x xs H Q => ∃ a p, ∃ ys : List Str, x = .str a ∧ xs = [.ref p] ∧ (SqL X.K H p (ys.map V.str) ∨ SqT X.K H p (ys.map V.str)) ∧
    (ys.map (·.length)).sum + ys.length * a.length ≤ 16777216 ∧ Q (.str (Txt.join a ys)) H) := by
  intro pins s σ H x xs v us Q I rx rs h
  obtain ⟨a, p, ys, rfl, rfl, hp, hz, h⟩ := h
  obtain ⟨t, rfl⟩ := rx
  cases rs with
  | cons r1 rs =>
    cases rs
    cases r1
    rcases hp with hp | hp
    · obtain ⟨its, r, ⟨o, n, ho, hc, _, hd⟩, _⟩ := I.list hp
      exact PyProof.Rows.join_list (items := its.toArray) ⟨o, ho, hc, n, hd⟩ (by rw [List.toList_toArray]; exact strs_of_vals r) hz fun t' k => ⟨.str _, H, I.tok k, ⟨t', rfl⟩, h⟩
    · obtain ⟨its, r, ht, _⟩ := I.tuple hp
      exact PyProof.Rows.join_tuple (items := its.toArray) ht (by rw [List.toList_toArray]; exact strs_of_vals r) hz fun t' k => ⟨.str _, H, I.tok k, ⟨t', rfl⟩, h⟩
theorem mt1 {id : String} {g : Str → Str → V} (rule : ∀ (a b : Str) (t u : Tok) (s : Shared) (Q : Value → Shared → Prop), (∀ (v : Value) (k : Nat), RelV (g a b) v → Q v { s with toks := k }) →
    wpAny (model X.prog X.w) X.A (call (.builtin id) [.str a t, .str b u]) Q X.xe s) : MtR X id (fun x xs H Q => ∃ a b, x = .str a ∧ xs = [.str b] ∧ Q (g a b) H) := by
  intro pins s σ H x xs v us Q I rx rs h
  obtain ⟨a, b, rfl, rfl, h⟩ := h
  obtain ⟨t, rfl⟩ := rx
  cases rs with
  | cons r1 rs =>
    cases rs
    obtain ⟨u, rfl⟩ := r1
    exact rule a b t u s _ fun v k r => ⟨g a b, H, I.tok k, r, h⟩
theorem mt_find : MtR X "str.find" (fun x xs H Q => ∃ a b, x = .str a ∧ xs = [.str b] ∧ Q (.int (Txt.find a b)) H) :=
  mt1 (g := fun a b => .int (Txt.find a b)) fun _ _ _ _ s _ h => PySem.SC.find (h _ (s.toks + 1) ⟨_, rfl⟩)
theorem call_int_str : CallR X (.type "int") (fun xs H Q => ∃ a n, xs = [.str a] ∧ PySem.intText? a = some n ∧ a.length ≤ 640 ∧ Q (.int n) H) := by
  intro pins s σ H xs us Q I rs h
  obtain ⟨a, n, rfl, hn, hl, h⟩ := h
  cases rs with
  | cons r1 rs =>
    cases rs
    obtain ⟨t, rfl⟩ := r1
    exact PySem.W.KIN.call_text hn hl ⟨.int n, H, I.tok _, ⟨_, rfl⟩, h⟩
end
section
variable {X : Cx} {o e : Expr} {to te : TE}
def tM1 (r : V → List V → Hp → VK → Prop) (to te : TE) : TE := fun σ H Q => to σ H fun x H1 => (∃ a, x = .str a) ∧ te σ H1 fun y H2 => r x [y] H2 Q
theorem pe_m1 {id : String} {name : Str} {apos pos : Pos} {r : V → List V → Hp → VK → Prop} (slot : Slot "str" name id) (ty : typeOf (.builtin id) = pure (.type "method_descriptor")) (rule : MtR X id r) (ho : PE X o to) (he : PE X e te)
    (hs : starEach [e] X.env = [(false, eval e X.env)] := by rfl) (hbase : attributeBase o name X.env (eval o X.env) = eval o X.env := by rfl) (hline : (apos.endLine == pos.line) = true := by rfl) :
    PE X (.Call (.Attribute o name apos) [e] [] pos) (tM1 r to te) := by
  intro pins s σ H Q I h
  refine PySem.Call_method1 hbase hs hline (thn (ho pins s σ H _ I h) fun v s1 ⟨x, H1, I1, r1, q1⟩ => ?_)
  obtain ⟨⟨a, rfl⟩, q1⟩ := q1
  obtain ⟨t, rfl⟩ := _root_.id r1
  refine ⟨"str", _, F.plainAttrs_str, slot, ty, typeIs_str _ _ _, (fun _ e => nomatch e), Calls.callWith_builtin rfl (Calls.evalArgs_plain (Calls.spliced_cons ?_))⟩
  exact thn (he pins s1 σ H1 _ I1 q1) fun u s2 ⟨y, H2, I2, r2, q2⟩ => Calls.spliced_nil (rule pins s2 σ H2 _ [y] _ [u] Q I2 r1 (.cons r2 .nil) q2)
end
end L2
namespace L2
open PySem PySem.Spec PyProof.Rows
section
variable {X : Cx}
end
theorem IsPart.raw {v : Value} {o : Option Int} (p : IsPart v o) : ∃ l : Option (Int × Tok), v = partValue l ∧ l.map (·.1) = o := by
  cases p with
  | none => exact ⟨none, rfl, rfl⟩
  | int i t => exact ⟨some (i, t), rfl, rfl⟩
def clipS (n d : Nat) : Option Int → Int
  | none => (d : Int)
  | some i => max 0 (min (if i < 0 then i + (n : Int) else i) (n : Int))
theorem clipS_eq (n d : Nat) (o : Option Int) : clipS n d o = ((HT.sIx n d o : Nat) : Int) := by
  cases o with
  | none => rfl
  | some v =>
    show max (0 : Int) (min (if v < 0 then v + (n : Int) else v) (n : Int)) = (((if v < 0 then (v + (n : Int)).toNat else min v.toNat n) : Nat) : Int)
    by_cases hv : v < 0
    · simp only [if_pos hv]
      omega
    · simp only [if_neg hv]
      omega
theorem sidx_clip (a b : Option Int) (n : Nat) : Builtin.Str.strSliceIndices a b 1 n = sliceRange (clipS n 0 a) (clipS n n b) 1 := by
  have h1 : ((1 : Int) > 0) = True := by simp
  cases a <;> cases b <;> first
    | rfl
    | (simp only [Builtin.Str.strSliceIndices, clipS, h1, if_true]; rfl)
    | simp [Builtin.Str.strSliceIndices, clipS]
theorem sidx (a b : Option Int) (n : Nat) : Builtin.Str.strSliceIndices a b 1 n = (List.range (HT.sIx n n b - HT.sIx n 0 a)).map (fun k => HT.sIx n 0 a + k) := by
  rw [sidx_clip, clipS_eq, clipS_eq]
  generalize HT.sIx n 0 a = p
  generalize HT.sIx n n b = q
  simp only [sliceRange, show ((1 : Int) > 0) = True from by simp, if_true]
  by_cases hlt : (p : Int) < q
  · have e3 : (((q : Int) - p + 1 - 1) / 1).toNat = q - p := by first | omega | (simp; done) | (simp; omega)
    simp only [hlt, if_true, e3]
    refine List.map_congr_left fun k _ => ?_
    omega
  · have : q - p = 0 := by omega
    simp [hlt, this]
def cutS (z : Str) (lo hi : Option Int) : Str :=
  ⟨((z.cps.toList.drop (HT.sIx z.length 0 lo)).take (HT.sIx z.length z.length hi - HT.sIx z.length 0 lo)).toArray⟩
theorem sliceText_cut (z : Str) (lo hi : Option Int) : PySem.StrLaws.sliceText z lo hi = cutS z lo hi := by
  have h1 : HT.sIx z.length 0 lo ≤ z.length := HT.sIx_le _ _ (Nat.zero_le _) _
  have h2 : HT.sIx z.length z.length hi ≤ z.length := HT.sIx_le _ _ (Nat.le_refl _) _
  have hp : HT.sIx z.length 0 lo ≤ max (HT.sIx z.length 0 lo) (HT.sIx z.length z.length hi) := Nat.le_max_left _ _
  have hq : max (HT.sIx z.length 0 lo) (HT.sIx z.length z.length hi) ≤ z.length := Nat.max_le.mpr ⟨h1, h2⟩
  have hd : max (HT.sIx z.length 0 lo) (HT.sIx z.length z.length hi) - HT.sIx z.length 0 lo = HT.sIx z.length z.length hi - HT.sIx z.length 0 lo := by omega
  have e : Builtin.Str.strSliceIndices lo hi 1 z.length =
      Builtin.Str.strSliceIndices (some ((HT.sIx z.length 0 lo : Nat) : Int)) (some ((max (HT.sIx z.length 0 lo) (HT.sIx z.length z.length hi) : Nat) : Int)) 1 z.length := by
    rw [PySem.StrLaws.strSliceIndices_plain hp hq, hd, sidx]
  have e2 : PySem.StrLaws.sliceText z lo hi =
      PySem.StrLaws.sliceText z (some ((HT.sIx z.length 0 lo : Nat) : Int)) (some ((max (HT.sIx z.length 0 lo) (HT.sIx z.length z.length hi) : Nat) : Int)) := by
    unfold PySem.StrLaws.sliceText
    rw [e]
  rw [e2, PySem.StrLaws.sliceText_nat z hp hq, hd]
  rfl
theorem cutS_length (z : Str) (lo hi : Option Int) : (cutS z lo hi).length ≤ z.length := by
  show (((z.cps.toList.drop (HT.sIx z.length 0 lo)).take (HT.sIx z.length z.length hi - HT.sIx z.length 0 lo)).toArray).size ≤ z.cps.size
  rw [List.size_toArray, List.length_take, List.length_drop, Array.length_toList]
  omega
def rSlS : V → Option Int → Option Int → Hp → VK → Prop := fun x lo hi H Q => ∃ z, x = .str z ∧ z.length ≤ sizeLine ∧ Q (.str (cutS z lo hi)) H
theorem sl_str {X : Cx} : SlR X rSlS := by
  intro pins s σ H x v vl vu lo hi sl Q I rx hs pl pu h
  obtain ⟨z, rfl, hz, q⟩ := h
  obtain ⟨t, rfl⟩ := rx
  obtain ⟨os, hos, hcs, hds⟩ := hs
  obtain ⟨l, rfl, rfl⟩ := IsPart.raw pl
  obtain ⟨u, rfl, rfl⟩ := IsPart.raw pu
  refine ⟨"str", _, F.slot_str_getitem.lookup, typeIs_str _ _ _, ?_⟩
  refine wpAny_getItem_str_slice (l := l) (u := u) (st := none) ⟨os, hos, hcs, hds⟩ rfl ?_
  have hl : (PySem.StrLaws.sliceText z (l.map (·.1)) (u.map (·.1))).length ≤ sizeLine := by
    rw [sliceText_cut]
    exact Nat.le_trans (cutS_length z _ _) hz
  rw [← sliceText_cut] at q
  unfold PySem.StrLaws.sliceText at q hl
  show Made.post (if ((1 : Int) == 1 && (Builtin.Str.strSliceIndices (l.map (·.1)) (u.map (·.1)) 1 z.length).length == z.length) = true then Made.val (.str z t)
    else Made.str ⟨((Builtin.Str.strSliceIndices (l.map (·.1)) (u.map (·.1)) 1 z.length).filterMap (z.cps[·]?)).toArray⟩) (EP X pins σ Q) s
  by_cases c : ((1 : Int) == 1 && (Builtin.Str.strSliceIndices (l.map (·.1)) (u.map (·.1)) 1 z.length).length == z.length) = true
  · rw [if_pos c] at q ⊢
    exact ⟨.str z, H, I, ⟨t, rfl⟩, q⟩
  · rw [if_neg c] at q hl ⊢
    exact ⟨hl, .str _, H, I.tok _, ⟨_, rfl⟩, q⟩
end L2
namespace Att
open PySem PySem.W PySem.Calls PyProof.Rows
theorem ints_of_wellAll {P : Params} {h : Heap} : ∀ (ns : List Int) (vs : List Value), WellAll P h vs (ns.map WData.int) → IntsAre vs ns := by
  intro ns
  induction ns with
  | nil =>
    intro vs w
    rw [List.map_nil] at w
    cases w
    exact .nil
  | cons n ns ih =>
    intro vs w
    rw [List.map_cons] at w
    cases w with
    | cons a b =>
      cases a
      exact .cons _ _ (ih _ b)
theorem script_of {l : OpenLaw} {n : Nat} (hn : l.most = some n) {P : Params} {h : Heap} {args : List WData} {vals : List Value}
    (hpre : l.row.toRowW.claim.pre args = true) (hwl : WellAll P h vals args) :
    ∃ a vs ns, vals = [Value.ref a] ∧ args = [WData.list (ns.map WData.int)] ∧ h.get? a = some { cls := .type "list", data := .seq vs.toArray } ∧ IntsAre vs ns ∧ ns.length ≤ n := by
  have hsh : WShape.hasAll [] args [.list .int] = true := (pre_splitW hpre).1
  have hc : l.pre.holds [] { args := args } = true := (pre_splitW hpre).2
  obtain ⟨d, r, rfl, h1, h2⟩ := hasAllW_cons hsh
  obtain rfl := hasAllW_nil h2
  obtain ⟨xs, rfl, h3⟩ := hasW_list h1
  obtain ⟨ns, rfl⟩ := items_int h3
  have hlen : ns.length ≤ n := by
    unfold OpenLaw.pre at hc
    have h4 : (WTm.not (.lt (.lit (.int (n : Int))) (.len (.arg 0)))).holds [] { args := [.list (ns.map .int)] } = true := by
      have h4 := (holds_andW hc).1
      rw [hn] at h4
      exact h4
    have h5 := condW_of h4 (w_not (w_lt w_lit (w_len_list (w_arg rfl))))
    rw [List.length_map] at h5
    refine Nat.le_of_not_lt fun q => ?_
    have q' : (n : Int) < ((ns.length : Nat) : Int) := by omega
    first
      | (rw [decide_eq_true q'] at h5; exact absurd h5 (by decide))
      | (simp at h5; omega)
  cases hwl with
  | cons w1 w2 =>
    cases w2
    cases w1 with
    | list ho hall => exact ⟨_, _, ns, rfl, rfl, ho, ints_of_wellAll ns _ hall, hlen⟩
theorem post_true (l : OpenLaw) (args : List WData) : l.row.toRowW.claim.post args (.bool true) args = true :=
  postW_of (r := l.row.toRowW) (X := (true == true))
    (show WShape.has [] (.bool true) .bool = true by first | rfl | decide | simp [WShape.has, WShape.arms, WShape.armsAll])
    (show (WTm.eq .res (.lit (.bool true))).value [] { args := args, res := some (.bool true), after := args } = some (.bool (true == true)) from w_eq_bool (w_res rfl) w_lit) rfl
theorem attach_call {l : OpenLaw} {n : Nat} {q : Program} {loose : List Str} {XP : (Str → Option Value) → Heap → Prop} {YP : World → Heap → Prop} {d : DefRec}
    (hn : l.most = some n) (hdf : d.params.defaults = [])
    (call : ∀ (w : World) (s₀ s₁ : Shared) (mg mb : Str → Option Value) (fa : Addr) (o : Obj) (pm cd doc : Value) (a : Addr) (vs : List Value) (ns : List Int),
      Ground q loose [] XP w s₀ mg mb s₁.heap → YP w s₁.heap →
      s₁.heap.get? fa = some o → o.data = .func (docDef d.name d.params d.body d.scope pm cd doc) → s₁.heap.CodeRec cd d.name → mg d.name = some (.ref fa) →
      s₁.heap.get? a = some { cls := .type "list", data := .seq vs.toArray } → IntsAre vs ns → ns.length ≤ n → s₁.gens = #[] →
      codeAny (model l.prog w) callerA (.call (.ref fa) ⟨[.ref a], []⟩) (fun r s' => r = .ok (.ret (.bool true)) ∧ OldK s₁.heap s'.heap ∧ s'.os = s₁.os ∧ AllBare s'.gens) s₁) :
    WalkO q loose XP YP l.row.toRowW d [] (fun f vs => PySem.call f vs) := by
  intro w s₀ s₁ mg mb G Y fa o pm cd doc dV kV ho hd hcd hD hmg hg args vals as hpre hlay hrd hwl hlo
  obtain rfl : dV = .none := Dflts.none hD hdf
  obtain rfl : kV = .none := Dflts.noKw hD
  obtain ⟨a, vs, ns, rfl, rfl, hobj, hints, hlen⟩ := script_of hn hpre hwl
  refine enter_call (codeAny_mono (call w s₀ s₁ mg mb fa o pm cd doc a vs ns G Y ho (fd_plain hd) hcd hmg hobj hints hlen hg) fun r s' hq => ?_)
  obtain ⟨rfl, h2, h3, h4⟩ := hq
  exact ⟨.inl ⟨.bool true, .bool true, [], rfl, fun _ => rfl, .bool true, post_true l _, fun _ => ⟨List.Pairwise.nil, fun _ hm => (nomatch hm)⟩⟩, h2, h3, h4⟩
section
variable {prog : Program} {w : World} {A : Around} {E : Value → Shared → Prop} {s : Shared} {K : Frag}
end
end Att
namespace L2
open PySem PySem.Spec PyProof.Rows
theorem vals_ints : ∀ {vs : List Value} {ns : List Int}, IntsAre vs ns → Vals (ns.map V.int) vs
  | _, _, .nil => .nil
  | _, _, .cons n t h => .cons ⟨t, rfl⟩ (vals_ints h)
def Only (H : Hp) : Prop := ∀ b, H b = none ∨ ∃ o xs, H b = some (.frz o (.lst xs))
theorem law_call {P : Program} {w : World} {K : PySem.W.Frag} {mg mb : Str → Option Value} {CX : CXT} {k : Nat} {fa a : Addr} {fd : FuncData} {x : Str} {sp : Sp} {s₁ : Shared} {vs : List Value} {ns : List Int}
    (KX : K.In s₁.heap) (hns : s₁.heap.Ns mainGlobals mg) (hb : s₁.heap.Ns builtinsNs mb) (hbb : ∀ x : Str, x ≠ "__name__" → mb x = bootBuiltins x) (hlim : s₁.heap.NoLimit) (hg : s₁.gens = #[])
    (ha : s₁.heap.get? a = some { cls := .type "list", data := .seq vs.toArray }) (hi : IntsAre vs ns) (hl : ns.length ≤ sizeLine) (hr : Room k callerA)
    (F : ∀ base : Heap, K.In base → base.Ns mainGlobals mg → FnOk P w K mg base CX k fa fd [x] sp) (hbind : ∀ (s : Shared) (u : Value), BindsTo s fd ⟨[u], []⟩ [(x, u)])
    (hsp : ∀ H : Hp, Only H → SqL K H a (ns.map V.int) → sp [.ref a] H (fun v _ => v = .bl true) fun _ _ _ => False)
    (hCX : ∀ H e s', CX [] H s₁ (fun _ _ _ => False) e s' → False) :
    codeAny (model P w) callerA (.call (.ref fa) ⟨[.ref a], []⟩) (fun r s' => r = .ok (.ret (.bool true)) ∧ OldK s₁.heap s'.heap ∧ s'.os = s₁.os ∧ AllBare s'.gens) s₁ := by
  have rv := vals_ints hi
  have lenV := hi.length
  -- from an abstract heap in which nothing but the script may be tracked
  have core : ∀ H : Hp, Only H → SqL K H a (ns.map V.int) → HOk P w H s₁.heap → (∀ b, H b ≠ none → b = a) → (H a ≠ none → K.lookup a = none) →
      codeAny (model P w) callerA (.call (.ref fa) ⟨[.ref a], []⟩) (fun r s' => r = .ok (.ret (.bool true)) ∧ OldK s₁.heap s'.heap ∧ s'.os = s₁.os ∧ AllBare s'.gens) s₁ := by
    intro H hO hS hok hA hK
    have base_of : ∀ {b : Addr} {o : Obj}, s₁.heap.get? b = some o → H b = none → (hidT s₁.heap H).get? b = some o := fun e n => hidT_get e n
    have noA : ∀ {b : Addr} {o : Obj} {es : Array DictEntry} {ep : Nat}, s₁.heap.get? b = some o → o.data = .dict es ep → H b = none := fun {b o es ep} e d => by
      cases q : H b with
      | none => rfl
      | some u =>
        have e' : b = a := hA b (by rw [q]; simp)
        subst e'
        rw [ha] at e; cases e
        have d' : Data.seq vs.toArray _ = Data.dict es ep := d
        cases d'
    have nsK : ∀ {b : Addr} {m : Str → Option Value}, s₁.heap.Ns b m → (hidT s₁.heap H).Ns b m := fun {b m} ⟨o, es, ep, e, d, r⟩ => ⟨o, es, ep, base_of e (noA e d), d, r⟩
    have hKb : K.In (hidT s₁.heap H) := fun b o e => base_of (KX b o e) (by
      cases q : H b with
      | none => rfl
      | some u =>
        have e' : b = a := hA b (by rw [q]; simp)
        subst e'
        rw [hK (by rw [q]; simp)] at e; cases e)
    have hM : Mod K mg (hidT s₁.heap H) := ⟨hKb, nsK hns, ⟨mb, nsK hb, hbb⟩, let ⟨mc, h1, h2⟩ := hlim; ⟨mc, nsK h1, h2⟩⟩
    have e0 : Env0 P w K mg (hidT s₁.heap H) callerA [] s₁ H := ⟨rfl, hM, fun b o e => of_hidT e, Nat.le_of_eq (hidT_size _ _), trivial, fun b hb => absurd (show b ∈ ([] : List Addr) from hb) (by simp), hok, .of_eq hg⟩
    refine codeAny_mono ((F _ hKb (nsK hns)).run callerA [] s₁ H ⟨[.ref a], []⟩ [.ref a] [.ref a] _ _ hr e0 (hbind s₁ (.ref a)) (.cons rfl .nil) (hsp H hO hS)) fun r s' h => ?_
    cases r with
    | error e => exact (hCX H e s' h).elim
    | ok fl =>
      cases fl with
      | next => exact False.elim h
      | brk => exact False.elim h
      | cont => exact False.elim h
      | ret u =>
        obtain ⟨v, H', os, bare, un, hok', r', q⟩ := h
        have q' : v = .bl true := q
        subst q'
        obtain rfl : u = Value.bool true := r'
        refine ⟨rfl, OldK.of_keep fun b o e => ?_, os, bare⟩
        cases q : H b with
        | none => exact un.keep b o e q (by intro z; exact absurd (show b ∈ ([] : List Addr) from z) (by simp)) (by simp)
        | some u =>
          rcases hO b with z | ⟨ob, xs, z⟩
          · rw [q] at z; cases z
          · have z2 := un.frzs b ob _ z
            obtain ⟨e1, _⟩ := hok b _ z
            obtain ⟨e2, _⟩ := hok' b _ z2
            rw [e] at e1; cases e1
            exact e2
  cases hk : K.lookup a with
  | some o =>
    -- the script is one of the module's own objects
    have e := KX a o hk
    rw [ha] at e
    cases e
    refine core (fun _ => none) (fun _ => .inl rfl) (.inr ⟨_, vs.toArray, _, hk, rfl, rfl, rfl, by rw [List.size_toArray, lenV]; exact hl, by simpa using rv⟩) (fun b u z => by have z' : (none : Option HO) = some u := z; cases z') (fun b z => absurd rfl z) fun z => absurd rfl z
  | none =>
    refine core (fun b => if b = a then some (.frz { cls := .type "list", data := .seq vs.toArray } (.lst (ns.map V.int))) else none) (fun b => ?_) (.inl (.inr ⟨{ cls := .type "list", data := .seq vs.toArray }, if_pos rfl⟩)) (fun b u z => ?_) (fun b z => ?_) fun _ => hk
    · by_cases hb : b = a
      · exact .inr ⟨_, _, if_pos hb⟩
      · exact .inl (if_neg hb)
    · by_cases hb : b = a
      · have z' := (if_pos hb).symm.trans z
        cases z'
        subst hb
        exact ⟨ha, by rw [List.length_map]; exact hl, vs, _, rv, ha⟩
      · have z' := (if_neg hb).symm.trans z
        cases z'
    · by_cases hb : b = a
      · exact hb
      · exact absurd (if_neg hb) z
end L2
namespace L2
open PySem PySem.Spec PyProof.Rows
abbrev KOf {K : PySem.W.Frag} {h : Heap} (_ : K.In h) : PySem.W.Frag := K
theorem walk_of {l : PySem.W.OpenLaw} {n k : Nat} {q : Program} {loose : List Str} {XP : (Str → Option Value) → Heap → Prop} {YP : World → Heap → Prop} {d : DefRec} {K : Params → PySem.W.Frag} {CX : World → CXT} {sp : World → Sp} {x : Str}
    (hn : l.most = some n) (hn2 : n ≤ sizeLine) (hdf : d.params.defaults = []) (hr : Room k callerA)
    (hY : ∀ (w : World) (h : Heap), YP w h → (K w.params).In h)
    (F : ∀ (w : World) (mg : Str → Option Value) (fa : Addr) (h : Heap), (K w.params).In h → h.Ns mainGlobals mg → mg d.name = some (.ref fa) →
      ∃ fd : FuncData, (∀ (s : Shared) (u : Value), BindsTo s fd ⟨[u], []⟩ [(x, u)]) ∧
        ∀ base : Heap, (K w.params).In base → base.Ns mainGlobals mg → FnOk l.prog w (K w.params) mg base (CX w) k fa fd [x] (sp w))
    (hsp : ∀ (w : World) (H : Hp) (a : Addr) (ns : List Int), ns.length ≤ n → Only H → SqL (K w.params) H a (ns.map V.int) → sp w [.ref a] H (fun v _ => v = .bl true) fun _ _ _ => False)
    (hCX : ∀ (w : World) (H : Hp) (s : Shared) (e : Value) (s' : Shared), CX w [] H s (fun _ _ _ => False) e s' → False) :
    PySem.W.WalkO q loose XP YP l.row.toRowW d [] (fun f vs => PySem.call f vs) := by
  refine Att.attach_call hn hdf fun w s₀ s₁ mg mb fa o pm cd doc a vs ns G Y ho hd hcd hmg hobj hints hlen hg => ?_
  have KX := hY w _ Y
  obtain ⟨fd, hb, hF⟩ := F w mg fa _ KX G.T.g hmg
  exact law_call KX G.T.g G.T.b G.T.builtins G.T.nolimit hg hobj hints (Nat.le_trans hlen hn2) hr hF hb (fun H hO hS => hsp w H a ns hlen hO hS) fun H e s' => hCX w H s₁ e s'
end L2
/- THE LAST THEOREM (shape; LID, My.* are yours):
   My.Adr: a structure of the addresses that your layer names (classes, functions); My.Txt K t: a structure (Prop) of the equations over K;
   My.txt_mk : {K} {implicit addresses ..} (e1 : nsIn K mainGlobals "law" = some (some (.ref f))) (e2 : K.lookup f = some ⟨oc, od, .func (fnOf "law" "law" params body scope dV kV doc pm an cdv ct), sl⟩) (e3 : codeIn K cdv "law" = true) .. : ∃ t, My.Txt K t
set_option maxRecDepth 100000 in
set_option maxHeartbeats 0 in
theorem PySem.Challenge.cw_LID_holds : PySem.Challenge.rw_LID.Holds := by
  w_on; o_law; k_head; (case hw => w_witness2)
  k_fill
  refine L2.walk_of (l := PySem.Challenge.rw_LID) (n := 63) (k := 40) (x := "script") (CX := fun w => ..) (sp := fun _ => My.sp_law) rfl (by decide) rfl ⟨rfl, by decide, by decide⟩ (fun w h Y => PySem.W.kIn_of Y) ?F ?S ?C
  case F =>
    intro w mg fa h KX G hmg
    have T : ∃ t, My.Txt (L2.KOf KX) t := by
      dsimp only [L2.KOf]                          -- K must stand as «<heap const> w.params» for k_is
      refine' My.txt_mk ?e1 ?e2 ?e3 ..
      (case e1 => PySem.W.k_is)                    -- in the order: a name -> its address -> its object -> its parts
      (case e2 => PySem.W.k_is)
      ..
    obtain ⟨t, T⟩ := T
    have e0 := hmg.symm.trans (PySem.W.mg_of KX G T.law)
    cases e0                                       -- fa is the law's own address
    exact ⟨_, fun s u => .of_eq rfl, fun base kb nb => My.law_fn T kb nb⟩     -- if «.of_eq rfl» comes too early: refine' ⟨_, ?b, fun base kb nb => My.law_fn T kb nb⟩; exact fun s u => .of_eq rfl
  case S => exact fun w H a ns hl hO hS => ..
  case C => exact ..
(the tactic k_is has no namespace: write k_is) -/
namespace L2
open PySem PySem.Spec PyProof.Rows
def defArgs (s : Stmt) : Arguments := match s with
  | .FunctionDef _ a _ _ _ _ _ _ _ _ => a
  | _ => { posonlyargs := [], args := [], vararg := none, kwonlyargs := [], kw_defaults := [], kwarg := none, defaults := [] }
def defBody (s : Stmt) : List Stmt := match s with
  | .FunctionDef _ _ b _ _ _ _ _ _ _ => b
  | _ => []
def defScope (s : Stmt) : Scope := match s with
  | .FunctionDef _ _ _ _ _ _ sc _ _ _ => sc
  | _ => { kind := .function, names := [], isGenerator := false, isCoroutine := false }
abbrev CX0 : CXT := fun _ _ _ _ _ _ => False
abbrev E0 : XK := fun _ _ _ => False
theorem pass0 {X : Cx} : Passes CX0 X E0 := fun _ _ _ _ _ _ _ h => h.elim
structure Fun (K : PySem.W.Frag) (x qual : Str) (st : Stmt) (f : Addr) (fd : FuncData) : Prop where
  ex : ∃ (oc : Value) (od : Option Addr) (kV doc pm : Value) (an : Option Addr) (cdv ct : Value) (osl : Array (Option Value)),
    fd = PySem.W.fnOf x qual (defArgs st) (defBody st) (defScope st) .none kV doc pm an cdv ct ∧ K.lookup f = some ⟨oc, od, .func fd, osl⟩ ∧ PySem.W.codeIn K cdv qual = true
  kp : PySem.W.keepIn K (.ref f) = true
section
variable {P : Program} {w : World} {K : PySem.W.Frag} {mg : Str → Option Value} {base : Heap}
theorem Fun.ok {x qual : Str} {st : Stmt} {f : Addr} {fd : FuncData} {N ps : List Str} {k : Nat} {sp : Sp} (F : Fun K x qual st f fd) (S : FnScope N ps (defScope st)) (len : ∀ vs H Q E, sp vs H Q E → vs.length = ps.length)
    (hbody : ∀ (cdv : Value) (A : Around) (outer : List Env) (s : Shared) (H : Hp) (vs : List V) (Q : VK) (E : XK), Room k (A.deeper (envOfC qual (defScope st) s.heap.objs.size f cdv)) → sp vs H Q E →
      ∃ t, PSs (cxOf CX0 P w K mg base N qual (defScope st) f cdv A outer s H E).nox (defBody st) t ∧ t { nx := fun _ H' => Q .non H', rt := Q } (start N vs) H) : FnOk P w K mg base CX0 (k + 1) f fd ps sp := by
  obtain ⟨oc, od, kV, doc, pm, an, cdv, ct, osl, rfl, lk, hcd⟩ := F.ex
  refine fn_of lk hcd S len fun A outer s H vs Q E hr hsp => ?_
  obtain ⟨t, h, q⟩ := hbody cdv A outer s H vs Q E hr hsp
  exact ⟨t, h.nox, q⟩
theorem Fun.binds {x qual : Str} {st : Stmt} {f : Addr} {fd : FuncData} {ps : List Str} (F : Fun K x qual st f fd)
    (h : ∀ (kV doc pm : Value) (an : Option Addr) (cdv ct : Value) (us : List Value), us.length = ps.length → bindArgs (PySem.W.fnOf x qual (defArgs st) (defBody st) (defScope st) .none kV doc pm an cdv ct) ⟨us, []⟩ = pure (ps.zip us)) : Binds K fd ps [] := by
  obtain ⟨oc, od, kV, doc, pm, an, cdv, ct, osl, rfl, lk, hcd⟩ := F.ex
  exact .all (h kV doc pm an cdv ct)
theorem fun_mk {x qual : Str} {st : Stmt} {f : Addr} {oc : Value} {od an : Option Addr} {osl : Array (Option Value)} {kV doc pm cdv ct : Value} (l : K.lookup f = some ⟨oc, od, .func (PySem.W.fnOf x qual (defArgs st) (defBody st) (defScope st) .none kV doc pm an cdv ct), osl⟩)
    (c : PySem.W.codeIn K cdv qual = true) (k : PySem.W.keepIn K (.ref f) = true) : Fun K x qual st f (PySem.W.fnOf x qual (defArgs st) (defBody st) (defScope st) .none kV doc pm an cdv ct) := ⟨⟨oc, od, kV, doc, pm, an, cdv, ct, osl, rfl, l, c⟩, k⟩
end
section
variable {X : Cx}
end
theorem iteF {A B : Prop} (h : B) : if false = true then A else B := by
  rw [if_neg Bool.false_ne_true]
  exact h
theorem iteT {A B : Prop} (h : A) : if true = true then A else B := by
  rw [if_pos rfl]
  exact h
def Same (H H' : Hp) : Prop := ∀ b o, H b = some o → H' b = some o
theorem Same.refl (H : Hp) : Same H H := fun _ _ h => h
theorem Same.trans {H H1 H2 : Hp} (a : Same H H1) (b : Same H1 H2) : Same H H2 := fun c o h => b c o (a c o h)
theorem Same.free {H H' : Hp} (e : Same H H') {l : Addr} (h : H' l = Option.none) : H l = Option.none := by
  cases q : H l with
  | none => rfl
  | some o =>
    rw [e l o q] at h
    cases h
theorem Same.seq {K : PySem.W.Frag} {H H' : Hp} {a : Addr} {xs : List V} (e : Same H H') (h : SqL K H a xs) : SqL K H' a xs := by
  rcases h with (h | ⟨o, h⟩) | h
  · exact .inl (.inl (e _ _ h))
  · exact .inl (.inr ⟨o, e _ _ h⟩)
  · exact .inr h
section
variable {κ : Type} [DecidableEq κ]
end
theorem Same.made {H H1 : Hp} {x dx C : Addr} (nx : H x = Option.none) (nd : H dx = Option.none) (k : ∀ b o, (upd (upd H dx (.own x)) x (.ins C dx [])) b = some o → b ≠ x → H1 b = some o) : Same H H1 := fun b o e =>
  k b o (by rw [upd_ne (ne_of_none e nx), upd_ne (ne_of_none e nd)]; exact e) (ne_of_none e nx)
end L2
namespace DL
open PySem PySem.Spec PyProof.Rows L2
abbrev St := L2.St
inductive Dv where
  | d (x : PyData) | r (a : Addr)
inductive MO where
  | lst (xs : List Dv)
  | dK (kvs : List (Key × Dv))
  | gen (R : Hp → HO → Prop) (mo : ∀ I I' o, Same I I' → R I o → R I' o)
abbrev M := Addr → Option MO
abbrev Dn := List (Option Dv)
abbrev QD := Dv → M → Prop
abbrev TD := Dn → M → QD → Prop
abbrev TBd := Dn → M → (Bool → M → Prop) → Prop
abbrev TAd := Dn → M → (List Dv → M → Prop) → Prop
structure DEnds where
  nx : Dn → M → Prop
  rt : QD
  bk : Dn → M → Prop := fun _ _ => False
  ct : Dn → M → Prop := fun _ _ => False
abbrev TSd := DEnds → Dn → M → Prop
def setM (m : M) (a : Addr) (o : MO) : M := fun b => if b = a then some o else m b
theorem setM_same {m : M} {a : Addr} {o : MO} : setM m a o a = some o := by unfold setM; rw [if_pos rfl]
theorem setM_ne {m : M} {a b : Addr} {o : MO} (h : b ≠ a) : setM m a o b = m b := by unfold setM; rw [if_neg h]
section
variable (K : PySem.W.Frag)
def Is (I : Hp) (v : V) : Dv → Prop
  | .d x => Dp K I v x
  | .r a => v = .ref a
abbrev IsAll (I : Hp) : List V → List Dv → Prop := Paired (Is K I)
def MRel (I : Hp) : HO → MO → Prop
  | .lst vs, .lst ds => IsAll K I vs ds
  | .dK kvs, .dK es => Paired (fun (p : Key × V) (q : Key × Dv) => p.1 = q.1 ∧ Is K I p.2 q.2) kvs es
  | o, .gen R _ => R I o
  | _, _ => False
structure Ok (H I : Hp) (m : M) : Prop where
  im : ∀ a o, I a = some o → H a = some o
  dj : ∀ a o, I a = some o → m a = none
  mu : ∀ a q, m a = some q → ∃ o, H a = some o ∧ MRel K I o q
def Rl (I : Hp) (σ : St) (δ : Dn) : Prop := Paired (fun (v : Option V) (d : Option Dv) => ∀ x, d = some x → ∃ y, v = some y ∧ Is K I y x) σ δ
end
theorem SqT.same {K : PySem.W.Frag} {H H' : Hp} {a : Addr} {xs : List V} (e : Same H H') (h : SqT K H a xs) : SqT K H' a xs := by
  rcases h with (h | ⟨o, h⟩) | h
  · exact .inl (.inl (e _ _ h))
  · exact .inl (.inr ⟨o, e _ _ h⟩)
  · exact .inr h
mutual
theorem Dp.same {K : PySem.W.Frag} {H H' : Hp} (e : Same H H') : ∀ {v : V} {d : PyData}, Dp K H v d → Dp K H' v d
  | _, _, .non => .non
  | _, _, .bl b => .bl b
  | _, _, .int i => .int i
  | _, _, .str x => .str x
  | _, _, .lst h a => .lst (e.seq h) (DpAll.same e a)
  | _, _, .tup h a => .tup (SqT.same e h) (DpAll.same e a)
theorem DpAll.same {K : PySem.W.Frag} {H H' : Hp} (e : Same H H') : ∀ {v : List V} {d : List PyData}, DpAll K H v d → DpAll K H' v d
  | _, _, .nil => .nil
  | _, _, .cons h t => .cons (Dp.same e h) (DpAll.same e t)
end
section
variable {K : PySem.W.Frag} {I I' : Hp}
theorem Is.same (e : Same I I') {v : V} {d : Dv} (h : Is K I v d) : Is K I' v d := by
  cases d with
  | d x => exact Dp.same e h
  | r a => exact h
theorem paired_imp {α β : Type} {R S : α → β → Prop} (h : ∀ a b, R a b → S a b) : ∀ {xs : List α} {ys : List β}, Paired R xs ys → Paired S xs ys
  | _, _, .nil => .nil
  | _, _, .cons r t => .cons (h _ _ r) (paired_imp h t)
theorem IsAll.same (e : Same I I') {vs : List V} {ds : List Dv} (h : IsAll K I vs ds) : IsAll K I' vs ds := paired_imp (fun _ _ => Is.same e) h
theorem Rl.same (e : Same I I') {σ : St} {δ : Dn} (h : Rl K I σ δ) : Rl K I' σ δ := paired_imp (fun _ _ q x hx => let ⟨y, h1, h2⟩ := q x hx; ⟨y, h1, h2.same e⟩) h
theorem MRel.same (e : Same I I') {o : HO} {q : MO} (h : MRel K I o q) : MRel K I' o q := by
  cases q with
  | gen R mo => cases o <;> exact mo _ _ _ e h
  | lst ds => cases o <;> first | exact IsAll.same e h | exact h.elim
  | dK es => cases o <;> first | exact paired_imp (fun _ _ z => ⟨z.1, z.2.same e⟩) h | exact h.elim
theorem dpAll_of : ∀ {vs : List V} {xs : List PyData}, IsAll K I vs (xs.map Dv.d) → DpAll K I vs xs
  | _, [], h => by cases h; exact .nil
  | _, x :: xs, h => by
    cases h with
    | cons r t => exact .cons r (dpAll_of t)
theorem isAll_of : ∀ {vs : List V} {xs : List PyData}, DpAll K I vs xs → IsAll K I vs (xs.map Dv.d)
  | _, _, .nil => .nil
  | _, _, .cons h t => .cons h (isAll_of t)
theorem paired_get {α β : Type} {R : α → β → Prop} : ∀ {xs : List α} {ys : List β} {i : Nat} {y : β}, Paired R xs ys → ys[i]? = some y → ∃ x, xs[i]? = some x ∧ R x y
  | _, _, _, _, .nil, e => by simp at e
  | _, _, 0, _, .cons r _, e => by simp at e; subst e; exact ⟨_, rfl, r⟩
  | _, _, i + 1, y, .cons _ t, e => by
    obtain ⟨u, h1, h2⟩ := paired_get (i := i) (y := y) t (by simpa using e)
    exact ⟨u, by simpa using h1, h2⟩
theorem paired_len {α β : Type} {R : α → β → Prop} : ∀ {xs : List α} {ys : List β}, Paired R xs ys → xs.length = ys.length
  | _, _, .nil => rfl
  | _, _, .cons _ t => by simp [paired_len t]
theorem paired_set {α β : Type} {R : α → β → Prop} {a : α} {b : β} (r : R a b) : ∀ {xs : List α} {ys : List β} (i : Nat), Paired R xs ys → Paired R (xs.set i a) (ys.set i b)
  | _, _, _, .nil => .nil
  | _, _, 0, .cons _ t => .cons r t
  | _, _, i + 1, .cons q t => .cons q (paired_set r i t)
theorem paired_app {α β : Type} {R : α → β → Prop} : ∀ {xs xs' : List α} {ys ys' : List β}, Paired R xs ys → Paired R xs' ys' → Paired R (xs ++ xs') (ys ++ ys')
  | _, _, _, _, .nil, q => q
  | _, _, _, _, .cons r t, q => .cons r (paired_app t q)
theorem Rl.get {σ : St} {δ : Dn} {i : Nat} {x : Dv} (h : Rl K I σ δ) (e : δ[i]? = some (some x)) : ∃ y, σ[i]? = some (some y) ∧ Is K I y x := by
  obtain ⟨v, h1, h2⟩ := paired_get h e
  obtain ⟨y, rfl, h3⟩ := h2 x rfl
  exact ⟨y, h1, h3⟩
theorem Rl.set {σ : St} {δ : Dn} {v : V} {x : Dv} (h : Rl K I σ δ) (i : Nat) (q : Is K I v x) : Rl K I (σ.set i (some v)) (δ.set i (some x)) :=
  paired_set (fun y e => ⟨v, rfl, by cases e; exact q⟩) i h
end
def Qd (K : PySem.W.Frag) (I : Hp) (Q : QD) : VK := fun v H' => ∃ I' d m', Same I I' ∧ Ok K H' I' m' ∧ Is K I' v d ∧ Q d m'
def up (K : PySem.W.Frag) (t : TD) : TE := fun σ H Q => ∃ I δ m, Ok K H I m ∧ Rl K I σ δ ∧ t δ m (fun d m' => ∀ v H' I', Same I I' → Ok K H' I' m' → Is K I' v d → Q v H')
def upB (K : PySem.W.Frag) (t : TBd) : TT := fun σ H Q => ∃ I δ m, Ok K H I m ∧ Rl K I σ δ ∧ t δ m (fun b m' => ∀ H' I', Same I I' → Ok K H' I' m' → Q b H')
def upA (K : PySem.W.Frag) (t : TAd) : TA := fun σ H Q => ∃ I δ m, Ok K H I m ∧ Rl K I σ δ ∧ t δ m (fun ds m' => ∀ vs H' I', Same I I' → Ok K H' I' m' → IsAll K I' vs ds → Q vs H')
def low (K : PySem.W.Frag) (I : Hp) (D : Ends) : DEnds where
  nx := fun δ' m' => ∀ σ' H' I', Same I I' → Ok K H' I' m' → Rl K I' σ' δ' → D.nx σ' H'
  rt := fun d m' => ∀ v H' I', Same I I' → Ok K H' I' m' → Is K I' v d → D.rt v H'
  bk := fun δ' m' => ∀ σ' H' I', Same I I' → Ok K H' I' m' → Rl K I' σ' δ' → D.bk σ' H'
  ct := fun δ' m' => ∀ σ' H' I', Same I I' → Ok K H' I' m' → Rl K I' σ' δ' → D.ct σ' H'
def upS (K : PySem.W.Frag) (t : TSd) : TS := fun D σ H => ∃ I δ m, Ok K H I m ∧ Rl K I σ δ ∧ t (low K I D) δ m
structure DEnds.Le (D D' : DEnds) : Prop where
  nx : ∀ δ m, D.nx δ m → D'.nx δ m
  rt : ∀ d m, D.rt d m → D'.rt d m
  bk : ∀ δ m, D.bk δ m → D'.bk δ m
  ct : ∀ δ m, D.ct δ m → D'.ct δ m
theorem DEnds.Le.refl (D : DEnds) : D.Le D := ⟨fun _ _ h => h, fun _ _ h => h, fun _ _ h => h, fun _ _ h => h⟩
theorem low_le {K : PySem.W.Frag} {I I' : Hp} (e : Same I I') (D : Ends) : (low K I D).Le (low K I' D) :=
  ⟨fun _ _ h σ' H' J q => h σ' H' J (e.trans q), fun _ _ h σ' H' J q => h σ' H' J (e.trans q), fun _ _ h σ' H' J q => h σ' H' J (e.trans q), fun _ _ h σ' H' J q => h σ' H' J (e.trans q)⟩
abbrev Mo {α : Type} (t : Dn → M → (α → M → Prop) → Prop) : Prop := ∀ δ m (Q Q' : α → M → Prop), (∀ d m', Q d m' → Q' d m') → t δ m Q → t δ m Q'
abbrev MoS (t : TSd) : Prop := ∀ D D' δ m, DEnds.Le D D' → t D δ m → t D' δ m
structure DE (X : Cx) (e : Expr) (t : TD) : Prop where
  mono : Mo t
  pe : PE X e (up X.K t)
structure DT (X : Cx) (e : Expr) (t : TBd) : Prop where
  mono : Mo t
  pt : PT X e (upB X.K t)
structure DW (X : Cx) (e : Expr) (t : TBd) : Prop where
  mono : Mo t
  pw : PW X e (upB X.K t)
structure DA (X : Cx) (es : List Expr) (t : TAd) : Prop where
  mono : Mo t
  pa : PA X es (upA X.K t)
structure DS (X : Cx) (st : Stmt) (t : TSd) : Prop where
  mono : MoS t
  ps : PS X st (upS X.K t)
structure DSs (X : Cx) (st : List Stmt) (t : TSd) : Prop where
  mono : MoS t
  ps : PSs X st (upS X.K t)
theorem PE.imp {X : Cx} {e : Expr} {t t' : TE} (h : PE X e t) (i : ∀ σ H Q, t' σ H Q → t σ H Q) : PE X e t' := fun pins s σ H Q I q => h pins s σ H Q I (i σ H Q q)
theorem PT.imp {X : Cx} {e : Expr} {t t' : TT} (h : PT X e t) (i : ∀ σ H Q, t' σ H Q → t σ H Q) : PT X e t' := fun pins s σ H Q I q => h pins s σ H Q I (i σ H Q q)
theorem PW.imp {X : Cx} {e : Expr} {t t' : TT} (h : PW X e t) (i : ∀ σ H Q, t' σ H Q → t σ H Q) : PW X e t' := fun w pins s σ H Q I q => h w pins s σ H Q I (i σ H Q q)
theorem PA.imp {X : Cx} {e : List Expr} {t t' : TA} (h : PA X e t) (i : ∀ σ H Q, t' σ H Q → t σ H Q) : PA X e t' := fun p pins s σ H Q I q => h p pins s σ H Q I (i σ H Q q)
theorem PS.imp {X : Cx} {e : Stmt} {t t' : TS} (h : PS X e t) (i : ∀ D σ H, t' D σ H → t D σ H) : PS X e t' := fun pins s σ H D I q => h pins s σ H D I (i D σ H q)
theorem PSs.imp {X : Cx} {e : List Stmt} {t t' : TS} (h : PSs X e t) (i : ∀ D σ H, t' D σ H → t D σ H) : PSs X e t' := fun pins s σ H D I q => h pins s σ H D I (i D σ H q)
theorem de_of {X : Cx} {e : Expr} {tp : TE} {t : TD} (h : PE X e tp) (mo : Mo t)
    (i : ∀ σ H I δ m (Q : QD), Ok X.K H I m → Rl X.K I σ δ → t δ m Q → tp σ H (Qd X.K I Q)) : DE X e t := by
  refine ⟨mo, PE.imp (t := fun σ H Q => ∃ I δ m, Ok X.K H I m ∧ Rl X.K I σ δ ∧ t δ m (fun d m' => ∀ v H' I', Same I I' → Ok X.K H' I' m' → Is X.K I' v d → Q v H')) (fun pins s σ H Q J q => ?_) fun σ H Q q => q⟩
  obtain ⟨I, δ, m, o, r, q⟩ := q
  refine thn (h pins s σ H _ J (i σ H I δ m _ o r q)) fun u s' ⟨v, H', J', rv, I', d, m', sm, o', is, q'⟩ => ?_
  exact ⟨v, H', J', rv, q' v H' I' sm o' is⟩
section
variable {X : Cx} {pos : Pos}
def dVar (i : Nat) : TD := fun δ m Q => ∃ v, δ[i]? = some (some v) ∧ Q v m
def dC (x : PyData) : TD := fun _ m Q => Q (.d x) m
theorem mo_dVar (i : Nat) : Mo (dVar i) := fun _ _ _ _ h ⟨v, e, q⟩ => ⟨v, e, h _ _ q⟩
theorem mo_dC (x : PyData) : Mo (dC x) := fun _ _ _ _ h q => h _ _ q
theorem dv (i : Nat) {x : Str} (hN : X.N[i]? = some x := by rfl) (hv : Vis X.env.scope x := by first | exact Or.inl rfl | exact Or.inr (Or.inl rfl) | exact Or.inr (Or.inr rfl)) (hd : (x == ("__debug__" : Str)) = false := by decide)
    (hcd : (x == ("__classdict__" : Str)) = false := by decide) : DE X (.Name x pos) (dVar i) := by
  refine de_of (pe_var hN hv hd hcd) (mo_dVar i) fun σ H I δ m Q o r ⟨v, e, q⟩ => ?_
  obtain ⟨y, h1, h2⟩ := r.get e
  exact ⟨y, h1, I, v, m, Same.refl _, o, h2, q⟩
theorem de_const {e : Expr} {v : V} {x : PyData} (h : PE X e (tC v)) (hd : ∀ I, Dp X.K I v x) : DE X e (dC x) :=
  de_of h (mo_dC x) fun σ H I δ m Q o r q => ⟨I, .d x, m, Same.refl _, o, hd I, q⟩
theorem de_int {i j} : DE X (.Constant (.int i) j pos) (dC (.int i)) := de_const pe_int fun _ => .int i
theorem de_bl {b j} : DE X (.Constant (.bool b) j pos) (dC (.bool b)) := de_const pe_bl fun _ => .bl b
theorem de_non {j} : DE X (.Constant .none j pos) (dC .none) := de_const pe_non fun _ => .non
theorem de_str {x j} : DE X (.Constant (.str x) j pos) (dC (.str x)) := de_const pe_str fun _ => .str x
theorem de_glob {x : Str} {v : V} {u : Value} {y : PyData} (hg : Gl X x) (hm : X.mg x = some u) (r : RelV v u) (hd : ∀ I, Dp X.K I v y) (hdb : (x == ("__debug__" : Str)) = false := by decide) : DE X (.Name x pos) (dC y) :=
  de_const (pe_glob hg hm r hdb) hd
end
section
variable {X : Cx} {a b c : Expr} {ta tb tc : TD} {pos : Pos}
abbrev R2D := Dv → Dv → M → QD → Prop
abbrev Mo2 (r : R2D) : Prop := ∀ x y m (Q Q' : QD), (∀ d m', Q d m' → Q' d m') → r x y m Q → r x y m Q'
abbrev R1D := Dv → M → QD → Prop
abbrev Mo1 (r : R1D) : Prop := ∀ x m (Q Q' : QD), (∀ d m', Q d m' → Q' d m') → r x m Q → r x m Q'
abbrev RAD := List Dv → M → QD → Prop
abbrev MoA (r : RAD) : Prop := ∀ xs m (Q Q' : QD), (∀ d m', Q d m' → Q' d m') → r xs m Q → r xs m Q'
def dOp (rd : R2D) (ta tb : TD) : TD := fun δ m Q => ta δ m fun x m1 => tb δ m1 fun y m2 => rd x y m2 Q
def dUn (rd : R1D) (ta : TD) : TD := fun δ m Q => ta δ m fun x m1 => rd x m1 Q
structure Op2 (K : PySem.W.Frag) (r : R2) (rd : R2D) : Prop where
  mono : Mo2 rd
  ok : ∀ H I0 I m x y v w Q, Ok K H I m → Same I0 I → Is K I v x → Is K I w y → rd x y m Q → r v w H (Qd K I0 Q)
structure Op1 (K : PySem.W.Frag) (r : V → Hp → VK → Prop) (rd : R1D) : Prop where
  mono : Mo1 rd
  ok : ∀ H I0 I m x v Q, Ok K H I m → Same I0 I → Is K I v x → rd x m Q → r v H (Qd K I0 Q)
structure OpA (K : PySem.W.Frag) (r : List V → Hp → VK → Prop) (rd : RAD) : Prop where
  mono : MoA rd
  ok : ∀ H I0 I m xs vs Q, Ok K H I m → Same I0 I → IsAll K I vs xs → rd xs m Q → r vs H (Qd K I0 Q)
theorem mo_dOp {rd : R2D} (h : Mo2 rd) (ma : Mo ta) (mb : Mo tb) : Mo (dOp rd ta tb) := fun δ m Q Q' hq q =>
  ma δ m _ _ (fun x m1 q1 => mb δ m1 _ _ (fun y m2 q2 => h x y m2 Q Q' hq q2) q1) q
theorem mo_dUn {rd : R1D} (h : Mo1 rd) (ma : Mo ta) : Mo (dUn rd ta) := fun δ m Q Q' hq q =>
  ma δ m _ _ (fun x m1 q1 => h x m1 Q Q' hq q1) q
theorem lift2 {e : Expr} {r : R2} {rd : R2D} (h : PE X e (tOp r (up X.K ta) (up X.K tb))) (ha : DE X a ta) (hb : DE X b tb) (o : Op2 X.K r rd) : DE X e (dOp rd ta tb) := by
  refine de_of h (mo_dOp o.mono ha.mono hb.mono) fun σ H I δ m Q ok rl q => ?_
  refine ⟨I, δ, m, ok, rl, ha.mono δ m _ _ (fun x m1 q1 v1 H1 I1 s1 o1 i1 => ?_) q⟩
  refine ⟨I1, δ, m1, o1, rl.same s1, hb.mono δ m1 _ _ (fun y m2 q2 v2 H2 I2 s2 o2 i2 => ?_) q1⟩
  exact o.ok H2 I I2 m2 x y v1 v2 Q o2 (s1.trans s2) (i1.same s2) i2 q2
theorem lift1 {e : Expr} {r : V → Hp → VK → Prop} {rd : R1D} (h : PE X e (tUn r (up X.K ta))) (ha : DE X a ta) (o : Op1 X.K r rd) : DE X e (dUn rd ta) := by
  refine de_of h (mo_dUn o.mono ha.mono) fun σ H I δ m Q ok rl q => ?_
  refine ⟨I, δ, m, ok, rl, ha.mono δ m _ _ (fun x m1 q1 v1 H1 I1 s1 o1 i1 => ?_) q⟩
  exact o.ok H1 I I1 m1 x v1 Q o1 s1 i1 q1
theorem de_op {op : Operator} {r : R2} {rd : R2D} (ho : OpR X (binaryOp op) r) (o : Op2 X.K r rd) (ha : DE X a ta) (hb : DE X b tb) : DE X (.BinOp a op b pos) (dOp rd ta tb) := lift2 (pe_op ho ha.pe hb.pe) ha hb o
theorem de_un {op : UnaryOp} {r : V → Hp → VK → Prop} {rd : R1D} (ho : UnR X (unaryOp op) r) (o : Op1 X.K r rd) (ha : DE X a ta) : DE X (.UnaryOp op a pos) (dUn rd ta) := lift1 (pe_un ho ha.pe) ha o
theorem qd_same {K : PySem.W.Frag} {H I0 I : Hp} {m : M} {Q : QD} {v : V} {d : Dv} (ok : Ok K H I m) (s : Same I0 I) (h : Is K I v d) (q : Q d m) : Qd K I0 Q v H := ⟨I, d, m, s, ok, h, q⟩
theorem isI {K : PySem.W.Frag} {I : Hp} (i : Int) : Is K I (.int i) (.d (.int i)) := Dp.int i
theorem isB {K : PySem.W.Frag} {I : Hp} (i : Bool) : Is K I (.bl i) (.d (.bool i)) := Dp.bl i
theorem isS {K : PySem.W.Frag} {I : Hp} (i : Str) : Is K I (.str i) (.d (.str i)) := Dp.str i
theorem isN {K : PySem.W.Frag} {I : Hp} : Is K I .non (.d .none) := Dp.non
theorem Is.int {K : PySem.W.Frag} {I : Hp} {v : V} {i : Int} (h : Is K I v (.d (.int i))) : v = .int i := by cases (show Dp K I v (.int i) from h); rfl
theorem Is.str {K : PySem.W.Frag} {I : Hp} {v : V} {i : Str} (h : Is K I v (.d (.str i))) : v = .str i := by cases (show Dp K I v (.str i) from h); rfl
theorem Is.bl {K : PySem.W.Frag} {I : Hp} {v : V} {i : Bool} (h : Is K I v (.d (.bool i))) : v = .bl i := by cases (show Dp K I v (.bool i) from h); rfl
theorem Is.non {K : PySem.W.Frag} {I : Hp} {v : V} (h : Is K I v (.d .none)) : v = .non := by cases (show Dp K I v .none from h); rfl
def gI (C : Int → Int → Prop) (g : Int → Int → Int) : R2D
  | .d (.int i), .d (.int j), m, Q => C i j ∧ Q (.d (.int (g i j))) m
  | _, _, _, _ => False
def gI0 (g : Int → Int → Int) : R2D
  | .d (.int i), .d (.int j), m, Q => Q (.d (.int (g i j))) m
  | _, _, _, _ => False
def gB0 (g : Int → Int → Bool) : R2D
  | .d (.int i), .d (.int j), m, Q => Q (.d (.bool (g i j))) m
  | _, _, _, _ => False
theorem gI_inv {C : Int → Int → Prop} {g : Int → Int → Int} {x y : Dv} {m : M} {Q : QD} (h : gI C g x y m Q) : ∃ i j, x = .d (.int i) ∧ y = .d (.int j) ∧ C i j ∧ Q (.d (.int (g i j))) m := by
  unfold gI at h; split at h
  · exact ⟨_, _, rfl, rfl, h⟩
  · exact h.elim
theorem gI0_inv {g : Int → Int → Int} {x y : Dv} {m : M} {Q : QD} (h : gI0 g x y m Q) : ∃ i j, x = .d (.int i) ∧ y = .d (.int j) ∧ Q (.d (.int (g i j))) m := by
  unfold gI0 at h; split at h
  · exact ⟨_, _, rfl, rfl, h⟩
  · exact h.elim
theorem gB0_inv {g : Int → Int → Bool} {x y : Dv} {m : M} {Q : QD} (h : gB0 g x y m Q) : ∃ i j, x = .d (.int i) ∧ y = .d (.int j) ∧ Q (.d (.bool (g i j))) m := by
  unfold gB0 at h; split at h
  · exact ⟨_, _, rfl, rfl, h⟩
  · exact h.elim
theorem o2_I {K : PySem.W.Frag} {C : Int → Int → Prop} {g : Int → Int → Int} : Op2 K (rI C fun i j => .int (g i j)) (gI C g) := by
  refine ⟨fun x y m Q Q' h q => ?_, fun H I0 I m x y v w Q ok s hx hy q => ?_⟩
  · obtain ⟨i, j, rfl, rfl, c, q⟩ := gI_inv q
    exact ⟨c, h _ _ q⟩
  · obtain ⟨i, j, rfl, rfl, c, q⟩ := gI_inv q
    exact ⟨i, j, hx.int, hy.int, c, qd_same ok s (isI _) q⟩
theorem o2_I0 {K : PySem.W.Frag} {g : Int → Int → Int} : Op2 K (rI0 fun i j => .int (g i j)) (gI0 g) := by
  refine ⟨fun x y m Q Q' h q => ?_, fun H I0 I m x y v w Q ok s hx hy q => ?_⟩
  · obtain ⟨i, j, rfl, rfl, q⟩ := gI0_inv q
    exact h _ _ q
  · obtain ⟨i, j, rfl, rfl, q⟩ := gI0_inv q
    exact ⟨i, j, hx.int, hy.int, qd_same ok s (isI _) q⟩
theorem o2_B0 {K : PySem.W.Frag} {g : Int → Int → Bool} : Op2 K (rI0 fun i j => .bl (g i j)) (gB0 g) := by
  refine ⟨fun x y m Q Q' h q => ?_, fun H I0 I m x y v w Q ok s hx hy q => ?_⟩
  · obtain ⟨i, j, rfl, rfl, q⟩ := gB0_inv q
    exact h _ _ q
  · obtain ⟨i, j, rfl, rfl, q⟩ := gB0_inv q
    exact ⟨i, j, hx.int, hy.int, qd_same ok s (isB _) q⟩
def g1I (g : Int → Int) : R1D
  | .d (.int i), m, Q => Q (.d (.int (g i))) m
  | _, _, _ => False
theorem g1I_inv {g : Int → Int} {x : Dv} {m : M} {Q : QD} (h : g1I g x m Q) : ∃ i, x = .d (.int i) ∧ Q (.d (.int (g i))) m := by
  unfold g1I at h; split at h
  · exact ⟨_, rfl, h⟩
  · exact h.elim
theorem o1_I {K : PySem.W.Frag} {g : Int → Int} : Op1 K (rU fun i => .int (g i)) (g1I g) := by
  refine ⟨fun x m Q Q' h q => ?_, fun H I0 I m x v Q ok s hx q => ?_⟩
  · obtain ⟨i, rfl, q⟩ := g1I_inv q
    exact h _ _ q
  · obtain ⟨i, rfl, q⟩ := g1I_inv q
    exact ⟨i, hx.int, qd_same ok s (isI _) q⟩
theorem de_sub (ha : DE X a ta) (hb : DE X b tb) : DE X (.BinOp a .Sub b pos) (dOp (gI0 fun i j => i - j) ta tb) := de_op op_sub o2_I0 ha hb
theorem de_mul (ha : DE X a ta) (hb : DE X b tb) : DE X (.BinOp a .Mult b pos) (dOp (gI CMul fun i j => i * j) ta tb) := de_op op_mul o2_I ha hb
theorem de_mod (ha : DE X a ta) (hb : DE X b tb) : DE X (.BinOp a .Mod b pos) (dOp (gI (fun _ j => 0 < j) fun i j => i % j) ta tb) := de_op op_mod o2_I ha hb
def CDivB (i j : Int) : Prop := 0 < j ∧ j < 2 ^ 200
theorem op_fdivB : OpR X (binaryOp .FloorDiv) (rI CDivB fun i j => .int (i / j)) := opI fun i j _ _ _ _ _ hc q => by
  have h1 : (0 : Int) < j := hc.1
  have h2 : j < 2 ^ 200 := hc.2
  refine floordiv_int (by omega) (by rw [Int.fdiv_eq_ediv_of_nonneg i (by omega)]; exact q) (.inl (PyProof.noPylong_of_log2 ?_))
  have h3 : j.natAbs < 2 ^ 200 := by
    have e : (j.natAbs : Int) = j := by omega
    have : ((j.natAbs : Nat) : Int) < ((2 ^ 200 : Nat) : Int) := by rw [e]; exact h2
    exact Int.ofNat_lt.mp this
  have h4 : j.natAbs ≠ 0 := by omega
  have := (Nat.log2_lt h4).mpr h3
  omega
theorem de_fdiv (ha : DE X a ta) (hb : DE X b tb) : DE X (.BinOp a .FloorDiv b pos) (dOp (gI CDivB fun i j => i / j) ta tb) := de_op op_fdivB o2_I ha hb
theorem de_pow (ha : DE X a ta) (hb : DE X b tb) : DE X (.BinOp a .Pow b pos) (dOp (gI CPow fun i j => i ^ j.toNat) ta tb) := de_op op_pow o2_I ha hb
theorem de_neg (ha : DE X a ta) : DE X (.UnaryOp .USub a pos) (dUn (g1I fun i => -i) ta) := de_un un_neg o1_I ha
end
end DL
namespace DL
open PySem PySem.Spec PyProof.Rows L2
section
variable {X : Cx} {a b c : Expr} {ta tb tc : TD} {pos : Pos}
def isBool : Dv → M → (Bool → M → Prop) → Prop
  | .d (.bool b), m, Q => Q b m
  | _, _, _ => False
theorem isBool_inv {x : Dv} {m : M} {Q : Bool → M → Prop} (h : isBool x m Q) : ∃ b, x = .d (.bool b) ∧ Q b m := by
  unfold isBool at h; split at h
  · exact ⟨_, rfl, h⟩
  · exact h.elim
theorem isBool_mono {x : Dv} {m : M} {Q Q' : Bool → M → Prop} (hq : ∀ b m, Q b m → Q' b m) (h : isBool x m Q) : isBool x m Q' := by
  obtain ⟨b, rfl, q⟩ := isBool_inv h
  exact hq _ _ q
def dTest (t : TD) : TBd := fun δ m Q => t δ m fun x m1 => isBool x m1 Q
theorem mo_dTest {t : TD} (h : Mo t) : Mo (dTest t) := fun δ m Q Q' hq q => h δ m _ _ (fun _ _ z => isBool_mono hq z) q
theorem dt_of {e : Expr} {tp : TT} {t : TBd} (h : PT X e tp) (mo : Mo t)
    (i : ∀ σ H I δ m (Q : Bool → M → Prop), Ok X.K H I m → Rl X.K I σ δ → t δ m Q → tp σ H (fun b H' => ∃ I' m', Same I I' ∧ Ok X.K H' I' m' ∧ Q b m')) : DT X e t := by
  refine ⟨mo, fun pins s σ H Q J q => ?_⟩
  obtain ⟨I, δ, m, o, r, q⟩ := q
  refine thn (h pins s σ H _ J (i σ H I δ m _ o r q)) fun u s' ⟨H', J', I', m', sm, o', q'⟩ => ?_
  exact ⟨H', J', q' H' I' sm o'⟩
theorem dw_of {e : Expr} {tp : TT} {t : TBd} (h : PW X e tp) (mo : Mo t)
    (i : ∀ σ H I δ m (Q : Bool → M → Prop), Ok X.K H I m → Rl X.K I σ δ → t δ m Q → tp σ H (fun b H' => ∃ I' m', Same I I' ∧ Ok X.K H' I' m' ∧ Q b m')) : DW X e t := by
  refine ⟨mo, fun wh pins s σ H Q J q => ?_⟩
  obtain ⟨I, δ, m, o, r, q⟩ := q
  refine thn (h wh pins s σ H _ J (i σ H I δ m _ o r q)) fun u s' ⟨H', J', I', m', sm, o', q'⟩ => ?_
  exact ⟨H', J', q' H' I' sm o'⟩
theorem dt_val {e : Expr} {t : TD} (h : DE X e t) (he : ∀ whole, isTrue e X.env whole = (do let v ← whole; standAt e.pos; holding [v] (truthy v)) := by intro _; rfl) : DT X e (dTest t) := by
  refine dt_of (pt_val h.pe he) (mo_dTest h.mono) fun σ H I δ m Q ok rl q => ?_
  refine ⟨I, δ, m, ok, rl, h.mono δ m _ _ (fun x m1 q1 v1 H1 I1 s1 o1 i1 => ?_) q⟩
  obtain ⟨b, rfl, q1⟩ := isBool_inv q1
  exact ⟨b, i1.bl, I1, m1, s1, o1, q1⟩
theorem de_cmp {op : CmpOp} {r : R2} {rd : R2D} (ho : OpR X (compareOp op) r) (o : Op2 X.K r rd) (ha : DE X a ta) (hb : DE X b tb) (hm : behindInMarks op b = false) : DE X (.Compare a [op] [b] pos) (dOp rd ta tb) :=
  lift2 (pe_cmpR ho ha.pe hb.pe hm) ha hb o
theorem dt_cmp {op : CmpOp} {r : R2} {rd : R2D} (ho : OpR X (compareOp op) r) (o : Op2 X.K r rd) (ha : DE X a ta) (hb : DE X b tb) (hm : behindInMarks op b = false) : DT X (.Compare a [op] [b] pos) (dTest (dOp rd ta tb)) := by
  have mo := mo_dOp o.mono ha.mono hb.mono
  refine dt_of (tp := tTest (tOp (fun x y H Q => ∃ I0 I m dx dy QD, Ok X.K H I m ∧ Same I0 I ∧ Is X.K I x dx ∧ Is X.K I y dy ∧ rd dx dy m QD ∧ ∀ z H', Qd X.K I0 QD z H' → Q z H') (up X.K ta) (up X.K tb))) ?_ (mo_dTest mo) fun σ H I δ m Q ok rl q => ?_
  · refine pt_cmpR (fun pins s σ H x y v u Q J rx ry h => ?_) ha.pe hb.pe hm
    obtain ⟨I0, I, m, dx, dy, QD, ok, s1, ix, iy, h, k⟩ := h
    refine thn (ho pins s σ H x y v u _ J rx ry (o.ok H I0 I m dx dy x y QD ok s1 ix iy h)) fun u s' ⟨z, H', J', rz, q⟩ => ⟨z, H', J', rz, k z H' q⟩
  · refine ⟨I, δ, m, ok, rl, ha.mono δ m _ _ (fun x m1 q1 v1 H1 I1 s1 o1 i1 => ?_) q⟩
    refine ⟨I1, δ, m1, o1, rl.same s1, hb.mono δ m1 _ _ (fun y m2 q2 v2 H2 I2 s2 o2 i2 => ?_) q1⟩
    refine ⟨I, I2, m2, x, y, _, o2, s1.trans s2, i1.same s2, i2, q2, fun z H' ⟨I', d, m', sm, o', is, qb⟩ => ?_⟩
    obtain ⟨k, rfl, qb⟩ := isBool_inv qb
    exact ⟨k, is.bl, I', m', sm, o', qb⟩
def dAnd (t u : TBd) : TBd := fun δ m Q => t δ m fun c m1 => if c = true then u δ m1 Q else Q false m1
def dOr (t u : TBd) : TBd := fun δ m Q => t δ m fun c m1 => if c = true then Q true m1 else u δ m1 Q
def dNot (t : TBd) : TBd := fun δ m Q => t δ m fun c m1 => Q (!c) m1
theorem mo_dAnd {t u : TBd} (ht : Mo t) (hu : Mo u) : Mo (dAnd t u) := fun δ m Q Q' hq q => ht δ m _ _ (fun c m1 z => by
  cases c with
  | true => exact iteT (hu δ m1 Q Q' hq (by simpa using z))
  | false => exact iteF (hq _ _ (by simpa using z))) q
theorem mo_dOr {t u : TBd} (ht : Mo t) (hu : Mo u) : Mo (dOr t u) := fun δ m Q Q' hq q => ht δ m _ _ (fun c m1 z => by
  cases c with
  | true => exact iteT (hq _ _ (by simpa using z))
  | false => exact iteF (hu δ m1 Q Q' hq (by simpa using z))) q
theorem mo_dNot {t : TBd} (ht : Mo t) : Mo (dNot t) := fun δ m Q Q' hq q => ht δ m _ _ (fun c m1 z => hq _ _ z) q
variable {tA tB' : TBd} {rest : List Expr}
theorem DW.dt (h : DW X a tA) : DT X a tA := ⟨h.mono, h.pw.pt⟩
theorem dw_and1 (ha : DT X a tA) : DW X (.BoolOp .And [a] pos) tA := ⟨ha.mono, pw_and1 ha.pt⟩
theorem dw_or1 (ha : DT X a tA) : DW X (.BoolOp .Or [a] pos) tA := ⟨ha.mono, pw_or1 ha.pt⟩
theorem dw_and (ha : DT X a tA) (hb : DW X (.BoolOp .And (b :: rest) pos) tB') : DW X (.BoolOp .And (a :: b :: rest) pos) (dAnd tA tB') := by
  refine dw_of (pw_and ha.pt hb.pw) (mo_dAnd ha.mono hb.mono) fun σ H I δ m Q ok rl q => ?_
  refine ⟨I, δ, m, ok, rl, ha.mono δ m _ _ (fun c m1 q1 H1 I1 s1 o1 => ?_) q⟩
  cases c with
  | false => exact iteF ⟨I1, m1, s1, o1, by simpa using q1⟩
  | true =>
    refine iteT ⟨I1, δ, m1, o1, rl.same s1, hb.mono δ m1 _ _ (fun c2 m2 q2 H2 I2 s2 o2 => ?_) (show tB' δ m1 Q by simpa using q1)⟩
    exact ⟨I2, m2, s1.trans s2, o2, q2⟩
theorem dw_or (ha : DT X a tA) (hb : DW X (.BoolOp .Or (b :: rest) pos) tB') : DW X (.BoolOp .Or (a :: b :: rest) pos) (dOr tA tB') := by
  refine dw_of (pw_or ha.pt hb.pw) (mo_dOr ha.mono hb.mono) fun σ H I δ m Q ok rl q => ?_
  refine ⟨I, δ, m, ok, rl, ha.mono δ m _ _ (fun c m1 q1 H1 I1 s1 o1 => ?_) q⟩
  cases c with
  | true => exact iteT ⟨I1, m1, s1, o1, by simpa using q1⟩
  | false =>
    refine iteF ⟨I1, δ, m1, o1, rl.same s1, hb.mono δ m1 _ _ (fun c2 m2 q2 H2 I2 s2 o2 => ?_) (show tB' δ m1 Q by simpa using q1)⟩
    exact ⟨I2, m2, s1.trans s2, o2, q2⟩
theorem dt_not (ha : DT X a tA) : DT X (.UnaryOp .Not a pos) (dNot tA) := by
  refine dt_of (pt_not ha.pt) (mo_dNot ha.mono) fun σ H I δ m Q ok rl q => ?_
  exact ⟨I, δ, m, ok, rl, ha.mono δ m _ _ (fun c m1 q1 H1 I1 s1 o1 => ⟨I1, m1, s1, o1, q1⟩) q⟩
def dAndV (ta tb : TD) : TD := fun δ m Q => ta δ m fun x m1 => isBool x m1 fun c m1 => if c = true then tb δ m1 Q else Q (.d (.bool false)) m1
def dOrV (ta tb : TD) : TD := fun δ m Q => ta δ m fun x m1 => isBool x m1 fun c m1 => if c = true then Q (.d (.bool true)) m1 else tb δ m1 Q
def dNotV (ta : TD) : TD := fun δ m Q => ta δ m fun x m1 => isBool x m1 fun c m1 => Q (.d (.bool (!c))) m1
def dIf (t : TBd) (ta tb : TD) : TD := fun δ m Q => t δ m fun c m1 => if c = true then ta δ m1 Q else tb δ m1 Q
def dChain (r r' : R2D) (ta tb tc : TD) : TD := fun δ m Q => ta δ m fun x m1 => tb δ m1 fun y m2 => r x y m2 fun z m3 => isBool z m3 fun k m3 => if k = true then tc δ m3 fun w m4 => r' y w m4 Q else Q (.d (.bool false)) m3
def gEqD : R2D
  | .d x, .d y, m, Q => SeqAt.shaped x = true ∧ SeqAt.shaped y = true ∧ Q (.d (.bool (PyData.eqv x y))) m
  | _, _, _, _ => False
def gNeD : R2D
  | .d x, .d y, m, Q => SeqAt.shaped x = true ∧ SeqAt.shaped y = true ∧ Q (.d (.bool (!PyData.eqv x y))) m
  | _, _, _, _ => False
theorem Dp.up {K : PySem.W.Frag} {H I : Hp} {m : M} (ok : Ok K H I m) {v : V} {x : PyData} (h : Dp K I v x) : Dp K H v x := Dp.same ok.im h
theorem o2_eqD {K : PySem.W.Frag} : Op2 K (rEqD K) gEqD := by
  refine ⟨fun x y m Q Q' h q => ?_, fun H I0 I m x y v w Q ok s hx hy q => ?_⟩
  · cases x <;> cases y <;> first | exact q.elim | exact ⟨q.1, q.2.1, h _ _ q.2.2⟩
  · cases x <;> cases y <;> first | exact q.elim | exact ⟨_, _, Dp.up ok hx, Dp.up ok hy, q.1, q.2.1, qd_same ok s (isB _) q.2.2⟩
theorem o2_neD {K : PySem.W.Frag} : Op2 K (rNeD K) gNeD := by
  refine ⟨fun x y m Q Q' h q => ?_, fun H I0 I m x y v w Q ok s hx hy q => ?_⟩
  · cases x <;> cases y <;> first | exact q.elim | exact ⟨q.1, q.2.1, h _ _ q.2.2⟩
  · cases x <;> cases y <;> first | exact q.elim | exact ⟨_, _, Dp.up ok hx, Dp.up ok hy, q.1, q.2.1, qd_same ok s (isB _) q.2.2⟩
theorem de_eq {k : Nat} (hr : Room k X.A) (ha : DE X a ta) (hb : DE X b tb) : DE X (.Compare a [.Eq] [b] pos) (dOp gEqD ta tb) := de_cmp (op_eqD hr.units) o2_eqD ha hb (nomark _)
theorem dt_eq {k : Nat} (hr : Room k X.A) (ha : DE X a ta) (hb : DE X b tb) : DT X (.Compare a [.Eq] [b] pos) (dTest (dOp gEqD ta tb)) := dt_cmp (op_eqD hr.units) o2_eqD ha hb (nomark _)
theorem dt_ne {k : Nat} (hr : Room k X.A) (ha : DE X a ta) (hb : DE X b tb) : DT X (.Compare a [.NotEq] [b] pos) (dTest (dOp gNeD ta tb)) := dt_cmp (op_neD hr.units) o2_neD ha hb (nomark _)
theorem dt_lt (ha : DE X a ta) (hb : DE X b tb) : DT X (.Compare a [.Lt] [b] pos) (dTest (dOp (gB0 fun i j => decide (i < j)) ta tb)) := dt_cmp op_lt o2_B0 ha hb (nomark _)
theorem dt_gt (ha : DE X a ta) (hb : DE X b tb) : DT X (.Compare a [.Gt] [b] pos) (dTest (dOp (gB0 fun i j => decide (j < i)) ta tb)) := dt_cmp op_gt o2_B0 ha hb (nomark _)
end
section
variable {X : Cx} {e : Expr} {es : List Expr} {te : TD} {t : TAd} {pos : Pos}
def dNil : TAd := fun _ m Q => Q [] m
def dCons (ta : TD) (tr : TAd) : TAd := fun δ m Q => ta δ m fun x m1 => tr δ m1 fun xs m2 => Q (x :: xs) m2
theorem mo_dNil : Mo dNil := fun _ _ _ _ h q => h _ _ q
theorem mo_dCons {ta : TD} {tr : TAd} (h1 : Mo ta) (h2 : Mo tr) : Mo (dCons ta tr) := fun δ m Q Q' hq q => h1 δ m _ _ (fun x m1 q1 => h2 δ m1 _ _ (fun xs m2 q2 => hq _ _ q2) q1) q
theorem da_of {tp : TA} {t : TAd} (h : PA X es tp) (mo : Mo t)
    (i : ∀ σ H I δ m (Q : List Dv → M → Prop), Ok X.K H I m → Rl X.K I σ δ → t δ m Q → tp σ H (fun vs H' => ∃ I' ds m', Same I I' ∧ Ok X.K H' I' m' ∧ IsAll X.K I' vs ds ∧ Q ds m')) : DA X es t := by
  refine ⟨mo, fun p pins s σ H Q J q => ?_⟩
  obtain ⟨I, δ, m, o, r, q⟩ := q
  refine thn (h p pins s σ H _ J (i σ H I δ m _ o r q)) fun u s' ⟨vs, H', J', rv, I', ds, m', sm, o', is, q'⟩ => ?_
  exact ⟨vs, H', J', rv, q' vs H' I' sm o' is⟩
theorem da_nil : DA X [] dNil := da_of pa_nil mo_dNil fun σ H I δ m Q ok rl q => ⟨I, [], m, Same.refl _, ok, .nil, q⟩
theorem da_cons (ha : DE X e te) (hr : DA X es t) (hs : starEach (e :: es) X.env = (false, eval e X.env) :: starEach es X.env := by rfl) : DA X (e :: es) (dCons te t) := by
  refine da_of (pa_cons ha.pe hr.pa hs) (mo_dCons ha.mono hr.mono) fun σ H I δ m Q ok rl q => ?_
  refine ⟨I, δ, m, ok, rl, ha.mono δ m _ _ (fun x m1 q1 v1 H1 I1 s1 o1 i1 => ?_) q⟩
  refine ⟨I1, δ, m1, o1, rl.same s1, hr.mono δ m1 _ _ (fun xs m2 q2 vs H2 I2 s2 o2 i2 => ?_) q1⟩
  exact ⟨I2, x :: xs, m2, s1.trans s2, o2, .cons (i1.same s2) i2, q2⟩
theorem Ok.new {K : PySem.W.Frag} {H I : Hp} {m : M} (ok : Ok K H I m) {p : Addr} {o : HO} (hp : H p = none) : Ok K (upd H p o) (upd I p o) m := by
  have hm : m p = none := by
    cases e : m p with
    | none => rfl
    | some q => obtain ⟨o', h, _⟩ := ok.mu p q e; rw [hp] at h; cases h
  have hI : I p = none := by
    cases e : I p with
    | none => rfl
    | some q => have := ok.im p q e; rw [hp] at this; cases this
  have sm : Same I (upd I p o) := fun b u e => by rw [upd_ne (ne_of_none e hI)]; exact e
  refine ⟨fun a u e => ?_, fun a u e => ?_, fun a q e => ?_⟩
  · by_cases h : a = p
    · subst h; rw [upd_same] at e ⊢; exact e
    · rw [upd_ne h] at e ⊢; exact ok.im a u e
  · by_cases h : a = p
    · subst h; exact hm
    · rw [upd_ne h] at e; exact ok.dj a u e
  · have h : a ≠ p := fun z => by subst z; rw [hm] at e; cases e
    obtain ⟨u, h1, h2⟩ := ok.mu a q e
    exact ⟨u, by rw [upd_ne h]; exact h1, h2.same sm⟩
theorem same_new {H I : Hp} {p : Addr} {o : HO} (hI : I p = none) : Same I (upd I p o) := fun b u e => by rw [upd_ne (ne_of_none e hI)]; exact e
theorem Ok.free {K : PySem.W.Frag} {H I : Hp} {m : M} (ok : Ok K H I m) {p : Addr} (hp : H p = none) : I p = none := by
  cases e : I p with
  | none => rfl
  | some q => have := ok.im p q e; rw [hp] at this; cases this
theorem Ok.freeM {K : PySem.W.Frag} {H I : Hp} {m : M} (ok : Ok K H I m) {p : Addr} (hp : H p = none) : m p = none := by
  cases e : m p with
  | none => rfl
  | some q => obtain ⟨o', h, _⟩ := ok.mu p q e; rw [hp] at h; cases h
theorem Ok.newM {K : PySem.W.Frag} {H I : Hp} {m : M} (ok : Ok K H I m) {p : Addr} {o : HO} {q : MO} (hp : H p = none) (r : MRel K I o q) : Ok K (upd H p o) I (setM m p q) := by
  have hI := ok.free hp
  refine ⟨fun a u e => ?_, fun a u e => ?_, fun a z e => ?_⟩
  · rw [upd_ne (ne_of_none e hI)]; exact ok.im a u e
  · rw [setM_ne (ne_of_none e hI)]; exact ok.dj a u e
  · by_cases h : a = p
    · subst h; rw [setM_same] at e; cases e; exact ⟨o, upd_same, r⟩
    · rw [setM_ne h] at e; obtain ⟨u, h1, h2⟩ := ok.mu a z e; exact ⟨u, by rw [upd_ne h]; exact h1, h2⟩
theorem Ok.put {K : PySem.W.Frag} {H I : Hp} {m : M} (ok : Ok K H I m) {p : Addr} {o : HO} {q q0 : MO} (hp : m p = some q0) (r : MRel K I o q) : Ok K (upd H p o) I (setM m p q) := by
  have hI : I p = none := by
    cases e : I p with
    | none => rfl
    | some u => have := ok.dj p u e; rw [hp] at this; cases this
  refine ⟨fun a u e => ?_, fun a u e => ?_, fun a z e => ?_⟩
  · rw [upd_ne (ne_of_none e hI)]; exact ok.im a u e
  · rw [setM_ne (ne_of_none e hI)]; exact ok.dj a u e
  · by_cases h : a = p
    · subst h; rw [setM_same] at e; cases e; exact ⟨o, upd_same, r⟩
    · rw [setM_ne h] at e; obtain ⟨u, h1, h2⟩ := ok.mu a z e; exact ⟨u, by rw [upd_ne h]; exact h1, h2⟩
def datas : List Dv → Option (List PyData)
  | [] => some []
  | .d x :: r => (datas r).map (x :: ·)
  | .r _ :: _ => none
theorem datas_map : ∀ {ds : List Dv} {xs : List PyData}, datas ds = some xs → ds = xs.map .d
  | [], xs, h => by cases h; rfl
  | .d x :: r, xs, h => by
    simp only [datas] at h
    cases e : datas r with
    | none => rw [e] at h; cases h
    | some ys => rw [e] at h; cases h; simp [datas_map e]
  | .r _ :: _, _, h => by cases h
def dTup (t : TAd) : TD := fun δ m Q => t δ m fun ds m1 => ds.length ≤ sizeLine ∧ ∃ xs, datas ds = some xs ∧ Q (.d (.tuple xs)) m1
def dLst (t : TAd) : TD := fun δ m Q => t δ m fun ds m1 => ds.length ≤ sizeLine ∧ ∃ xs, datas ds = some xs ∧ Q (.d (.list xs)) m1
def dLstM (t : TAd) : TD := fun δ m Q => t δ m fun ds m1 => ds.length ≤ sizeLine ∧ ∀ p, m1 p = none → Q (.r p) (setM m1 p (.lst ds))
theorem mo_dTup (h : Mo t) : Mo (dTup t) := fun δ m Q Q' hq q => h δ m _ _ (fun ds m1 ⟨l, xs, e, z⟩ => ⟨l, xs, e, hq _ _ z⟩) q
theorem mo_dLst (h : Mo t) : Mo (dLst t) := fun δ m Q Q' hq q => h δ m _ _ (fun ds m1 ⟨l, xs, e, z⟩ => ⟨l, xs, e, hq _ _ z⟩) q
theorem mo_dLstM (h : Mo t) : Mo (dLstM t) := fun δ m Q Q' hq q => h δ m _ _ (fun ds m1 ⟨l, z⟩ => ⟨l, fun p hp => hq _ _ (z p hp)⟩) q
theorem de_tup {x1} (h : DA X es t) : DE X (.Tuple es x1 pos) (dTup t) := by
  refine de_of (pe_tup h.pa) (mo_dTup h.mono) fun σ H I δ m Q ok rl q => ?_
  refine ⟨I, δ, m, ok, rl, h.mono δ m _ _ (fun ds m1 q1 vs H1 I1 s1 o1 i1 => ?_) q⟩
  obtain ⟨hl, xs, e, q1⟩ := q1
  have e' := datas_map e
  subst e'
  refine ⟨by rw [paired_len i1]; exact hl, fun p hp => ?_⟩
  have fI := o1.free hp
  exact ⟨upd I1 p (.tup vs), .d (.tuple xs), m1, s1.trans (same_new (H := H1) fI), o1.new hp, Dp.tup (SqT.of upd_same) (DpAll.same (same_new (H := H1) fI) (dpAll_of i1)), q1⟩
theorem de_lst (h : DA X es t) : DE X (.List es pos) (dLst t) := by
  refine de_of (pe_lst h.pa) (mo_dLst h.mono) fun σ H I δ m Q ok rl q => ?_
  refine ⟨I, δ, m, ok, rl, h.mono δ m _ _ (fun ds m1 q1 vs H1 I1 s1 o1 i1 => ?_) q⟩
  obtain ⟨hl, xs, e, q1⟩ := q1
  have e' := datas_map e
  subst e'
  refine ⟨by rw [paired_len i1]; exact hl, fun p hp => ?_⟩
  have fI := o1.free hp
  exact ⟨upd I1 p (.lst vs), .d (.list xs), m1, s1.trans (same_new (H := H1) fI), o1.new hp, Dp.lst (SqL.of upd_same) (DpAll.same (same_new (H := H1) fI) (dpAll_of i1)), q1⟩
theorem de_lstM (h : DA X es t) : DE X (.List es pos) (dLstM t) := by
  refine de_of (pe_lst h.pa) (mo_dLstM h.mono) fun σ H I δ m Q ok rl q => ?_
  refine ⟨I, δ, m, ok, rl, h.mono δ m _ _ (fun ds m1 q1 vs H1 I1 s1 o1 i1 => ?_) q⟩
  obtain ⟨hl, q1⟩ := q1
  refine ⟨by rw [paired_len i1]; exact hl, fun p hp => ?_⟩
  exact ⟨I1, .r p, setM m1 p (.lst ds), s1, o1.newM hp i1, rfl, q1 p (o1.freeM hp)⟩
abbrev FD := List Dv → M → QD → Prop
def spD (K : PySem.W.Frag) (F : FD) : Sp := fun vs H Q _ => ∃ I ds m, Ok K H I m ∧ IsAll K I vs ds ∧ F ds m (fun d m' => ∀ v H' I', Same I I' → Ok K H' I' m' → Is K I' v d → Q v H')
def dCall (F : FD) (t : TAd) : TD := fun δ m Q => t δ m fun ds m1 => F ds m1 Q
theorem mo_dCall {F : FD} (hF : MoA F) (h : Mo t) : Mo (dCall F t) := fun δ m Q Q' hq q => h δ m _ _ (fun ds m1 z => hF ds m1 Q Q' hq z) q
theorem de_call {k : Nat} {f : Addr} {fd : FuncData} {ps : List Str} {F : FD} {x : Str} {p : Pos} (hF : MoA F) (G : FnOk X.prog X.w X.K X.mg X.base CX0 k f fd ps (spD X.K F)) (hr : Room k X.A) (hg : Gl X x) (hm : X.mg x = some (.ref f)) (hk : PySem.W.keepIn X.K (.ref f) = true) (hb : Binds X.K fd ps [])
    (ha : DA X (e :: es) t) (hdb : (x == ("__debug__" : Str)) = false := by decide) (he : starEach (e :: es) X.env = (false, eval e X.env) :: starEach es X.env := by rfl)
    (hpl : (backTo pos (starEach es X.env)).any (·.1) = false := by rfl) : DE X (.Call (.Name x p) (e :: es) [] pos) (dCall F t) := by
  refine de_of (pe_call (hdb := hdb) (he := he) (hpl := hpl) G hr hg hm hk hb .nil pass0 ha.pa) (mo_dCall hF ha.mono) fun σ H I δ m Q ok rl q => ?_
  refine ⟨I, δ, m, ok, rl, ha.mono δ m _ _ (fun ds m1 q1 vs H1 I1 s1 o1 i1 => ?_) q⟩
  show spD X.K F (vs ++ []) H1 (Qd X.K I Q) E0
  rw [List.append_nil]
  exact ⟨I1, ds, m1, o1, i1, hF ds m1 _ _ (fun d m2 q2 v H2 I2 s2 o2 i2 => qd_same o2 (s1.trans s2) i2 q2) q1⟩
theorem liftA {e0 : Expr} {r : List V → Hp → VK → Prop} {rd : RAD} (h : PE X e0 (tCB r (upA X.K t))) (ha : Mo t) (o : OpA X.K r rd) : DE X e0 (fun δ m Q => t δ m fun ds m1 => rd ds m1 Q) := by
  refine de_of h (fun δ m Q Q' hq q => ha δ m _ _ (fun ds m1 z => o.mono ds m1 Q Q' hq z) q) fun σ H I δ m Q ok rl q => ?_
  refine ⟨I, δ, m, ok, rl, ha δ m _ _ (fun ds m1 q1 vs H1 I1 s1 o1 i1 => ?_) q⟩
  exact o.ok H1 I I1 m1 ds vs Q o1 s1 i1 q1
def dCB (rd : RAD) (t : TAd) : TD := fun δ m Q => t δ m fun ds m1 => rd ds m1 Q
theorem de_callB {x : Str} {p : Pos} {id : String} {r : List V → Hp → VK → Prop} {rd : RAD} (hc : CallR X (.builtin id) r) (o : OpA X.K r rd) (hg : Gl X x) (hm : X.mg x = none) (hv : bootBuiltins x = some (.builtin id)) (ha : DA X (e :: es) t) (hn : x ≠ "__name__" := by decide) (hdb : (x == ("__debug__" : Str)) = false := by decide)
    (he : starEach (e :: es) X.env = (false, eval e X.env) :: starEach es X.env := by rfl) (hpl : (backTo pos (starEach es X.env)).any (·.1) = false := by rfl) : DE X (.Call (.Name x p) (e :: es) [] pos) (dCB rd t) :=
  liftA (pe_callB hc hg hm hv ha.pa hn hdb he hpl) ha.mono o
theorem de_callTy {x : Str} {p : Pos} {T : String} {r : List V → Hp → VK → Prop} {rd : RAD} (hc : CallR X (.type T) r) (o : OpA X.K r rd) (hg : Gl X x) (hm : X.mg x = none) (hv : bootBuiltins x = some (.type T)) (ha : DA X (e :: es) t) (hn : x ≠ "__name__" := by decide) (hdb : (x == ("__debug__" : Str)) = false := by decide)
    (he : starEach (e :: es) X.env = (false, eval e X.env) :: starEach es X.env := by rfl) (hpl : (backTo pos (starEach es X.env)).any (·.1) = false := by rfl) : DE X (.Call (.Name x p) (e :: es) [] pos) (dCB rd t) :=
  liftA (pe_callTy hc hg hm hv ha.pa hn hdb he hpl) ha.mono o
end
section
variable {X : Cx} {st : Stmt} {rest : List Stmt} {t u : TSd} {e : Expr} {te : TD} {pos : Pos}
theorem ds_of {st : Stmt} {tp : TS} {t : TSd} (h : PS X st tp) (mo : MoS t) (i : ∀ σ H I δ m D, Ok X.K H I m → Rl X.K I σ δ → t (low X.K I D) δ m → tp D σ H) : DS X st t :=
  ⟨mo, PS.imp h fun D σ H ⟨I, δ, m, ok, rl, q⟩ => i σ H I δ m D ok rl q⟩
theorem dss_of {st : List Stmt} {tp : TS} {t : TSd} (h : PSs X st tp) (mo : MoS t) (i : ∀ σ H I δ m D, Ok X.K H I m → Rl X.K I σ δ → t (low X.K I D) δ m → tp D σ H) : DSs X st t :=
  ⟨mo, PSs.imp h fun D σ H ⟨I, δ, m, ok, rl, q⟩ => i σ H I δ m D ok rl q⟩
def sNext : TSd := fun D δ m => D.nx δ m
def sSeq (t u : TSd) : TSd := fun D δ m => t { D with nx := u D } δ m
theorem mo_sSeq (h1 : MoS t) (h2 : MoS u) : MoS (sSeq t u) := fun D D' δ m l q => h1 { D with nx := u D } { D' with nx := u D' } δ m ⟨fun δ m z => h2 D D' δ m l z, l.rt, l.bk, l.ct⟩ q
theorem dss_nil : DSs X [] sNext := dss_of pss_nil (fun _ _ _ _ l q => l.nx _ _ q) fun σ H I δ m D ok rl q => q σ H I (Same.refl _) ok rl
theorem dss_cons (h1 : DS X st t) (h2 : DSs X rest u) : DSs X (st :: rest) (sSeq t u) := by
  refine dss_of (pss_cons h1.ps h2.ps) (mo_sSeq h1.mono h2.mono) fun σ H I δ m D ok rl q => ?_
  refine ⟨I, δ, m, ok, rl, h1.mono { low X.K I D with nx := u (low X.K I D) } _ δ m ⟨fun δ' m' z σ' H' I' s' o' r' => ⟨I', δ', m', o', r', h2.mono _ _ δ' m' (low_le s' D) z⟩, fun _ _ z => z, fun _ _ z => z, fun _ _ z => z⟩ q⟩
theorem dss_one (h1 : DS X st t) : DSs X [st] t := ⟨h1.mono, pss_one h1.ps⟩
def sCont : TSd := fun D δ m => D.ct δ m
theorem ds_continue : DS X (.Continue pos) sCont := ds_of ps_continue (fun _ _ _ _ l q => l.ct _ _ q) fun σ H I δ m D ok rl q => q σ H I (Same.refl _) ok rl
def sNever : TSd := fun _ _ _ => False
theorem ds_never : DS X st sNever := ds_of ps_never (fun _ _ _ _ _ q => q) fun _ _ _ _ _ _ _ _ q => q
def sDrop (te : TD) : TSd := fun D δ m => te δ m fun _ m1 => D.nx δ m1
theorem ds_expr (he : DE X e te) (hs : swapsWith e none pos.line X.env = pure false := by rfl) : DS X (.Expr e pos) (sDrop te) := by
  refine ds_of (ps_expr he.pe hs) (fun D D' δ m l q => he.mono δ m _ _ (fun _ _ z => l.nx _ _ z) q) fun σ H I δ m D ok rl q => ?_
  exact ⟨I, δ, m, ok, rl, he.mono δ m _ _ (fun d m1 q1 v H1 I1 s1 o1 i1 => q1 σ H1 I1 s1 o1 (rl.same s1)) q⟩
def sRet (te : TD) : TSd := fun D δ m => te δ m D.rt
theorem ds_ret (he : DE X e te) : DS X (.Return (some e) pos) (sRet te) := by
  refine ds_of (ps_ret he.pe) (fun D D' δ m l q => he.mono δ m _ _ (fun _ _ z => l.rt _ _ z) q) fun σ H I δ m D ok rl q => ?_
  exact ⟨I, δ, m, ok, rl, he.mono δ m _ _ (fun d m1 q1 v H1 I1 s1 o1 i1 => q1 v H1 I1 s1 o1 i1) q⟩
def sIf (c : TBd) (t u : TSd) : TSd := fun D δ m => c δ m fun b m1 => if b = true then t D δ m1 else u D δ m1
theorem ds_if {c : Expr} {a b : List Stmt} {tc : TBd} (hc : DT X c tc) (ha : DSs X a t) (hb : DSs X b u) : DS X (.If c a b pos) (sIf tc t u) := by
  refine ds_of (ps_if hc.pt ha.ps hb.ps) (fun D D' δ m l q => hc.mono δ m _ _ (fun b m1 z => ?_) q) fun σ H I δ m D ok rl q => ?_
  · cases b with
    | true => exact iteT (ha.mono D D' δ m1 l (by simpa using z))
    | false => exact iteF (hb.mono D D' δ m1 l (by simpa using z))
  · refine ⟨I, δ, m, ok, rl, hc.mono δ m _ _ (fun b m1 q1 H1 I1 s1 o1 => ?_) q⟩
    cases b with
    | true => exact iteT ⟨I1, δ, m1, o1, rl.same s1, ha.mono _ _ δ m1 (low_le s1 D) (by simpa using q1)⟩
    | false => exact iteF ⟨I1, δ, m1, o1, rl.same s1, hb.mono _ _ δ m1 (low_le s1 D) (by simpa using q1)⟩
abbrev TGd := Dv → Dn → M → (Dn → M → Prop) → Prop
structure DG (X : Cx) (tg : Expr) (t : TGd) : Prop where
  mono : ∀ x δ m (Q Q' : Dn → M → Prop), (∀ δ m, Q δ m → Q' δ m) → t x δ m Q → t x δ m Q'
  pg : PG X tg (fun v σ H Q => ∃ I δ m x, Ok X.K H I m ∧ Rl X.K I σ δ ∧ Is X.K I v x ∧ t x δ m (fun δ' m' => ∀ σ' H' I', Same I I' → Ok X.K H' I' m' → Rl X.K I' σ' δ' → Q σ' H'))
def dgName (i : Nat) : TGd := fun x δ m Q => Q (δ.set i (some x)) m
theorem PG.imp {tg : Expr} {t t' : TG} (h : PG X tg t) (i : ∀ v σ H Q, t' v σ H Q → t v σ H Q) : PG X tg t' := fun pins s σ H v u Q J r q => h pins s σ H v u Q J r (i v σ H Q q)
theorem dg_name {i : Nat} {x : Str} (hN : X.N.Nodup) (hi : X.N[i]? = some x) (hx : Loc X.env.scope x) (hf : X.fn x = true ∨ X.env.scope.names.lookup x = some .local := by first | exact .inl rfl | exact .inr rfl | assumption) : DG X (.Name x pos) (dgName i) :=
  ⟨fun _ _ _ _ _ h q => h _ _ q, PG.imp (pg_name hN hi hx hf) fun v σ H Q ⟨I, δ, m, x, ok, rl, is, q⟩ => q _ H I (Same.refl _) ok (rl.set i is)⟩
abbrev TGds := List Dv → Dn → M → (Dn → M → Prop) → Prop
structure DGs (X : Cx) (ts : List Expr) (t : TGds) : Prop where
  mono : ∀ x δ m (Q Q' : Dn → M → Prop), (∀ δ m, Q δ m → Q' δ m) → t x δ m Q → t x δ m Q'
  pgs : PGs X ts (fun vs σ H Q => ∃ I δ m xs, Ok X.K H I m ∧ Rl X.K I σ δ ∧ IsAll X.K I vs xs ∧ t xs δ m (fun δ' m' => ∀ σ' H' I', Same I I' → Ok X.K H' I' m' → Rl X.K I' σ' δ' → Q σ' H'))
def dgNil : TGds := fun xs δ m Q => xs = [] ∧ Q δ m
def dgCons (t : TGd) (u : TGds) : TGds
  | x :: r, δ, m, Q => t x δ m fun δ' m' => u r δ' m' Q
  | [], _, _, _ => False
theorem PGs.imp {ts : List Expr} {t t' : TGs} (h : PGs X ts t) (i : ∀ v σ H Q, t' v σ H Q → t v σ H Q) : PGs X ts t' := fun pins s σ H v u Q J r q => h pins s σ H v u Q J r (i v σ H Q q)
theorem dgs_nil : DGs X [] dgNil := ⟨fun _ _ _ _ _ h ⟨e, q⟩ => ⟨e, h _ _ q⟩, PGs.imp pgs_nil fun vs σ H Q ⟨I, δ, m, xs, ok, rl, is, e, q⟩ => by
  subst e; cases is; exact ⟨rfl, q σ H I (Same.refl _) ok rl⟩⟩
theorem dgs_cons {e : Expr} {es : List Expr} {t : TGd} {u : TGds} (h1 : DG X e t) (h2 : DGs X es u)
    (hs : (assignEach (e :: es) X.env).map (·.2) = assign e X.env :: (assignEach es X.env).map (·.2) := by rfl) : DGs X (e :: es) (dgCons t u) := by
  refine ⟨fun xs δ m Q Q' h q => ?_, PGs.imp (pgs_cons h1.pg h2.pgs hs) fun vs σ H Q ⟨I, δ, m, xs, ok, rl, is, q⟩ => ?_⟩
  · cases xs with
    | nil => exact q.elim
    | cons x r => exact h1.mono x δ m _ _ (fun δ' m' z => h2.mono r δ' m' Q Q' h z) q
  · cases xs with
    | nil => exact q.elim
    | cons x r =>
      cases is with
      | cons i1 ir =>
        refine ⟨_, _, rfl, I, δ, m, x, ok, rl, i1, h1.mono x δ m _ _ (fun δ' m' z σ' H' I' s' o' r' => ?_) q⟩
        exact ⟨I', δ', m', r, o', r', IsAll.same s' ir, h2.mono r δ' m' _ _ (fun δ2 m2 z2 σ2 H2 I2 s2 o2 r2 => z2 σ2 H2 I2 (s'.trans s2) o2 r2) z⟩
def dgTup (n : Nat) (t : TGds) : TGd
  | .d (.tuple xs), δ, m, Q => xs.length = n ∧ t (xs.map .d) δ m Q
  | _, _, _, _ => False
theorem dg_tup {es : List Expr} {k : Nat} {t : TGds} {n : Nat} (hc : X.calm = true) (h : DGs X es t)
    (hn : (assignEach es X.env).length = n := by rfl) (hst : (assignEach es X.env).findIdx? (·.1) = none := by rfl) : DG X (.Tuple es k pos) (dgTup n t) := by
  have inv : ∀ {x δ m Q}, dgTup n t x δ m Q → ∃ xs, x = .d (.tuple xs) ∧ xs.length = n ∧ t (xs.map .d) δ m Q := fun {x δ m Q} q => by
    unfold dgTup at q; split at q
    · exact ⟨_, rfl, q⟩
    · exact q.elim
  refine ⟨fun x δ m Q Q' hq q => ?_, PG.imp (pg_tup hc h.pgs hn hst) fun v σ H Q ⟨I, δ, m, x, ok, rl, is, q⟩ => ?_⟩
  · obtain ⟨xs, rfl, hl, q⟩ := inv q
    exact ⟨hl, h.mono _ δ m Q Q' hq q⟩
  · obtain ⟨xs, rfl, hl, q⟩ := inv q
    cases (show Dp X.K I v (.tuple xs) from is) with
    | tup sq al =>
      exact ⟨_, _, rfl, SqT.same ok.im sq, by rw [paired_len (isAll_of al), List.length_map]; exact hl, I, δ, m, _, ok, rl, isAll_of al, q⟩
def sAsg (te : TD) (g : TGd) : TSd := fun D δ m => te δ m fun x m1 => g x δ m1 D.nx
theorem mo_sAsg {te : TD} {g : TGd} (h : Mo te) (hg : ∀ x δ m (Q Q' : Dn → M → Prop), (∀ δ m, Q δ m → Q' δ m) → g x δ m Q → g x δ m Q') : MoS (sAsg te g) := fun D D' δ m l q => h δ m _ _ (fun x m1 z => hg x δ m1 _ _ l.nx z) q
theorem ds_asg {tg e : Expr} {te : TD} {g : TGd} (he : DE X e te) (hg : DG X tg g) (hs : swapsWithSole [tg] e pos.line X.env = pure false := by rfl) (hw : swappedStores [tg] e X.env = pure none := by rfl)
    (h1 : (assignEach [tg] X.env).map (·.2) = [assign tg X.env] := by rfl) : DS X (.Assign [tg] e pos) (sAsg te g) := by
  refine ds_of (ps_asg he.pe hg.pg hs hw h1) (mo_sAsg he.mono hg.mono) fun σ H I δ m D ok rl q => ?_
  refine ⟨I, δ, m, ok, rl, he.mono δ m _ _ (fun x m1 q1 v H1 I1 s1 o1 i1 => ?_) q⟩
  exact ⟨I1, δ, m1, x, o1, rl.same s1, i1, hg.mono x δ m1 _ _ (fun δ2 m2 z σ2 H2 I2 s2 o2 r2 => z σ2 H2 I2 (s1.trans s2) o2 r2) q1⟩
theorem ds_set {i : Nat} {x : Str} {e : Expr} {te : TD} {pos' : Pos} (hN : X.N.Nodup) (hi : X.N[i]? = some x) (hx : Loc X.env.scope x) (he : DE X e te) (hs : swapsWith e (some (.Name x pos')) pos.line X.env = pure false := by rfl) (hf : X.fn x = true ∨ X.env.scope.names.lookup x = some .local := by first | exact .inl rfl | exact .inr rfl | assumption) :
    DS X (.Assign [.Name x pos'] e pos) (sAsg te (dgName i)) := by
  refine ds_of (ps_set hN hi hx he.pe hs hf) (mo_sAsg he.mono fun _ _ _ _ _ h q => h _ _ q) fun σ H I δ m D ok rl q => ?_
  exact ⟨I, δ, m, ok, rl, he.mono δ m _ _ (fun x m1 q1 v H1 I1 s1 o1 i1 => q1 _ H1 I1 s1 o1 ((rl.same s1).set i i1)) q⟩
end
end DL
namespace DL
open PySem PySem.Spec PyProof.Rows L2
section
variable {P : Program} {w : World} {K : PySem.W.Frag} {mg : Str → Option Value} {base : Heap}
def startD (N : List Str) (ds : List Dv) : Dn := ds.map some ++ List.replicate (N.length - ds.length) none
theorem rl_start {I : Hp} {N : List Str} {vs : List V} {ds : List Dv} (h : IsAll K I vs ds) : Rl K I (L2.start N vs) (startD N ds) := by
  unfold L2.start startD
  rw [paired_len h]
  refine paired_app ?_ ?_
  · have go : ∀ {vs : List V} {ds : List Dv}, IsAll K I vs ds → Paired (fun (v : Option V) (d : Option Dv) => ∀ x, d = some x → ∃ y, v = some y ∧ Is K I y x) (vs.map some) (ds.map some) := by
      intro vs ds h
      induction h with
      | nil => exact .nil
      | cons r t ih => exact .cons (fun x e => ⟨_, rfl, by cases e; exact r⟩) ih
    exact go h
  · have go : ∀ n : Nat, Paired (fun (v : Option V) (d : Option Dv) => ∀ x, d = some x → ∃ y, v = some y ∧ Is K I y x) (List.replicate n none) (List.replicate n none) := by
      intro n
      induction n with
      | zero => exact .nil
      | succ n ih => exact .cons (fun x e => by cases e) ih
    exact go _
theorem Fun.okD {x qual : Str} {st : Stmt} {f : Addr} {fd : FuncData} {N ps : List Str} {k : Nat} {F : FD} (G : Fun K x qual st f fd) (S : FnScope N ps (defScope st)) (hF : MoA F) (len : ∀ ds m Q, F ds m Q → ds.length = ps.length)
    (hbody : ∀ (cdv : Value) (A : Around) (outer : List Env) (s : Shared) (H : Hp) (E : XK), Room k (A.deeper (envOfC qual (defScope st) s.heap.objs.size f cdv)) →
      ∃ t, DSs (cxOf CX0 P w K mg base N qual (defScope st) f cdv A outer s H E).nox (defBody st) t ∧ ∀ ds m Q, F ds m Q → t { nx := fun _ m' => Q (.d .none) m', rt := Q } (startD N ds) m) : FnOk P w K mg base CX0 (k + 1) f fd ps (spD K F) := by
  refine G.ok S (fun vs H Q E h => ?_) (fun cdv A outer s H vs Q E hr h => ?_)
  · obtain ⟨I, ds, m, ok, is, q⟩ := h
    rw [paired_len is]
    exact len ds m _ q
  · obtain ⟨I, ds, m, ok, is, q⟩ := h
    obtain ⟨t, ht, hq⟩ := hbody cdv A outer s H E hr
    refine ⟨_, ht.ps, I, startD N ds, m, ok, rl_start is, ?_⟩
    refine ht.mono { nx := fun _ m' => ∀ v H' I', Same I I' → Ok K H' I' m' → Is K I' v (.d .none) → Q v H', rt := fun d m' => ∀ v H' I', Same I I' → Ok K H' I' m' → Is K I' v d → Q v H' } _ _ _ ⟨fun _ m' z σ' H' I' s' o' _ => z _ H' I' s' o' isN, fun _ _ z => z, fun _ _ z => z.elim, fun _ _ z => z.elim⟩ (hq ds m _ q)
end
structure ItD (K : PySem.W.Frag) (J : It) (xs : List Dv) (still : M → Prop) (I : Hp) : Prop where
  go : ∀ i H I' m, Same I I' → Ok K H I' m → still m → i < xs.length → J.go i H
  yld : ∀ i H I' m x H', Same I I' → Ok K H I' m → still m → J.yld i H x H' → ∃ I'' d, Same I' I'' ∧ Ok K H' I'' m ∧ (i < xs.length → xs[i]? = some d ∧ Is K I'' x d)
  stop : ∀ H I' m, Same I I' → Ok K H I' m → still m → J.stop xs.length H
abbrev TId := Dn → M → (List Dv → (M → Prop) → M → Prop) → Prop
abbrev MoI (w : TId) : Prop := ∀ δ m (R R' : List Dv → (M → Prop) → M → Prop), (∀ xs st m, R xs st m → R' xs st m) → w δ m R → w δ m R'
def upI (K : PySem.W.Frag) (w : TId) : TI := fun σ H R => ∃ I δ m, Ok K H I m ∧ Rl K I σ δ ∧ w δ m (fun xs still m' => ∀ J H' I', Same I I' → Ok K H' I' m' → ItD K J xs still I' → R J H')
structure DI (X : Cx) (tg iter : Expr) (w : TId) : Prop where
  mono : MoI w
  pi : PI X tg iter (upI X.K w)
theorem PI.imp {X : Cx} {tg e : Expr} {t t' : TI} (h : PI X tg e t) (i : ∀ σ H Q, t' σ H Q → t σ H Q) : PI X tg e t' := fun pins s σ H Q I q => h pins s σ H Q I (i σ H Q q)
section
variable {X : Cx} {tg : Expr} {pos : Pos}
def dRng1 (ta : TAd) : TId := fun δ m R => ta δ m fun ds m1 => ∃ j : Int, ds = [.d (.int j)] ∧ (-(2 ^ 62) ≤ j ∧ j < 2 ^ 62) ∧ R ((List.range j.toNat).map fun i => .d (.int ((i : Nat) : Int))) (fun _ => True) m1
theorem di_range1 {a : Expr} {ta : TAd} {p : Pos} (hg : Gl X "range") (hm : X.mg "range" = none) (ha : DA X [a] ta) (hs : starEach [a] X.env = [(false, eval a X.env)] := by rfl) : DI X tg (.Call (.Name "range" p) [a] [] pos) (dRng1 ta) := by
  refine ⟨fun δ m R R' h q => ha.mono δ m _ _ (fun ds m1 ⟨j, e, b, z⟩ => ⟨j, e, b, h _ _ _ z⟩) q, PI.imp (pi_range1 hg hm ha.pa hs) fun σ H R ⟨I, δ, m, ok, rl, q⟩ => ?_⟩
  refine ⟨I, δ, m, ok, rl, ha.mono δ m _ _ (fun ds m1 ⟨j, e, b, z⟩ vs H1 I1 s1 o1 i1 => ?_) q⟩
  subst e
  cases i1 with
  | cons h1 ht =>
    cases ht
    have h1 := h1.int
    subst h1
    refine ⟨j, rfl, b.1, b.2, z _ H1 I1 s1 o1 ⟨fun i H I' m _ _ _ hi => ?_, fun i H I' m x H' _ ok' _ y => ?_, fun H I' m _ _ _ => ?_⟩⟩
    · show i < j.toNat
      simpa [-Int.lt_toNat] using hi
    · obtain ⟨rfl, rfl⟩ := y
      refine ⟨I', .d (.int (i : Nat)), Same.refl _, ok', fun hi => ⟨?_, ?_⟩⟩
      · rw [List.length_map, List.length_range] at hi
        rw [List.getElem?_map, List.getElem?_range hi]; rfl
      · rw [Int.zero_add]; exact isI _
    · show j.toNat ≤ _
      simp
def dItL (tl : TD) : TId := fun δ m R => tl δ m fun x m1 => ∃ xs, x = .d (.list xs) ∧ R (xs.map .d) (fun _ => True) m1
theorem di_list {l : Expr} {tl : TD} (hl : DE X l tl) : DI X tg l (dItL tl) := by
  refine ⟨fun δ m R R' h q => hl.mono δ m _ _ (fun x m1 ⟨xs, e, z⟩ => ⟨xs, e, h _ _ _ z⟩) q, PI.imp (pi_list hl.pe) fun σ H R ⟨I, δ, m, ok, rl, q⟩ => ?_⟩
  refine ⟨I, δ, m, ok, rl, hl.mono δ m _ _ (fun x m1 ⟨xs, e, z⟩ v H1 I1 s1 o1 i1 => ?_) q⟩
  subst e
  cases (show Dp X.K I1 v (.list xs) from i1) with
  | @lst a vs _ sq al =>
    refine ⟨a, rfl, ⟨vs, Same.seq o1.im sq⟩, z _ H1 I1 s1 o1 ⟨fun i H I' m s' o' _ hi => ?_, fun i H I' m x H' s' o' _ y => ?_, fun H I' m s' o' _ => ?_⟩⟩
    · rw [List.length_map, ← List.length_map (f := Dv.d), ← paired_len (isAll_of al)] at hi
      exact ⟨vs, vs[i], Same.seq (s'.trans o'.im) sq, by simp [hi]⟩
    · obtain ⟨rfl, y⟩ := y
      have hx := y vs (Same.seq (s'.trans o'.im) sq)
      have hb : i < vs.length := (List.getElem?_eq_some_iff.mp hx).1
      have hb2 : i < (xs.map Dv.d).length := by rw [← paired_len (isAll_of al)]; exact hb
      obtain ⟨v', h1, h2⟩ := paired_get (isAll_of al) (List.getElem?_eq_getElem hb2)
      rw [hx] at h1; cases h1
      exact ⟨I', _, Same.refl _, o', fun _ => ⟨List.getElem?_eq_getElem hb2, h2.same s'⟩⟩
    · exact ⟨vs, Same.seq (s'.trans o'.im) sq, by rw [paired_len (isAll_of al)]; exact Nat.le_refl _⟩
theorem Ok.lst {K : PySem.W.Frag} {H I : Hp} {m : M} {a : Addr} {xs : List Dv} (ok : Ok K H I m) (h : m a = some (.lst xs)) : ∃ vs, H a = some (.lst vs) ∧ IsAll K I vs xs := by
  obtain ⟨o, h1, h2⟩ := ok.mu a _ h
  cases o <;> first | exact h2.elim | exact ⟨_, h1, h2⟩
def dItS (tl : TD) : TId := fun δ m R => tl δ m fun x m1 => ∃ s : Str, x = .d (.str s) ∧ R (s.cps.toList.map fun c => .d (.str ⟨#[c]⟩)) (fun _ => True) m1
theorem di_str {l : Expr} {tl : TD} (hl : DE X l tl) : DI X tg l (dItS tl) := by
  refine ⟨fun δ m R R' h q => hl.mono δ m _ _ (fun x m1 ⟨xs, e, z⟩ => ⟨xs, e, h _ _ _ z⟩) q, PI.imp (pi_str hl.pe) fun σ H R ⟨I, δ, m, ok, rl, q⟩ => ?_⟩
  refine ⟨I, δ, m, ok, rl, hl.mono δ m _ _ (fun x m1 ⟨xs, e, z⟩ v H1 I1 s1 o1 i1 => ?_) q⟩
  subst e
  have h1 := i1.str
  subst h1
  refine ⟨xs, rfl, z _ H1 I1 s1 o1 ⟨fun i H I' m s' o' _ hi => ?_, fun i H I' m x H' s' o' _ y => ?_, fun H I' m s' o' _ => ?_⟩⟩
  · show i < xs.cps.size
    simpa using hi
  · obtain ⟨rfl, c, hc, rfl⟩ := y
    refine ⟨I', .d (.str ⟨#[c]⟩), Same.refl _, o', fun hi => ⟨?_, isS _⟩⟩
    rw [List.getElem?_map]
    have : xs.cps.toList[i]? = some c := by simpa using hc
    rw [this]; rfl
  · show xs.cps.size ≤ _
    simp
def sFor (w : TId) (g : TGd) (tb : TSd) : TSd := fun D δ m => w δ m fun xs still m1 => ∃ Pv : Nat → Dn → M → Prop, Pv 0 δ m1 ∧ (∀ i δ m, Pv i δ m → still m) ∧
  (∀ i x δ m, xs[i]? = some x → Pv i δ m → g x δ m fun δ2 m2 => tb { D with nx := Pv (i + 1), ct := Pv (i + 1), bk := D.nx } δ2 m2) ∧ ∀ δ m, Pv xs.length δ m → D.nx δ m
theorem ds_for {iter : Expr} {body : List Stmt} {w : TId} {g : TGd} {tb : TSd} (hp : PassesOwn (model X.prog X.w) X.A X.env X.xe) (hc : X.calm = true) (hi : DI X tg iter w) (hg : DG X tg g) (hb : DSs X body tb)
    (hs : ∀ x, foldedSetIterable iter X.env x = pure x := by intro _; rfl) : DS X (.For tg iter body [] pos) (sFor w g tb) := by
  refine ds_of (ps_for hp hc hi.pi hg.pg hb.ps hs) (fun D D' δ m l q => hi.mono δ m _ _ (fun xs st m1 ⟨Pv, p0, ps, pt, pd⟩ => ⟨Pv, p0, ps, fun i x δ m hx p => hg.mono x δ m _ _ (fun δ2 m2 z => hb.mono { D with nx := Pv (i + 1), ct := Pv (i + 1), bk := D.nx } _ δ2 m2 ⟨fun _ _ z => z, l.rt, l.nx, fun _ _ z => z⟩ z) (pt i x δ m hx p), fun δ m p => l.nx _ _ (pd δ m p)⟩) q) fun σ H I δ m D ok rl q => ?_
  refine ⟨I, δ, m, ok, rl, hi.mono δ m _ _ (fun xs st m1 ⟨Pv, p0, ps, pt, pd⟩ J H1 I1 s1 o1 it => ?_) q⟩
  refine ⟨fun i n σ' H' => n = xs.length - i ∧ i ≤ xs.length ∧ ∃ I' δ' m', Same I1 I' ∧ Ok X.K H' I' m' ∧ Rl X.K I' σ' δ' ∧ Pv i δ' m', ⟨xs.length, by simp, Nat.zero_le _, I1, δ, m1, Same.refl _, o1, rl.same s1, p0⟩, ?_⟩
  rintro i n σ2 H2 ⟨rfl, hi2, I2, δ2, m2, s2, o2, r2, p2⟩
  have st2 := ps i δ2 m2 p2
  by_cases hlt : i < xs.length
  · refine .inr ⟨it.go i H2 I2 m2 s2 o2 st2 hlt, fun σ' H' => ∃ I' δ' m', Same I1 I' ∧ Ok X.K H' I' m' ∧ Rl X.K I' σ' δ' ∧ Pv (i + 1) δ' m', fun σ' H' z => ⟨xs.length - (i + 1), by omega, rfl, hlt, z⟩, fun x H' y => ?_⟩
    obtain ⟨I3, d, s3, o3, hd⟩ := it.yld i H2 I2 m2 x H' s2 o2 st2 y
    obtain ⟨hx, ix⟩ := hd hlt
    refine ⟨I3, δ2, m2, d, o3, r2.same s3, ix, hg.mono d δ2 m2 _ _ (fun δ4 m4 z σ4 H4 I4 s4 o4 r4 => ?_) (pt i d δ2 m2 hx p2)⟩
    refine ⟨I4, δ4, m4, o4, r4, hb.mono { low X.K I D with nx := Pv (i + 1), ct := Pv (i + 1), bk := (low X.K I D).nx } _ δ4 m4 ⟨fun δ5 m5 z σ5 H5 I5 s5 o5 r5 => ?_, fun d5 m5 z v5 H5 I5 s5 => ?_, fun δ5 m5 z σ5 H5 I5 s5 => ?_, fun δ5 m5 z σ5 H5 I5 s5 o5 r5 => ?_⟩ z⟩
    · exact ⟨I5, δ5, m5, ((s2.trans s3).trans s4).trans s5, o5, r5, z⟩
    · exact z v5 H5 I5 ((((s1.trans s2).trans s3).trans s4).trans s5)
    · exact z σ5 H5 I5 ((((s1.trans s2).trans s3).trans s4).trans s5)
    · exact ⟨I5, δ5, m5, ((s2.trans s3).trans s4).trans s5, o5, r5, z⟩
  · have e : i = xs.length := by omega
    subst e
    exact .inl ⟨it.stop H2 I2 m2 s2 o2 st2, pd δ2 m2 p2 σ2 H2 I2 (s1.trans s2) o2 r2⟩
end
end DL
namespace DL
open PySem PySem.Spec PyProof.Rows L2
def delM (m : M) (a : Addr) : M := fun b => if b = a then none else m b
theorem delM_same {m : M} {a : Addr} : delM m a a = none := by unfold delM; rw [if_pos rfl]
theorem delM_ne {m : M} {a b : Addr} (h : b ≠ a) : delM m a b = m b := by unfold delM; rw [if_neg h]
theorem delM_setM {m : M} {a : Addr} {o : MO} (h : m a = none) : delM (setM m a o) a = m := by
  funext b
  by_cases e : b = a
  · subst e; rw [delM_same, h]
  · rw [delM_ne e, setM_ne e]
theorem setM_delM {m : M} {a : Addr} {o : MO} (h : m a = some o) : setM (delM m a) a o = m := by
  funext b
  by_cases e : b = a
  · subst e; rw [setM_same, h]
  · rw [setM_ne e, delM_ne e]
theorem setM_setM {m : M} {a : Addr} {o o' : MO} : setM (setM m a o) a o' = setM m a o' := by
  funext b
  by_cases e : b = a
  · subst e; rw [setM_same, setM_same]
  · rw [setM_ne e, setM_ne e, setM_ne e]
def wipeD (δ : Dn) : List Nat → Dn
  | [] => δ
  | v :: vs => (wipeD δ vs).set v none
theorem Rl.wipe {K : PySem.W.Frag} {I : Hp} {σ : St} {δ : Dn} (h : Rl K I σ δ) : ∀ vs : List Nat, Rl K I (wipe σ vs) (wipeD δ vs)
  | [] => h
  | v :: vs => paired_set (fun x e => by cases e) v (Rl.wipe h vs)
theorem Ok.freeze {K : PySem.W.Frag} {H I : Hp} {m : M} {p : Addr} {xs : List PyData} (ok : Ok K H I m) (hp : m p = some (.lst (xs.map .d))) :
    ∃ I', Same I I' ∧ Ok K H I' (delM m p) ∧ Is K I' (.ref p) (.d (.list xs)) := by
  obtain ⟨vs, hv, al⟩ := ok.lst hp
  have hI : I p = none := by
    cases e : I p with
    | none => rfl
    | some u => have := ok.dj p u e; rw [hp] at this; cases this
  have sm : Same I (upd I p (.lst vs)) := same_new (H := H) hI
  refine ⟨upd I p (.lst vs), sm, ⟨fun a o e => ?_, fun a o e => ?_, fun a q e => ?_⟩, Dp.lst (SqL.of upd_same) (DpAll.same sm (dpAll_of al))⟩
  · by_cases h : a = p
    · subst h; rw [upd_same] at e; cases e; exact hv
    · rw [upd_ne h] at e; exact ok.im a o e
  · by_cases h : a = p
    · subst h; exact delM_same
    · rw [upd_ne h] at e; rw [delM_ne h]; exact ok.dj a o e
  · have h : a ≠ p := fun z => by subst z; rw [delM_same] at e; cases e
    rw [delM_ne h] at e
    obtain ⟨o, h1, h2⟩ := ok.mu a q e
    exact ⟨o, h1, h2.same sm⟩
def dLc (w : TId) (g : TGd) (tt : TBd) (te : TD) (vs : List Nat) : TD := fun δ m Q => w δ m fun xs still m1 => xs.length ≤ 16777216 ∧ ∀ D, m1 D = none → ∃ Pv : Nat → List PyData → M → Prop, Pv 0 [] m1 ∧
  (∀ i acc m, Pv i acc m → m D = none ∧ still (setM m D (.lst (acc.map .d)))) ∧
  (∀ i x acc m, xs[i]? = some x → Pv i acc m → g x (wipeD δ vs) (setM m D (.lst (acc.map .d))) fun δ2 m2 => tt δ2 m2 fun b m3 => if b = true then te δ2 m3 fun y m4 => ∃ z, y = .d z ∧ m4 D = some (.lst (acc.map .d)) ∧ Pv (i + 1) (acc ++ [z]) (delM m4 D)
    else m3 D = some (.lst (acc.map .d)) ∧ Pv (i + 1) acc (delM m3 D)) ∧ ∀ acc m, Pv xs.length acc m → Q (.d (.list acc)) m
section
variable {X : Cx}
def dYes : TBd := fun _ m Q => Q true m
structure DTs (X : Cx) (ifs : List Expr) (t : TBd) : Prop where
  mono : Mo t
  pts : PTs X ifs (upB X.K t)
theorem dts_nil : DTs X [] dYes := ⟨fun _ _ _ _ h q => h _ _ q, fun pins s σ H Q J ⟨I, δ, m, ok, rl, q⟩ => pts_nil pins s σ H Q J (q H I (Same.refl _) ok)⟩
theorem dts_one {c : Expr} {t : TBd} (h : DT X c t) : DTs X [c] t := ⟨h.mono, pts_one h.pt⟩
theorem mo_dLc {w : TId} {g : TGd} {tt : TBd} {te : TD} {vs : List Nat} (hw : MoI w) : Mo (dLc w g tt te vs) := fun δ m Q Q' hq q =>
  hw δ m _ _ (fun xs st m1 ⟨hl, z⟩ => ⟨hl, fun D hD => let ⟨Pv, p0, ps, pt, pd⟩ := z D hD; ⟨Pv, p0, ps, pt, fun acc m p => hq _ _ (pd acc m p)⟩⟩) q
theorem wipe_set1 {σ : St} {i : Nat} {v : V} : wipe ((wipe σ [i]).set i (some v)) [i] = wipe σ [i] := by
  show (((σ.set i none).set i (some v)).set i none) = σ.set i none
  simp
theorem lc_up {w : TId} {g : TGd} {gH : TG} {tt : TBd} {te : TD} {vs : List Nat} {σ : St} {H I : Hp} {δ : Dn} {m : M} {Q : QD} (hw : MoI w) (ht : Mo tt) (he : Mo te)
    (gm : ∀ x δ m (Q Q' : Dn → M → Prop), (∀ δ m, Q δ m → Q' δ m) → g x δ m Q → g x δ m Q')
    (gok : ∀ x v H I δ m (R : Dn → M → Prop), Ok X.K H I m → Rl X.K I (wipe σ vs) δ → Is X.K I v x → g x δ m R → gH v (wipe σ vs) H fun σ2 H2 => wipe σ2 vs = wipe σ vs ∧ H2 = H ∧ ∃ δ2, Rl X.K I σ2 δ2 ∧ R δ2 m)
    (gmono : ∀ v σ H (R R' : St → Hp → Prop), (∀ σ H, R σ H → R' σ H) → gH v σ H R → gH v σ H R')
    (ok : Ok X.K H I m) (rl : Rl X.K I σ δ) (q : dLc w g tt te vs δ m Q) : tLc (upI X.K w) gH (upB X.K tt) (up X.K te) vs σ H (Qd X.K I Q) := by
  refine ⟨I, δ, m, ok, rl, hw δ m _ _ (fun xs st m1 ⟨hlen, z⟩ J H1 I1 s1 o1 it D hD => ?_) q⟩
  obtain ⟨Pv, p0, ps, pt, pd⟩ := z D (o1.freeM hD)
  have hz : sizeLine = 16777216 := sizeLine_eq
  refine ⟨fun i n H2 => n = xs.length - i ∧ i ≤ xs.length ∧ ∃ I2 acc m2, Same I1 I2 ∧ Ok X.K H2 I2 (setM m2 D (.lst (acc.map .d))) ∧ acc.length ≤ i ∧ Pv i acc m2, ⟨xs.length, by simp, Nat.zero_le _, I1, [], m1, Same.refl _, by exact o1.newM hD (show IsAll X.K I1 [] [] from .nil), Nat.le_refl _, p0⟩, ?_⟩
  rintro i n H2 ⟨rfl, hi2, I2, acc, m2, s2, o2, ha, p2⟩
  obtain ⟨hD2, st2⟩ := ps i acc m2 p2
  by_cases hlt : i < xs.length
  · refine .inr ⟨it.go i H2 I2 _ s2 o2 st2 hlt, fun H' => ∃ I' acc' m', Same I1 I' ∧ Ok X.K H' I' (setM m' D (.lst (acc'.map .d))) ∧ acc'.length ≤ i + 1 ∧ Pv (i + 1) acc' m', fun H' z => ⟨xs.length - (i + 1), by omega, rfl, hlt, z⟩, fun x H' y => ?_⟩
    obtain ⟨I3, d, s3, o3, hd⟩ := it.yld i H2 I2 _ x H' s2 o2 st2 y
    obtain ⟨hx, ix⟩ := hd hlt
    refine gmono _ _ _ _ _ (fun σ4 H4 z4 => ?_) (gok d x H' I3 (wipeD δ vs) _ _ o3 (((rl.same s1).same (s2.trans s3)).wipe vs) ix (pt i d acc m2 hx p2))
    obtain ⟨e4, rfl, δ4, r4, z4⟩ := z4
    refine ⟨e4, I3, δ4, _, o3, r4, ht _ _ _ _ (fun b m5 z5 H5 I5 s5 o5 => ?_) z4⟩
    cases b with
    | false =>
      obtain ⟨z5, p5⟩ : m5 D = some (.lst (acc.map .d)) ∧ Pv (i + 1) acc (delM m5 D) := by simpa using z5
      exact iteF ⟨I5, acc, delM m5 D, (s2.trans s3).trans s5, by rw [setM_delM z5]; exact o5, by omega, p5⟩
    | true =>
      refine iteT ⟨I5, δ4, m5, o5, r4.same s5, he _ _ _ _ (fun y6 m6 z6 v6 H6 I6 s6 o6 i6 => ?_) (show te δ4 m5 _ by simpa using z5)⟩
      obtain ⟨w6, rfl, hm6, p6⟩ := z6
      obtain ⟨ws, hw6, bl⟩ := o6.lst hm6
      have hlen2 : ws.length = acc.length := by rw [paired_len bl, List.length_map]
      refine ⟨ws, hw6, by rw [hlen2]; omega, I6, acc ++ [w6], delM m6 D, ((s2.trans s3).trans s5).trans s6, ?_, by rw [List.length_append]; simpa using ha, p6⟩
      have e6 : setM (delM m6 D) D (.lst ((acc ++ [w6]).map .d)) = setM m6 D (.lst ((acc ++ [w6]).map .d)) := by
        funext b
        by_cases e : b = D
        · subst e; rw [setM_same, setM_same]
        · rw [setM_ne e, setM_ne e, delM_ne e]
      rw [e6]
      exact o6.put hm6 (by rw [List.map_append]; exact paired_app bl (.cons i6 .nil))
  · have e : i = xs.length := by omega
    subst e
    refine .inl ⟨it.stop H2 I2 _ s2 o2 st2, ?_⟩
    obtain ⟨I3, s3, o3, is3⟩ := o2.freeze setM_same
    rw [delM_setM hD2] at o3
    exact ⟨I3, _, m2, (s1.trans s2).trans s3, o3, is3, pd acc m2 p2⟩
theorem gok1 {K : PySem.W.Frag} {σ : St} {i : Nat} : ∀ (x : Dv) (v : V) (H I : Hp) (δ : Dn) (m : M) (R : Dn → M → Prop), Ok K H I m → Rl K I (wipe σ [i]) δ → Is K I v x → dgName i x δ m R → gName i v (wipe σ [i]) H fun σ2 H2 => wipe σ2 [i] = wipe σ [i] ∧ H2 = H ∧ ∃ δ2, Rl K I σ2 δ2 ∧ R δ2 m :=
  fun x v H I δ m R ok rl is q => ⟨wipe_set1, rfl, δ.set i (some x), rl.set i is, q⟩
variable {elt iter : Expr} {ifs : List Expr} {scope : Scope} {pos ppos : Pos} {w : TId} {tt : TBd} {te : TD} {x : Str} {i : Nat}
theorem de_lc (hc : X.calm = true) (hN : X.N.Nodup) (hi : DI X (.Name x ppos) iter w) (ok : BlkOk X.N X.env.scope scope [(x, i)])
    (hx : X.N[i]? = some x) (hl : ∀ (s : Shared) (H : Hp) (C : Addr) (cl : List (Str × Addr)) (fp : List Addr), (X.blk s H scope (compEnvC scope cl C X.env) fp).env.scope.names.lookup x = some .local)
    (ht : ∀ (s : Shared) (H : Hp) (C : Addr) (cl : List (Str × Addr)) (fp : List Addr), DTs (X.blk s H scope (compEnvC scope cl C X.env) fp) ifs tt)
    (he : ∀ (s : Shared) (H : Hp) (C : Addr) (cl : List (Str × Addr)) (fp : List Addr), DE (X.blk s H scope (compEnvC scope cl C X.env) fp) elt te) (hs : ∀ x, foldedSetIterable iter X.env x = pure x := by intro _; rfl) :
    DE X (.ListComp elt [⟨.Name x ppos, iter, ifs, 0⟩] scope pos) (dLc w (dgName i) tt te [i]) := by
  refine de_of (pe_lc (own := [(x, i)]) (g := gName i) (tt := upB X.K tt) (te := up X.K te) hc hN hi.pi ok (fun s H C cl fp => pg_name hN hx (.inl (hl s H C cl fp)) (.inr (hl s H C cl fp))) (fun s H C cl fp => (ht s H C cl fp).pts) (fun s H C cl fp => (he s H C cl fp).pe) hs) (mo_dLc hi.mono) fun σ H I δ m Q o r q => ?_
  have ht' : Mo tt := (ht X.s_0 X.H_0 0 [] []).mono
  have he' : Mo te := (he X.s_0 X.H_0 0 [] []).mono
  exact lc_up (X := X) (g := dgName i) (gH := gName i) (vs := [i]) hi.mono ht' he' (fun _ _ _ _ _ h q => h _ _ q) gok1 (fun _ _ _ _ _ h q => h _ _ q) o r q
theorem ds_setLc {k : Nat} {y : Str} {py spos : Pos} (hc : X.calm = true) (hN : X.N.Nodup) (hy : X.N[k]? = some y) (hyl : X.env.scope.names.lookup y = some .local)
    (hsw : swapsWith (.ListComp elt [⟨.Name x ppos, iter, ifs, 0⟩] scope pos) (some (.Name y py)) spos.line X.env = pure true) (hi : DI X (.Name x ppos) iter w) (ok : BlkOk X.N X.env.scope scope [(x, i)])
    (hx : X.N[i]? = some x) (hl : ∀ (s : Shared) (H : Hp) (C : Addr) (cl : List (Str × Addr)) (fp : List Addr), (X.blk s H scope (compEnvC scope cl C X.env) fp).env.scope.names.lookup x = some .local)
    (ht : ∀ (s : Shared) (H : Hp) (C : Addr) (cl : List (Str × Addr)) (fp : List Addr), DTs (X.blk s H scope (compEnvC scope cl C X.env) fp) ifs tt)
    (he : ∀ (s : Shared) (H : Hp) (C : Addr) (cl : List (Str × Addr)) (fp : List Addr), DE (X.blk s H scope (compEnvC scope cl C X.env) fp) elt te) (hs : ∀ x, foldedSetIterable iter X.env x = pure x := by intro _; rfl) :
    DS X (.Assign [.Name y py] (.ListComp elt [⟨.Name x ppos, iter, ifs, 0⟩] scope pos) spos) (sAsg (dLc w (dgName i) tt te [i]) (dgName k)) := by
  have ht' : Mo tt := (ht X.s_0 X.H_0 0 [] []).mono
  have he' : Mo te := (he X.s_0 X.H_0 0 [] []).mono
  refine ds_of (ps_setLc (own := [(x, i)]) (g := gName i) (tt := upB X.K tt) (te := up X.K te) hc hN hy hyl hsw hi.pi ok (fun s H C cl fp => pg_name hN hx (.inl (hl s H C cl fp)) (.inr (hl s H C cl fp))) (fun s H C cl fp => (ht s H C cl fp).pts) (fun s H C cl fp => (he s H C cl fp).pe) hs) (mo_sAsg (mo_dLc hi.mono) fun _ _ _ _ _ h q => h _ _ q) fun σ H I δ m D o r q => ?_
  have mono : ∀ σ H (Q Q' : VK), (∀ v H, Q v H → Q' v H) → tLc (upI X.K w) (gName i) (upB X.K tt) (up X.K te) [i] σ H Q → tLc (upI X.K w) (gName i) (upB X.K tt) (up X.K te) [i] σ H Q' := by
    rintro σ H Q Q' hq ⟨I, δ, m, o, r, z⟩
    refine ⟨I, δ, m, o, r, hi.mono δ m _ _ (fun xs st m1 z J H' I' s' o' it D hD => ?_) z⟩
    obtain ⟨W, w0, turn⟩ := z J H' I' s' o' it D hD
    refine ⟨W, w0, fun i m H hw => ?_⟩
    rcases turn i m H hw with ⟨a, b⟩ | b
    · exact .inl ⟨a, hq _ _ b⟩
    · exact .inr b
  refine mono σ H _ _ (fun v H' ⟨I', d, m', s', o', is', q'⟩ => ?_) (lc_up (X := X) (g := dgName i) (gH := gName i) (vs := [i]) (Q := fun d m' => dgName k d δ m' (low X.K I D).nx) hi.mono ht' he' (fun _ _ _ _ _ h q => h _ _ q) gok1 (fun _ _ _ _ _ h q => h _ _ q) o r q)
  exact q' _ H' I' s' o' ((r.same s').set k is')
end
end DL
namespace DL
open PySem PySem.Spec PyProof.Rows L2
theorem atI_all {α β : Type} {R : α → β → Prop} {xs : List α} {ys : List β} (h : Paired R xs ys) {i : Int} {y : β} (e : atI ys i = some y) : ∃ x, atI xs i = some x ∧ R x y := by
  have hl := paired_len h
  unfold atI at e ⊢
  rw [hl]
  cases q : ixN ys.length i with
  | none => rw [q] at e; cases e
  | some j =>
    rw [q] at e
    obtain ⟨x, h1, h2⟩ := paired_get h (show ys[j]? = some y from e)
    exact ⟨x, h1, h2⟩
theorem atI_map {α β : Type} (f : α → β) (xs : List α) (i : Int) : atI (xs.map f) i = (atI xs i).map f := by
  unfold atI
  rw [List.length_map]
  cases ixN xs.length i with
  | none => rfl
  | some j => simp [Option.bind]
def gIx : R2D
  | .d (.list xs), .d (.int i), m, Q => ∃ v, atI xs i = some v ∧ Q (.d v) m
  | .d (.tuple xs), .d (.int i), m, Q => ∃ v, atI xs i = some v ∧ Q (.d v) m
  | .d (.str z), .d (.int i), m, Q => z.length ≤ 16777216 ∧ ∃ c, atI z.cps.toList i = some c ∧ Q (.d (.str ⟨#[c]⟩)) m
  | .r a, .d (.int i), m, Q => ∃ xs, m a = some (.lst xs) ∧ ∃ v, atI xs i = some v ∧ Q v m
  | _, _, _, _ => False
theorem o2_ix {K : PySem.W.Frag} : Op2 K (rIx K) gIx := by
  refine ⟨fun x y m Q Q' h q => ?_, fun H I0 I m x y v w Q ok s hx hy q => ?_⟩
  · unfold gIx at q ⊢
    split at q
    · obtain ⟨v, e, q⟩ := q; exact ⟨v, e, h _ _ q⟩
    · obtain ⟨v, e, q⟩ := q; exact ⟨v, e, h _ _ q⟩
    · obtain ⟨hz, v, e, q⟩ := q; exact ⟨hz, v, e, h _ _ q⟩
    · obtain ⟨xs, e1, v, e, q⟩ := q; exact ⟨xs, e1, v, e, h _ _ q⟩
    · exact q.elim
  · unfold gIx at q
    split at q
    · obtain ⟨z, e, q⟩ := q
      cases (show Dp K I v (.list _) from hx) with
      | lst sq al =>
        obtain ⟨u, h1, h2⟩ := atI_all (isAll_of al) (show atI (List.map Dv.d _) _ = some (Dv.d z) from (atI_map Dv.d _ _).trans (by rw [e]; rfl))
        exact .inl ⟨_, _, _, u, rfl, hy.int, Same.seq ok.im sq, h1, qd_same ok s h2 q⟩
    · obtain ⟨z, e, q⟩ := q
      cases (show Dp K I v (.tuple _) from hx) with
      | tup sq al =>
        obtain ⟨u, h1, h2⟩ := atI_all (isAll_of al) (show atI (List.map Dv.d _) _ = some (Dv.d z) from (atI_map Dv.d _ _).trans (by rw [e]; rfl))
        exact .inr (.inl ⟨_, _, _, u, rfl, hy.int, SqT.same ok.im sq, h1, qd_same ok s h2 q⟩)
    · obtain ⟨hz, c, e, q⟩ := q
      exact .inr (.inr ⟨_, _, c, hx.str, hy.int, by rw [sizeLine_eq]; exact hz, e, qd_same ok s (isS _) q⟩)
    · obtain ⟨xs, e1, z, e, q⟩ := q
      have hx : v = .ref _ := hx
      subst hx
      obtain ⟨vs, hv, al⟩ := ok.lst e1
      obtain ⟨u, h1, h2⟩ := atI_all al e
      exact .inl ⟨_, vs, _, u, rfl, hy.int, SqL.of hv, h1, qd_same ok s h2 q⟩
    · exact q.elim
section
variable {X : Cx} {a b e : Expr} {ta tb te : TD} {pos : Pos}
theorem de_ix (ha : DE X a ta) (hb : DE X b tb) (hs : PlainIx b := by intro _ _; rfl) : DE X (.Subscript a b pos) (dOp gIx ta tb) := lift2 (pe_ix ix_seq ha.pe hb.pe hs) ha hb o2_ix
def gSetI (v : Dv) (δ : Dn) (Q : Dn → M → Prop) : Dv → Dv → M → Prop
  | .r a, .d (.int k), m => ∃ xs, m a = some (.lst xs) ∧ ∃ j, ixN xs.length k = some j ∧ Q δ (setM m a (.lst (xs.set j v)))
  | _, _, _ => False
theorem gSetI_inv {v : Dv} {δ : Dn} {Q : Dn → M → Prop} {o i : Dv} {m : M} (h : gSetI v δ Q o i m) : ∃ a k xs j, o = .r a ∧ i = .d (.int k) ∧ m a = some (.lst xs) ∧ ixN xs.length k = some j ∧ Q δ (setM m a (.lst (xs.set j v))) := by
  unfold gSetI at h; split at h
  · obtain ⟨xs, e, j, e2, q⟩ := h; exact ⟨_, _, xs, j, rfl, rfl, e, e2, q⟩
  · exact h.elim
def dgSub (to ti : TD) : TGd := fun v δ m Q => to δ m fun o m1 => ti δ m1 fun i m2 => gSetI v δ Q o i m2
theorem dg_sub {o i : Expr} {to ti : TD} (ho : DE X o to) (hi : DE X i ti)
    (ha : ∀ v, assign (.Subscript o i pos) X.env v = (do
      let ov ← holding [v] (eval o X.env)
      let iv ← holding [v, ov] (eval i X.env)
      standAt pos
      holding [v, ov, iv] (setItem ov iv v)
      release [v, ov, iv] []) := by intro _; rfl) : DG X (.Subscript o i pos) (dgSub to ti) := by
  refine ⟨fun x δ m Q Q' h q => ho.mono δ m _ _ (fun o m1 q1 => hi.mono δ m1 _ _ (fun i m2 q2 => by
    obtain ⟨a, k, xs, j, rfl, rfl, e3, e4, q2⟩ := gSetI_inv q2
    exact ⟨xs, e3, j, e4, h _ _ q2⟩) q1) q, PG.imp (pg_sub ho.pe hi.pe set_list ha) fun v σ H Q ⟨I, δ, m, x, ok, rl, is, q⟩ => ?_⟩
  refine ⟨I, δ, m, ok, rl, ho.mono δ m _ _ (fun o m1 q1 v1 H1 I1 s1 o1 i1 => ?_) q⟩
  refine ⟨I1, δ, m1, o1, rl.same s1, hi.mono δ m1 _ _ (fun i m2 q2 v2 H2 I2 s2 o2 i2 => ?_) q1⟩
  obtain ⟨a, k, xs, j, rfl, rfl, e3, e4, q2⟩ := gSetI_inv q2
  have i1 : v1 = .ref a := i1
  subst i1
  obtain ⟨vs, hv, al⟩ := o2.lst e3
  refine ⟨a, vs, k, j, rfl, i2.int, hv, by rw [paired_len al]; exact e4, ?_⟩
  exact q2 σ _ I2 (s1.trans s2) (o2.put e3 (paired_set ((is.same s1).same s2) j al)) ((rl.same s1).same s2)
end
section
variable {X : Cx} {a b : Expr} {ta tb : TD} {pos : Pos}
def rCatL (K : PySem.W.Frag) : R2 := fun x y H Q => ∃ l b xs zs, x = .ref l ∧ y = .ref b ∧ SqL K H l xs ∧ SqL K H b zs ∧ xs.length + zs.length ≤ sizeLine ∧ ∀ p, H p = none → Q (.ref p) (upd H p (.lst (xs ++ zs)))
theorem add_list_any {prog : Program} {w : World} {A : Around} {E : Value → Shared → Prop} {s : Shared} {l b : Addr} {vs ws : List Value} {Q : Value → Shared → Prop} (hl : s.heap.IsList l vs.toArray) (hb : s.heap.IsList b ws.toArray)
    (h : Q (.ref s.heap.objs.size) { s with heap := s.heap.push { cls := .type "list", data := .seq (vs ++ ws).toArray } })
    (hsz : vs.length + ws.length ≤ sizeLine) : wpAny (model prog w) A (binaryOp .Add (.ref l) (.ref b)) Q E s := by
  obtain ⟨⟨cls, dd, data, sl⟩, ho, hc, n, hd⟩ := id hl
  obtain ⟨⟨cls2, dd2, data2, sl2⟩, ho2, hc2, n2, hd2⟩ := id hb
  simp only at hc hd hc2 hd2
  subst hc hd hc2 hd2
  have e : vs.toArray ++ ws.toArray = (vs ++ ws).toArray := by simp
  refine concat_meets ⟨_, ho, rfl⟩ ⟨_, ho2, rfl⟩ noFill_list_add seq_list_add PySem.F.slot_list_add PySem.F.entry_list_add (PySem.F.args_list_add_2 _ _) (list_addW l b vs.toArray ws.toArray n n2 dd dd2 sl sl2 (by simpa using hsz)) ⟨ho, ho2, ?_⟩
  rw [e]
  exact h
theorem op_catL : OpR X (binaryOp .Add) (rCatL X.K) := by
  intro pins s σ H x y v u Q I rx ry h
  obtain ⟨l, b, xs, zs, rfl, rfl, hH, hB, hz, q⟩ := h
  cases rx
  cases ry
  obtain ⟨its, r, pl1, z1⟩ := I.list hH
  obtain ⟨its2, r2, pl2, z2⟩ := I.list hB
  have hl := r.length
  have hl2 := r2.length
  refine add_list_any pl1.isList pl2.isList ?_ (by omega)
  exact ⟨.ref _, _, I.lnew (t' := s.toks) (r.append r2) (by rw [List.length_append]; omega), rfl, q _ I.fresh⟩
def rAddAll (K : PySem.W.Frag) : R2 := fun x y H Q => rI0 (fun i j => .int (i + j)) x y H Q ∨ (∃ i j, x = .str i ∧ y = .str j ∧ i.length + j.length ≤ sizeLine ∧ Q (.str (i ++ j)) H) ∨ rCatL K x y H Q
theorem op_addAll : OpR X (binaryOp .Add) (rAddAll X.K) := op_add.or (op_add_str.or op_catL)
def gAdd : R2D
  | .d (.int i), .d (.int j), m, Q => Q (.d (.int (i + j))) m
  | .d (.str i), .d (.str j), m, Q => i.length + j.length ≤ 16777216 ∧ Q (.d (.str (i ++ j))) m
  | .d (.list xs), .d (.list ys), m, Q => xs.length + ys.length ≤ 16777216 ∧ Q (.d (.list (xs ++ ys))) m
  | _, _, _, _ => False
theorem dpAll_app {K : PySem.W.Frag} {I : Hp} : ∀ {xs ys : List V} {ds es : List PyData}, DpAll K I xs ds → DpAll K I ys es → DpAll K I (xs ++ ys) (ds ++ es)
  | _, _, _, _, .nil, h => h
  | _, _, _, _, .cons r t, h => .cons r (dpAll_app t h)
theorem dpAll_len {K : PySem.W.Frag} {I : Hp} {xs : List V} {ds : List PyData} (h : DpAll K I xs ds) : xs.length = ds.length := by
  rw [paired_len (isAll_of h), List.length_map]
theorem qd_newL {K : PySem.W.Frag} {H I0 I : Hp} {m : M} {Q : QD} {vs : List V} {xs : List PyData} {p : Addr} (ok : Ok K H I m) (s : Same I0 I) (hp : H p = none) (al : DpAll K I vs xs) (q : Q (.d (.list xs)) m) : Qd K I0 Q (.ref p) (upd H p (.lst vs)) := by
  have fI := ok.free hp
  exact ⟨upd I p (.lst vs), .d (.list xs), m, s.trans (same_new (H := H) fI), ok.new hp, Dp.lst (SqL.of upd_same) (DpAll.same (same_new (H := H) fI) al), q⟩
theorem o2_add {K : PySem.W.Frag} : Op2 K (rAddAll K) gAdd := by
  refine ⟨fun x y m Q Q' h q => ?_, fun H I0 I m x y v w Q ok s hx hy q => ?_⟩
  · unfold gAdd at q ⊢
    split at q
    · exact h _ _ q
    · exact ⟨q.1, h _ _ q.2⟩
    · exact ⟨q.1, h _ _ q.2⟩
    · exact q.elim
  · unfold gAdd at q
    split at q
    · exact .inl ⟨_, _, hx.int, hy.int, qd_same ok s (isI _) q⟩
    · exact .inr (.inl ⟨_, _, hx.str, hy.str, by rw [sizeLine_eq]; exact q.1, qd_same ok s (isS _) q.2⟩)
    · cases (show Dp K I v (.list _) from hx) with
      | lst sq al =>
        cases (show Dp K I w (.list _) from hy) with
        | lst sq2 al2 =>
          exact .inr (.inr ⟨_, _, _, _, rfl, rfl, Same.seq ok.im sq, Same.seq ok.im sq2, by rw [sizeLine_eq, dpAll_len al, dpAll_len al2]; exact q.1, fun p hp => qd_newL ok s hp (dpAll_app al al2) q.2⟩)
    · exact q.elim
theorem de_add (ha : DE X a ta) (hb : DE X b tb) : DE X (.BinOp a .Add b pos) (dOp gAdd ta tb) := de_op op_addAll o2_add ha hb
end
def flatD : PyData → Bool
  | .none | .bool _ | .int _ | .str _ => true
  | _ => false
def inD (x : PyData) (ys : List PyData) : Bool := ys.any fun y => PyData.eqv y x
def gIn (neg : Bool) : R2D
  | .d x, .d (.list ys), m, Q => flatD x = true ∧ ys.all flatD = true ∧ Q (.d (.bool (if neg then !inD x ys else inD x ys))) m
  | .d x, .d (.tuple ys), m, Q => flatD x = true ∧ ys.all flatD = true ∧ Q (.d (.bool (if neg then !inD x ys else inD x ys))) m
  | _, _, _, _ => False
theorem flat_of {K : PySem.W.Frag} {I : Hp} {v : V} {x : PyData} (h : Dp K I v x) (f : flatD x = true) : flatV v = true := by
  cases h <;> first | rfl | cases f
theorem eqV_of {K : PySem.W.Frag} {I : Hp} {v w : V} {x y : PyData} (h : Dp K I v x) (g : Dp K I w y) (f : flatD x = true) (f2 : flatD y = true) : eqV v w = PyData.eqv x y := by
  cases h <;> cases g <;> first | rfl | cases f | cases f2
theorem flats_of {K : PySem.W.Frag} {I : Hp} : ∀ {vs : List V} {xs : List PyData}, DpAll K I vs xs → xs.all flatD = true → vs.all flatV = true
  | _, _, .nil, _ => rfl
  | _, _, .cons h t, f => by
    rw [List.all_cons, Bool.and_eq_true] at f ⊢
    exact ⟨flat_of h f.1, flats_of t f.2⟩
theorem inV_of {K : PySem.W.Frag} {I : Hp} {v : V} {x : PyData} (h : Dp K I v x) (f : flatD x = true) : ∀ {vs : List V} {xs : List PyData}, DpAll K I vs xs → xs.all flatD = true → inV v vs = inD x xs
  | _, _, .nil, _ => rfl
  | _, _, .cons g t, f2 => by
    rw [List.all_cons, Bool.and_eq_true] at f2
    show (eqV _ v || inV v _) = (PyData.eqv _ x || inD x _)
    rw [eqV_of g h f2.1 f, inV_of h f t f2.2]
theorem o2_in {K : PySem.W.Frag} {neg : Bool} : Op2 K (rIn K neg) (gIn neg) := by
  refine ⟨fun x y m Q Q' h q => ?_, fun H I0 I m x y v w Q ok s hx hy q => ?_⟩
  · unfold gIn at q ⊢
    split at q
    · exact ⟨q.1, q.2.1, h _ _ q.2.2⟩
    · exact ⟨q.1, q.2.1, h _ _ q.2.2⟩
    · exact q.elim
  · unfold gIn at q
    split at q
    · cases (show Dp K I w (.list _) from hy) with
      | lst sq al =>
        refine ⟨_, _, rfl, .inl (Same.seq ok.im sq), flat_of hx q.1, flats_of al q.2.1, ?_⟩
        rw [inV_of hx q.1 al q.2.1]
        exact qd_same ok s (isB _) q.2.2
    · cases (show Dp K I w (.tuple _) from hy) with
      | tup sq al =>
        refine ⟨_, _, rfl, .inr (SqT.same ok.im sq), flat_of hx q.1, flats_of al q.2.1, ?_⟩
        rw [inV_of hx q.1 al q.2.1]
        exact qd_same ok s (isB _) q.2.2
    · exact q.elim
section
variable {X : Cx} {a b c e : Expr} {es : List Expr} {ta tb tc : TD} {t : TAd} {pos : Pos}
theorem dt_notin (ha : DE X a ta) (hb : DE X b tb) (hm : behindInMarks .NotIn b = false := by rfl) : DT X (.Compare a [.NotIn] [b] pos) (dTest (dOp (gIn true) ta tb)) := dt_cmp op_notIn_seq o2_in ha hb hm
def gLen : RAD
  | [.d (.list xs)], m, Q => Q (.d (.int xs.length)) m
  | [.d (.tuple xs)], m, Q => Q (.d (.int xs.length)) m
  | [.d (.str z)], m, Q => z.length ≤ 16777216 ∧ Q (.d (.int z.length)) m
  | [.r a], m, Q => ∃ xs, m a = some (.lst xs) ∧ Q (.d (.int xs.length)) m
  | _, _, _ => False
theorem isAll1 {K : PySem.W.Frag} {I : Hp} {vs : List V} {x : Dv} (h : IsAll K I vs [x]) : ∃ v, vs = [v] ∧ Is K I v x := by
  cases h with
  | cons r t => cases t; exact ⟨_, rfl, r⟩
theorem isAll2 {K : PySem.W.Frag} {I : Hp} {vs : List V} {x y : Dv} (h : IsAll K I vs [x, y]) : ∃ v w, vs = [v, w] ∧ Is K I v x ∧ Is K I w y := by
  cases h with
  | cons r t =>
    obtain ⟨w, rfl, h2⟩ := isAll1 t
    exact ⟨_, w, rfl, r, h2⟩
theorem oA_len {K : PySem.W.Frag} : OpA K (fun xs H Q => ∃ x n, xs = [x] ∧ LenV K x H n ∧ Q (.int (n : Nat)) H) gLen := by
  refine ⟨fun x m Q Q' h q => ?_, fun H I0 I m xs vs Q ok s hx q => ?_⟩
  · unfold gLen at q ⊢
    split at q
    · exact h _ _ q
    · exact h _ _ q
    · exact ⟨q.1, h _ _ q.2⟩
    · obtain ⟨xs, e, q⟩ := q; exact ⟨xs, e, h _ _ q⟩
    · exact q.elim
  · unfold gLen at q
    split at q
    · obtain ⟨v, rfl, hv⟩ := isAll1 hx
      cases (show Dp K I v (.list _) from hv) with
      | lst sq al => exact ⟨_, _, rfl, .inl ⟨_, Same.seq ok.im sq, rfl⟩, by rw [dpAll_len al]; exact qd_same ok s (isI _) q⟩
    · obtain ⟨v, rfl, hv⟩ := isAll1 hx
      cases (show Dp K I v (.tuple _) from hv) with
      | tup sq al => exact ⟨_, _, rfl, .inr ⟨_, SqT.same ok.im sq, rfl⟩, by rw [dpAll_len al]; exact qd_same ok s (isI _) q⟩
    · obtain ⟨v, rfl, hv⟩ := isAll1 hx
      have := hv.str
      subst this
      exact ⟨_, _, rfl, ⟨by rw [sizeLine_eq]; exact q.1, rfl⟩, qd_same ok s (isI _) q.2⟩
    · obtain ⟨v, rfl, hv⟩ := isAll1 hx
      obtain ⟨xs, e, q⟩ := q
      have hv : v = .ref _ := hv
      subst hv
      obtain ⟨ws, hw, al⟩ := ok.lst e
      exact ⟨_, _, rfl, .inl ⟨_, SqL.of hw, rfl⟩, by rw [paired_len al]; exact qd_same ok s (isI _) q⟩
    · exact q.elim
theorem de_len {p : Pos} (hg : Gl X "len") (hm : X.mg "len" = none) (ha : DA X [e] t) (he : starEach [e] X.env = [(false, eval e X.env)] := by rfl) : DE X (.Call (.Name "len" p) [e] [] pos) (dCB gLen t) :=
  de_callB call_len oA_len hg hm (by decide +kernel) ha (he := he)
def g1A (g : Int → Int) : RAD
  | [.d (.int i)], m, Q => Q (.d (.int (g i))) m
  | _, _, _ => False
def g2A (g : Int → Int → Int) : RAD
  | [.d (.int i), .d (.int j)], m, Q => Q (.d (.int (g i j))) m
  | _, _, _ => False
theorem oA_1 {K : PySem.W.Frag} {g : Int → Int} : OpA K (fun xs H Q => ∃ i, xs = [.int i] ∧ Q (.int (g i)) H) (g1A g) := by
  refine ⟨fun x m Q Q' h q => ?_, fun H I0 I m xs vs Q ok s hx q => ?_⟩
  · unfold g1A at q ⊢
    split at q
    · exact h _ _ q
    · exact q.elim
  · unfold g1A at q
    split at q
    · obtain ⟨v, rfl, hv⟩ := isAll1 hx
      exact ⟨_, by rw [hv.int], qd_same ok s (isI _) q⟩
    · exact q.elim
theorem oA_2 {K : PySem.W.Frag} {g : Int → Int → Int} : OpA K (fun xs H Q => ∃ i j, xs = [.int i, .int j] ∧ Q (.int (g i j)) H) (g2A g) := by
  refine ⟨fun x m Q Q' h q => ?_, fun H I0 I m xs vs Q ok s hx q => ?_⟩
  · unfold g2A at q ⊢
    split at q
    · exact h _ _ q
    · exact q.elim
  · unfold g2A at q
    split at q
    · obtain ⟨v, w, rfl, hv, hw⟩ := isAll2 hx
      exact ⟨_, _, by rw [hv.int, hw.int], qd_same ok s (isI _) q⟩
    · exact q.elim
def absI (i : Int) : Int := if i < 0 then -i else i
def maxI (i j : Int) : Int := if j > i then j else i
theorem de_abs {p : Pos} (hg : Gl X "abs") (hm : X.mg "abs" = none) (ha : DA X [e] t) (he : starEach [e] X.env = [(false, eval e X.env)] := by rfl) : DE X (.Call (.Name "abs" p) [e] [] pos) (dCB (g1A absI) t) :=
  de_callB call_abs (oA_1 (g := absI)) hg hm (by decide +kernel) ha (he := he)
theorem de_max2 {p : Pos} (hc : X.calm = true) (hg : Gl X "max") (hm : X.mg "max" = none) (ha : DA X [a, b] t) (he : starEach [a, b] X.env = (false, eval a X.env) :: starEach [b] X.env := by rfl) (hpl : (backTo pos (starEach [b] X.env)).any (·.1) = false := by rfl) : DE X (.Call (.Name "max" p) [a, b] [] pos) (dCB (g2A maxI) t) :=
  de_callB (call_max2 hc) (oA_2 (g := maxI)) hg hm (by decide +kernel) ha (he := he) (hpl := hpl)
def gInt : RAD
  | [.d (.int i)], m, Q => Q (.d (.int i)) m
  | [.d (.bool k)], m, Q => Q (.d (.int (if k then 1 else 0))) m
  | _, _, _ => False
theorem oA_int {K : PySem.W.Frag} : OpA K (fun xs H Q => (∃ i, xs = [.int i] ∧ Q (.int i) H) ∨ ∃ k, xs = [.bl k] ∧ Q (.int (if k then 1 else 0)) H) gInt := by
  refine ⟨fun x m Q Q' h q => ?_, fun H I0 I m xs vs Q ok s hx q => ?_⟩
  · unfold gInt at q ⊢
    split at q
    · exact h _ _ q
    · exact h _ _ q
    · exact q.elim
  · unfold gInt at q
    split at q
    · obtain ⟨v, rfl, hv⟩ := isAll1 hx
      exact .inl ⟨_, by rw [hv.int], qd_same ok s (isI _) q⟩
    · obtain ⟨v, rfl, hv⟩ := isAll1 hx
      exact .inr ⟨_, by rw [hv.bl], qd_same ok s (isI _) q⟩
    · exact q.elim
theorem de_intc {p : Pos} (hg : Gl X "int") (hm : X.mg "int" = none) (ha : DA X [e] t) (he : starEach [e] X.env = [(false, eval e X.env)] := by rfl) : DE X (.Call (.Name "int" p) [e] [] pos) (dCB gInt t) :=
  de_callTy call_int1 oA_int hg hm (by decide +kernel) ha (he := he)
def gSum : RAD
  | [.d (.list xs)], m, Q => ∃ ns : List Int, xs = ns.map .int ∧ Q (.d (.int ns.sum)) m
  | _, _, _ => False
theorem ints_of {K : PySem.W.Frag} {I : Hp} : ∀ {vs : List V} {ns : List Int}, DpAll K I vs (ns.map .int) → vs = ns.map V.int
  | _, [], h => by cases h; rfl
  | _, n :: ns, h => by
    cases h with
    | cons r t => cases r; rw [ints_of t]; rfl
theorem oA_sum {K : PySem.W.Frag} : OpA K (rSum K) gSum := by
  refine ⟨fun x m Q Q' h q => ?_, fun H I0 I m xs vs Q ok s hx q => ?_⟩
  · unfold gSum at q ⊢
    split at q
    · obtain ⟨ns, e, q⟩ := q; exact ⟨ns, e, h _ _ q⟩
    · exact q.elim
  · unfold gSum at q
    split at q
    · obtain ⟨v, rfl, hv⟩ := isAll1 hx
      obtain ⟨ns, rfl, q⟩ := q
      cases (show Dp K I v (.list _) from hv) with
      | lst sq al =>
        have e := ints_of al
        subst e
        exact ⟨_, ns, rfl, Same.seq ok.im sq, qd_same ok s (isI _) q⟩
    · exact q.elim
theorem de_sum {p : Pos} (hc : X.calm = true) (hg : Gl X "sum") (hm : X.mg "sum" = none) (ha : DA X [e] t) (he : starEach [e] X.env = [(false, eval e X.env)] := by rfl) : DE X (.Call (.Name "sum" p) [e] [] pos) (dCB gSum t) :=
  de_callB (cr_sum hc) oA_sum hg hm (by decide +kernel) ha (he := he)
def gTuple : RAD
  | [.d (.list xs)], m, Q => Q (.d (.tuple xs)) m
  | [.d (.tuple xs)], m, Q => Q (.d (.tuple xs)) m
  | _, _, _ => False
end
end DL
namespace DL
open PySem PySem.Spec PyProof.Rows L2
section
variable {X : Cx} {elt iter : Expr} {ifs : List Expr} {scope : Scope} {pos ppos px py : Pos} {w : TId} {tt : TBd} {te : TD} {x y : Str} {i j kk : Nat}
def dgPair (i j : Nat) : TGd
  | .d (.tuple [a, b]), δ, m, Q => Q ((δ.set i (some (.d a))).set j (some (.d b))) m
  | _, _, _, _ => False
end
section
variable {X : Cx} {a b c : Expr} {ta tb tc : TD} {pos : Pos}
end
section
variable {X : Cx} {e : Expr} {te : TD} {pos p2 : Pos} {lo hi : Option Expr}
abbrev TOd := Dn → M → (Option Int → M → Prop) → Prop
structure DO (X : Cx) (e : Option Expr) (t : TOd) : Prop where
  mono : Mo t
  po : PO X e (fun σ H Q => ∃ I δ m, Ok X.K H I m ∧ Rl X.K I σ δ ∧ t δ m (fun i m' => ∀ H' I', Same I I' → Ok X.K H' I' m' → Q i H'))
def dNoPart : TOd := fun _ m Q => Q none m
def dPart (t : TD) : TOd := fun δ m Q => t δ m fun x m1 => ∃ i, x = .d (.int i) ∧ Q (some i) m1
theorem PO.imp {e : Option Expr} {t t' : TO} (h : PO X e t) (i : ∀ σ H Q, t' σ H Q → t σ H Q) : PO X e t' := fun pins s σ H Q I q => h pins s σ H Q I (i σ H Q q)
theorem do_none : DO X none dNoPart := ⟨fun _ _ _ _ h q => h _ _ q, PO.imp po_none fun σ H Q ⟨I, δ, m, ok, rl, q⟩ => q H I (Same.refl _) ok⟩
theorem do_some {e : Expr} {t : TD} (h : DE X e t) : DO X (some e) (dPart t) := by
  refine ⟨fun δ m Q Q' hq q => h.mono δ m _ _ (fun x m1 ⟨i, e, z⟩ => ⟨i, e, hq _ _ z⟩) q, PO.imp (po_some h.pe) fun σ H Q ⟨I, δ, m, ok, rl, q⟩ => ?_⟩
  exact ⟨I, δ, m, ok, rl, h.mono δ m _ _ (fun x m1 ⟨i, e, z⟩ v H1 I1 s1 o1 i1 => ⟨i, by subst e; exact i1.int, z H1 I1 s1 o1⟩) q⟩
def cutD (xs : List PyData) (lo hi : Option Int) : List PyData := (xs.drop (HT.sIx xs.length 0 lo)).take (HT.sIx xs.length xs.length hi - HT.sIx xs.length 0 lo)
theorem dpAll_drop {K : PySem.W.Frag} {I : Hp} : ∀ {vs : List V} {xs : List PyData} (n : Nat), DpAll K I vs xs → DpAll K I (vs.drop n) (xs.drop n)
  | _, _, 0, h => h
  | _, _, n + 1, .nil => .nil
  | _, _, n + 1, .cons r t => dpAll_drop n t
theorem dpAll_take {K : PySem.W.Frag} {I : Hp} : ∀ {vs : List V} {xs : List PyData} (n : Nat), DpAll K I vs xs → DpAll K I (vs.take n) (xs.take n)
  | _, _, 0, h => .nil
  | _, _, n + 1, .nil => .nil
  | _, _, n + 1, .cons r t => .cons r (dpAll_take n t)
def dSl (te : TD) (tl th : TOd) : TD := fun δ m Q => te δ m fun x m1 => tl δ m1 fun l m2 => th δ m2 fun u m3 => (match x with
  | .d (.list xs) => Q (.d (.list (cutD xs l u))) m3
  | .d (.str z) => z.length ≤ 16777216 ∧ Q (.d (.str (cutS z l u))) m3
  | _ => False : Prop)
theorem mo_dSl {tl th : TOd} (h1 : Mo te) (h2 : Mo tl) (h3 : Mo th) : Mo (dSl te tl th) := fun δ m Q Q' hq q =>
  h1 δ m _ _ (fun x m1 q1 => h2 δ m1 _ _ (fun l m2 q2 => h3 δ m2 _ _ (fun u m3 q3 => by
    split at q3
    · exact hq _ _ q3
    · exact ⟨q3.1, hq _ _ q3.2⟩
    · exact q3.elim) q2) q1) q
def rSlB (K : PySem.W.Frag) : V → Option Int → Option Int → Hp → VK → Prop := fun x lo hi H Q => rSlL K x lo hi H Q ∨ rSlS x lo hi H Q
theorem sl_both : SlR X (rSlB X.K) := by
  intro pins s σ H x v vl vu lo hi sl Q I rx hs pl pu h
  rcases h with h | h
  · exact sl_list pins s σ H x v vl vu lo hi sl Q I rx hs pl pu h
  · exact sl_str pins s σ H x v vl vu lo hi sl Q I rx hs pl pu h
theorem de_slice {tl th : TOd} (he : DE X e te) (hl : DO X lo tl) (hu : DO X hi th) : DE X (.Subscript e (.Slice lo hi none p2) pos) (dSl te tl th) := by
  refine de_of (pe_slice sl_both he.pe hl.po hu.po) (mo_dSl he.mono hl.mono hu.mono) fun σ H I δ m Q ok rl q => ?_
  refine ⟨I, δ, m, ok, rl, he.mono δ m _ _ (fun x m1 q1 v1 H1 I1 s1 o1 i1 => ?_) q⟩
  refine ⟨I1, δ, m1, o1, rl.same s1, hl.mono δ m1 _ _ (fun l m2 q2 H2 I2 s2 o2 => ?_) q1⟩
  refine ⟨I2, δ, m2, o2, (rl.same s1).same s2, hu.mono δ m2 _ _ (fun u m3 q3 H3 I3 s3 o3 => ?_) q2⟩
  split at q3
  · cases (show Dp X.K I1 v1 (.list _) from i1) with
    | lst sq al =>
      have al3 := DpAll.same (s2.trans s3) al
      refine .inl ⟨_, _, rfl, Same.seq ((s2.trans s3).trans o3.im) sq, fun p hp => qd_newL o3 ((s1.trans s2).trans s3) hp ?_ q3⟩
      unfold cutV cutD
      rw [dpAll_len al]
      exact dpAll_take _ (dpAll_drop _ al3)
  · have := i1.str
    subst this
    exact .inr ⟨_, rfl, by rw [sizeLine_eq]; exact q3.1, qd_same o3 ((s1.trans s2).trans s3) (isS _) q3.2⟩
  · exact q3.elim
end
end DL
namespace DL
open PySem PySem.Spec PyProof.Rows L2
section
variable {X : Cx} {a b c o e : Expr} {es : List Expr} {ta tb tc to te : TD} {t : TAd} {pos apos : Pos}
def idxD (x : PyData) : List PyData → Option Nat
  | [] => none
  | y :: ys => if PyData.eqv y x = true then some 0 else (idxD x ys).map (· + 1)
def dIndexT (ys : List PyData) (te : TD) : TD := fun δ m Q => te δ m fun x m1 => (match x with
  | .d y => flatD y = true ∧ ∃ j : Nat, idxD y ys = some j ∧ Q (.d (.int j)) m1
  | _ => False : Prop)
section
variable {prog : Program} {w : World} {A : Around} {E : Value → Shared → Prop} {s : Shared} {l : Addr} {its : List Value} {ns : List Int} {Q : Value → Shared → Prop}
end
def intsD : List PyData → Option (List Int)
  | [] => some []
  | .int i :: r => (intsD r).map (i :: ·)
  | _ :: _ => none
def gBest (f : List Int → Int) : RAD
  | [.d (.list xs)], m, Q => ∃ ns, intsD xs = some ns ∧ 0 < ns.length ∧ Q (.d (.int (f ns))) m
  | [.d (.tuple xs)], m, Q => ∃ ns, intsD xs = some ns ∧ 0 < ns.length ∧ Q (.d (.int (f ns))) m
  | _, _, _ => False
end
end DL
namespace DL
open PySem PySem.Spec PyProof.Rows L2
section
variable {X : Cx} {a b c o e : Expr} {es : List Expr} {ta tb tc to te : TD} {t : TAd} {pos apos : Pos}
def gAppend : Dv → Dv → M → QD → Prop
  | .r a, v, m, Q => ∃ xs, m a = some (.lst xs) ∧ xs.length < 16777216 ∧ Q (.d .none) (setM m a (.lst (xs ++ [v])))
  | _, _, _, _ => False
def dAppend (to te : TD) : TD := fun δ m Q => to δ m fun x m1 => (∃ a xs, x = .r a ∧ m1 a = some (.lst xs)) ∧ te δ m1 fun v m2 => gAppend x v m2 Q
theorem gAppend_mono {x v : Dv} {m : M} {Q Q' : QD} (h : ∀ d m, Q d m → Q' d m) (q : gAppend x v m Q) : gAppend x v m Q' := by
  cases x with
  | d y => exact q.elim
  | r a => obtain ⟨xs, e, l, q⟩ := q; exact ⟨xs, e, l, h _ _ q⟩
theorem de_append (ho : DE X o to) (he : DE X e te)
    (hbase : attributeBase o "append" X.env (eval o X.env) = eval o X.env := by rfl)
    (hfew : ((backTo pos (starEach [e] X.env)).all (fun x => !x.1) && (backToKw pos (keywordEach [] X.env)).all (fun x => x.1.isSome)
      && decide (([e] : List Expr).length + ([] : List Keyword).length + (if ([] : List Keyword).isEmpty then 0 else 1) < 30)) = true := by rfl)
    (hline : (apos.endLine == pos.line) = true := by rfl) (hs : starEach [e] X.env = (false, eval e X.env) :: starEach [] X.env := by rfl) (hplain : (backTo pos (starEach [] X.env)).any (·.1) = false := by rfl) :
    DE X (.Call (.Attribute o "append" apos) [e] [] pos) (dAppend to te) := by
  have mo : Mo (dAppend to te) := fun δ m Q Q' hq q => ho.mono δ m _ _ (fun x m1 ⟨z1, z2⟩ => ⟨z1, he.mono δ m1 _ _ (fun v m2 z => gAppend_mono hq z) z2⟩) q
  refine de_of (pe_bm (hbase := hbase) (hfew := hfew) (hline := hline) (hs := hs) (hplain := hplain) PySem.F.plainAttrs_list PySem.F.slot_list_append PySem.F.type_list_append mt_append ho.pe (pa_cons he.pe pa_nil hs)) mo fun σ H I δ m Q ok rl q => ?_
  refine ⟨I, δ, m, ok, rl, ho.mono δ m _ _ (fun x m1 ⟨⟨a, xs, ex, exs⟩, z⟩ v1 H1 I1 s1 o1 i1 => ?_) q⟩
  subst ex
  have i1 : v1 = .ref a := i1
  subst i1
  obtain ⟨vs, hv, al⟩ := o1.lst exs
  refine ⟨.inl ⟨rfl, vs, SqL.of hv⟩, I1, δ, m1, o1, rl.same s1, he.mono δ m1 _ _ (fun v m2 q2 v2 H2 I2 s2 o2 i2 => ?_) z⟩
  obtain ⟨ys, ey, hl, q2⟩ := q2
  obtain ⟨ws, hw, bl⟩ := o2.lst ey
  refine ⟨a, ws, v2, rfl, rfl, hw, by rw [sizeLine_eq, paired_len bl]; exact hl, ?_⟩
  exact ⟨I2, .d .none, setM m2 a (.lst (ys ++ [v])), s1.trans s2, o2.put ey (o := .lst (ws ++ [v2])) (q := .lst (ys ++ [v])) (show MRel X.K I2 (.lst (ws ++ [v2])) (.lst (ys ++ [v])) from (paired_app bl (.cons i2 .nil) : IsAll X.K I2 _ _)), isN, q2⟩
def g2B (f : Bool → Bool → Bool) : R2D
  | .d (.bool b), .d (.bool c), m, Q => Q (.d (.bool (f b c))) m
  | _, _, _, _ => False
def g1N (neg : Bool) : R2D
  | .d x, .d .none, m, Q => Q (.d (.bool (match x with | .none => !neg | _ => neg))) m
  | .r _, .d .none, m, Q => Q (.d (.bool neg)) m
  | _, _, _, _ => False
theorem o2_isN {K : PySem.W.Frag} : Op2 K (fun x y H Q => y = .non ∧ Q (.bl (decide (x = .non))) H) (g1N false) := by
  refine ⟨fun x y m Q Q' h q => ?_, fun H I0 I m x y v w Q ok s hx hy q => ?_⟩
  · unfold g1N at q ⊢
    split at q
    · exact h _ _ q
    · exact h _ _ q
    · exact q.elim
  · unfold g1N at q
    split at q
    · refine ⟨hy.non, ?_⟩
      have e : decide (v = V.non) = (match (‹PyData› : PyData) with | .none => !false | _ => false) := by
        cases (show Dp K I v _ from hx) <;> rfl
      rw [e]
      exact qd_same ok s (isB _) q
    · refine ⟨hy.non, ?_⟩
      have hx : v = .ref _ := hx
      subst hx
      exact qd_same ok s (isB _) q
    · exact q.elim
theorem o2_notN {K : PySem.W.Frag} : Op2 K (fun x y H Q => y = .non ∧ Q (.bl (!decide (x = .non))) H) (g1N true) := by
  refine ⟨fun x y m Q Q' h q => ?_, fun H I0 I m x y v w Q ok s hx hy q => ?_⟩
  · unfold g1N at q ⊢
    split at q
    · exact h _ _ q
    · exact h _ _ q
    · exact q.elim
  · unfold g1N at q
    split at q
    · refine ⟨hy.non, ?_⟩
      have e : (!decide (v = V.non)) = (match (‹PyData› : PyData) with | .none => !true | _ => true) := by
        cases (show Dp K I v _ from hx) <;> rfl
      rw [e]
      exact qd_same ok s (isB _) q
    · refine ⟨hy.non, ?_⟩
      have hx : v = .ref _ := hx
      subst hx
      exact qd_same ok s (isB _) q
    · exact q.elim
theorem dt_isN {k} {p2 : Pos} (ha : DE X a ta) : DT X (.Compare a [.Is] [.Constant .none k p2] pos) (dTest (dOp (g1N false) ta (dC .none))) := dt_cmp op_isN o2_isN ha de_non (nomark _)
theorem dt_notN {k} {p2 : Pos} (ha : DE X a ta) : DT X (.Compare a [.IsNot] [.Constant .none k p2] pos) (dTest (dOp (g1N true) ta (dC .none))) := dt_cmp op_notN o2_notN ha de_non (nomark _)
theorem lift_m1 {id : String} {name : Str} {r : V → List V → Hp → VK → Prop} {rd : R2D} (slot : Slot "str" name id) (ty : typeOf (.builtin id) = pure (.type "method_descriptor")) (rule : MtR X id r)
    (mo2 : Mo2 rd) (rdS : ∀ x y m Q, rd x y m Q → ∃ s, x = .d (.str s)) (ok2 : ∀ H I0 I m x y v w Q, Ok X.K H I m → Same I0 I → Is X.K I v x → Is X.K I w y → rd x y m Q → r v [w] H (Qd X.K I0 Q)) (ho : DE X o to) (he : DE X e te)
    (hs : starEach [e] X.env = [(false, eval e X.env)] := by rfl) (hbase : attributeBase o name X.env (eval o X.env) = eval o X.env := by rfl) (hline : (apos.endLine == pos.line) = true := by rfl) :
    DE X (.Call (.Attribute o name apos) [e] [] pos) (fun δ m Q => to δ m fun x m1 => (∃ s, x = .d (.str s)) ∧ te δ m1 fun y m2 => rd x y m2 Q) := by
  refine de_of (pe_m1 slot ty rule ho.pe he.pe hs hbase hline) (fun δ m Q Q' hq q => ho.mono δ m _ _ (fun x m1 ⟨z, q1⟩ => ⟨z, he.mono δ m1 _ _ (fun y m2 q2 => mo2 x y m2 Q Q' hq q2) q1⟩) q) fun σ H I δ m Q ok rl q => ?_
  refine ⟨I, δ, m, ok, rl, ho.mono δ m _ _ (fun x m1 ⟨⟨s, ex⟩, q1⟩ v1 H1 I1 s1 o1 i1 => ?_) q⟩
  subst ex
  refine ⟨⟨s, i1.str⟩, I1, δ, m1, o1, rl.same s1, he.mono δ m1 _ _ (fun y m2 q2 v2 H2 I2 s2 o2 i2 => ?_) q1⟩
  exact ok2 H2 I I2 m2 _ y v1 v2 Q o2 (s1.trans s2) (i1.same s2) i2 q2
def dM1 (rd : R2D) (to te : TD) : TD := fun δ m Q => to δ m fun x m1 => (∃ s, x = .d (.str s)) ∧ te δ m1 fun y m2 => rd x y m2 Q
end
def tyD : PyData → String
  | .none => "NoneType" | .bool _ => "bool" | .int _ => "int" | .str _ => "str" | .list _ => "list" | .tuple _ => "tuple" | .dict _ => "dict"
section
variable {X : Cx} {a b c o e : Expr} {ta te : TD} {pos apos p p2 : Pos}
def dIsi (yes : String → Bool) (te : TD) : TD := fun δ m Q => te δ m fun x m1 => (match x with
  | .d d => Q (.d (.bool (yes (tyD d)))) m1
  | .r _ => False : Prop)
theorem mo_dIsi {yes : String → Bool} (h : Mo te) : Mo (dIsi yes te) := fun δ m Q Q' hq q => h δ m _ _ (fun x m1 z => by
  cases x with
  | d d => exact hq _ _ z
  | r a => exact z.elim) q
end
end DL
namespace DL
open PySem PySem.Spec PyProof.Rows L2
def SqIt (tu : Bool) (h : Heap) (i l : Addr) (k : Nat) : Prop := if tu = true then h.IsTupleIter i l k else h.IsListIter i l k
def SqAt (tu : Bool) (h : Heap) (l : Addr) (xs : Array Value) : Prop := if tu = true then h.IsTuple l xs else h.IsList l xs
def itTy (tu : Bool) : String := if tu = true then "tuple_iterator" else "list_iterator"
theorem SqIt.obj {tu : Bool} {h : Heap} {i l : Addr} {k : Nat} (x : SqIt tu h i l k) : ∃ o, h.get? i = some o ∧ o.data = .fields #[.ref l, .int k 0] := by
  cases tu with
  | true => obtain ⟨o, ho, _, d⟩ := x; exact ⟨o, ho, d⟩
  | false => obtain ⟨o, ho, _, d⟩ := x; exact ⟨o, ho, d⟩
theorem SqIt.to {tu : Bool} {h h' : Heap} {i l : Addr} {k : Nat} (x : SqIt tu h i l k) (e : ∀ o, h.get? i = some o → h'.get? i = some o) : SqIt tu h' i l k := by
  cases tu with
  | true => obtain ⟨o, ho, r⟩ := x; exact ⟨o, e o ho, r⟩
  | false => obtain ⟨o, ho, r⟩ := x; exact ⟨o, e o ho, r⟩
theorem SqAt.to {tu : Bool} {h h' : Heap} {l : Addr} {xs : Array Value} (x : SqAt tu h l xs) (e : ∀ o, h.get? l = some o → h'.get? l = some o) : SqAt tu h' l xs := by
  cases tu with
  | true => obtain ⟨o, ho, r⟩ := x; exact ⟨o, e o ho, r⟩
  | false => obtain ⟨o, ho, r⟩ := x; exact ⟨o, e o ho, r⟩
theorem SqAt.lt {tu : Bool} {h : Heap} {l : Addr} {xs : Array Value} (x : SqAt tu h l xs) : l < h.objs.size := by
  cases tu with
  | true => obtain ⟨o, ho, r⟩ := x; exact Heap.lt_size ho
  | false => obtain ⟨o, ho, r⟩ := x; exact Heap.lt_size ho
theorem SqIt.new {tu : Bool} {h : Heap} {l : Addr} : SqIt tu (h.push { cls := .type (itTy tu), data := .fields #[.ref l, .int 0 0] }) h.objs.size l 0 := by
  cases tu with
  | true => exact ⟨_, Heap.get?_push_size _ rfl, rfl, rfl⟩
  | false => exact ⟨_, Heap.get?_push_size _ rfl, rfl, rfl⟩
section
variable {prog : Program} {w : World} {A : Around} {E : Value → Shared → Prop} {s : Shared}
variable {z TI TO i1 i2 l1 l2 : Addr} {k1 k2 : Nat} {xs ys : Array Value} {x y a b : Value} {tu tv : Bool}
end
def SqX (K : PySem.W.Frag) (tu : Bool) (H : Hp) (a : Addr) (xs : List V) : Prop := if tu = true then SqT K H a xs else SqL K H a xs
end DL
namespace DL
open PySem PySem.Spec PyProof.Rows L2
def keyD : Key → PyData
  | .inl i => .int i
  | .inr s => .str s
structure DPc (X : Cx) (pos : Pos) (keys : List (Option Expr)) (values : List Expr) (kvs : List (Key × PyData)) : Prop where
  pps : PPs X pos keys values (kvs.map fun kv => (up X.K (dC (keyD kv.1)), up X.K (dC kv.2)))
  all : keys.all (·.isSome) = true
  len : keys.length = values.length
  len2 : keys.length = kvs.length
section
variable {X : Cx} {pos : Pos}
def lookD : List (Key × PyData) → Key → Option PyData
  | [], _ => none
  | (k, x) :: r, k' => if k = k' then some x else lookD r k'
def keyOf : Dv → Option Key
  | .d (.str s) => some (.inr s)
  | .d (.int i) => some (.inl i)
  | _ => none
theorem Ok.frz {K : PySem.W.Frag} {H I : Hp} {m : M} {p : Addr} {q : MO} {o : HO} (ok : Ok K H I (setM m p q)) (hm : m p = none) : Ok K (upd H p o) (upd I p o) m := by
  have hI : I p = none := by
    cases e : I p with
    | none => rfl
    | some u => have := ok.dj p u e; rw [setM_same] at this; cases this
  refine ⟨fun a u e => ?_, fun a u e => ?_, fun a z e => ?_⟩
  · by_cases h : a = p
    · subst h; rw [upd_same] at e ⊢; exact e
    · rw [upd_ne h] at e ⊢; exact ok.im a u e
  · by_cases h : a = p
    · subst h; exact hm
    · rw [upd_ne h] at e
      have := ok.dj a u e
      rwa [setM_ne h] at this
  · have h : a ≠ p := fun z => by subst z; rw [hm] at e; cases e
    obtain ⟨u, h1, h2⟩ := ok.mu a z (by rw [setM_ne h]; exact e)
    exact ⟨u, by rw [upd_ne h]; exact h1, h2.same (same_new (H := H) hI)⟩
def dPick (kvs : List (Key × PyData)) (ti : TD) : TD := fun δ m Q => ti δ m fun y m1 => ∃ k x, keyOf y = some k ∧ lookD kvs k = some x ∧ Q (.d x) m1
end
theorem SqX.same {K : PySem.W.Frag} {H H' : Hp} {tu : Bool} {a : Addr} {xs : List V} (e : Same H H') (h : SqX K tu H a xs) : SqX K tu H' a xs := by
  cases tu with
  | true => exact SqT.same e h
  | false => exact Same.seq e h
section
variable {X : Cx} {pos : Pos}
end
end DL
namespace DL
open PySem PySem.Spec PyProof.Rows L2
section
variable {prog : Program} {w : World} {A : Around} {E : Value → Shared → Prop} {s : Shared}
end
section
variable {X : Cx} {pos : Pos} {a b : Expr} {ta : TAd}
def dTupRng (ta : TAd) : TD := fun δ m Q => ta δ m fun ds m1 => ∃ i j : Int, ds = [.d (.int i), .d (.int j)] ∧ (-(2 ^ 63) + 4 ≤ i ∧ i < 2 ^ 63 - 4 ∧ -(2 ^ 63) + 4 ≤ j ∧ j < 2 ^ 63 - 4 ∧ j - i < 2 ^ 24) ∧ Q (.d (.tuple ((List.range (j - i).toNat).map fun k => .int (i + ((k : Nat) : Int))))) m1
end
end DL
namespace DL
open PySem PySem.Spec PyProof.Rows L2
def SubM (m m' : M) : Prop := ∀ a q, m a = some q → m' a = some q
theorem Ok.sub {K : PySem.W.Frag} {H I : Hp} {m m' : M} (ok : Ok K H I m') (s : SubM m m') : Ok K H I m := by
  refine ⟨ok.im, fun a o e => ?_, fun a q e => ok.mu a q (s a q e)⟩
  have := ok.dj a o e
  cases z : m a with
  | none => rfl
  | some q => rw [s a q z] at this; cases this
def dropQ (Q : QD) : QD := fun d m' => ∃ m, SubM m m' ∧ Q d m
section
variable {P : Program} {w : World} {K : PySem.W.Frag} {mg : Str → Option Value} {base : Heap}
theorem Fun.okDS {x qual : Str} {st : Stmt} {f : Addr} {fd : FuncData} {N ps : List Str} {k : Nat} {F : FD} (G : Fun K x qual st f fd) (S : FnScope N ps (defScope st)) (hF : MoA F) (len : ∀ ds m Q, F ds m Q → ds.length = ps.length)
    (hbody : ∀ (cdv : Value) (A : Around) (outer : List Env) (s : Shared) (H : Hp) (E : XK), Room k (A.deeper (envOfC qual (defScope st) s.heap.objs.size f cdv)) →
      ∃ t, DSs (cxOf CX0 P w K mg base N qual (defScope st) f cdv A outer s H E).nox (defBody st) t ∧ ∀ ds m Q, F ds m Q → t { nx := fun _ m' => dropQ Q (.d .none) m', rt := dropQ Q } (startD N ds) m) : FnOk P w K mg base CX0 (k + 1) f fd ps (spD K F) := by
  have h := Fun.okD (P := P) (w := w) (mg := mg) (base := base) (F := fun ds m Q => ∃ Q', F ds m Q' ∧ ∀ d m', dropQ Q' d m' → Q d m') G S (fun xs m Q Q' h ⟨Q0, a, b⟩ => ⟨Q0, a, fun d m' z => h _ _ (b d m' z)⟩) (fun ds m Q ⟨Q0, a, _⟩ => len ds m Q0 a) (fun cdv A outer s H E hr => by
    obtain ⟨t, ht, hq⟩ := hbody cdv A outer s H E hr
    refine ⟨t, ht, fun ds m Q ⟨Q0, a, b⟩ => ?_⟩
    exact ht.mono { nx := fun _ m' => dropQ Q0 (.d .none) m', rt := dropQ Q0 } _ _ _ ⟨fun _ m' z => b _ _ z, fun _ _ z => b _ _ z, fun _ _ z => z, fun _ _ z => z⟩ (hq ds m Q0 a))
  refine h.imp fun vs H Q E ⟨I, ds, m, ok, is, q⟩ => ⟨I, ds, m, ok, is, _, q, fun d m' ⟨m0, sb, z⟩ v H' I' s' o' i' => z v H' I' s' (o'.sub sb) i'⟩
end
section
variable {X : Cx} {e : Expr} {te : TD} {pos p2 : Pos} {lo hi : Option Expr}
def dSlT (te : TD) (tl th : TOd) : TD := fun δ m Q => te δ m fun x m1 => tl δ m1 fun l m2 => th δ m2 fun u m3 => ∃ xs, x = .d (.tuple xs) ∧ ¬ (HT.sIx xs.length 0 l = 0 ∧ HT.sIx xs.length xs.length u = xs.length) ∧ Q (.d (.tuple (cutD xs l u))) m3
end
end DL
namespace DL
open PySem PySem.Spec PyProof.Rows L2
def isT (t T : String) : Bool := t == T || (t == "bool" && T == "int")
theorem kit_ty (K : PySem.W.Frag) (d : PyData) (T : String) (hT : T = "int" ∨ T = "bool" ∨ T = "str" ∨ T = "tuple" ∨ T = "list") : PySem.W.kitOne K (.type (tyD d)) (.type T) = some (isT (tyD d) T) := by
  rcases hT with rfl | rfl | rfl | rfl | rfl <;> cases d <;> first | rfl | decide +kernel
section
variable {X : Cx} {e : Expr} {te : TD} {pos p p2 : Pos}
theorem isi_at {pins : List (Addr × Obj)} {σ : L2.St} {H : Hp} {s : Shared} {A : Around} {E : Value → Shared → Prop} {Q : Value → Shared → Prop} {c : Value} {b : Bool} {v : V} {u : Value} {d : PyData} (I : Inv X pins σ H s) (rx : RelV v u) (h : Dp X.K H v d)
    (k : PySem.W.kitOne X.K (.type (tyD d)) c = some b) (q : ∀ tk, Q (.bool b) { s with toks := tk }) : wpAny (model X.prog X.w) A (call (.builtin "isinstance") [u, c]) Q E s := by
  cases h with
  | non => cases (show u = Value.none from rx); exact PySem.W.kia_one PySem.W.kitx_none I.kIn True.intro k (fun z => nomatch z) q
  | bl y => cases (show u = Value.bool y from rx); exact PySem.W.kia_one PySem.W.kitx_bool I.kIn True.intro k (fun z => nomatch z) q
  | int i => obtain ⟨t, z⟩ := (show ∃ t, u = Value.int i t from rx); cases z; exact PySem.W.kia_one PySem.W.kitx_int I.kIn True.intro k (fun z => nomatch z) q
  | str y => obtain ⟨t, z⟩ := (show ∃ t, u = Value.str y t from rx); cases z; exact PySem.W.kia_one PySem.W.kitx_str I.kIn True.intro k (fun z => nomatch z) q
  | @lst a xs ds sq al =>
    cases (show u = Value.ref a from rx)
    obtain ⟨its, _, p, _⟩ := I.list sq
    obtain ⟨o, h1, h2, _⟩ := p.isList
    exact PySem.W.kia_one PySem.W.kitx_list I.kIn ⟨o, h1, h2⟩ k (fun z => nomatch z) q
  | @tup a xs ds sq al =>
    cases (show u = Value.ref a from rx)
    obtain ⟨its, _, p, _⟩ := I.tuple sq
    obtain ⟨o, h1, h2, _⟩ := p
    exact PySem.W.kia_one PySem.W.kitx_tuple I.kIn ⟨o, h1, h2⟩ k (fun z => nomatch z) q
def rIsi (K : PySem.W.Frag) : List V → Hp → VK → Prop := fun vs H Q => ∃ v T d, vs = [v, .ty T] ∧ Dp K H v d ∧ (T = "int" ∨ T = "bool" ∨ T = "str" ∨ T = "tuple" ∨ T = "list") ∧ Q (.bl (isT (tyD d) T)) H
theorem cr_isi : CallR X (.builtin "isinstance") (rIsi X.K) := by
  intro pins s σ H vs us Q I r h
  obtain ⟨v, T, d, rfl, dp, hT, q⟩ := h
  cases r with
  | cons r1 rr =>
    cases rr with
    | cons r2 rr =>
      cases rr
      cases (show _ = Value.type T from r2)
      exact isi_at I r1 dp (kit_ty X.K d T hT) fun tk => ⟨.bl _, H, I.tok tk, rfl, q⟩
theorem boot_isi : bootBuiltins "isinstance" = some (.builtin "isinstance") := by decide +kernel
theorem de_isi {x : Str} {T : String} (hg : Gl X "isinstance") (hm : X.mg "isinstance" = none) (hg2 : Gl X x) (hm2 : X.mg x = none) (hv : bootBuiltins x = some (.type T)) (hT : T = "int" ∨ T = "bool" ∨ T = "str" ∨ T = "tuple" ∨ T = "list") (he : DE X e te)
    (hs : starEach [e, .Name x p2] X.env = (false, eval e X.env) :: starEach [.Name x p2] X.env := by rfl) (hs2 : starEach [.Name x p2] X.env = (false, eval (.Name x p2) X.env) :: starEach [] X.env := by rfl) (hpl : (backTo pos (starEach [.Name x p2] X.env)).any (·.1) = false := by rfl)
    (hn : x ≠ "__name__" := by decide) (hdb : (x == ("__debug__" : Str)) = false := by decide) : DE X (.Call (.Name "isinstance" p) [e, .Name x p2] [] pos) (dIsi (fun t => isT t T) te) := by
  refine de_of (pe_callB cr_isi hg hm boot_isi (pa_cons he.pe (pa_cons (pe_bltn (v := .ty T) hg2 hm2 hv rfl hn hdb) pa_nil hs2) hs) (he := hs) (hpl := hpl)) (mo_dIsi he.mono) fun σ H I δ m Q ok rl q => ?_
  refine ⟨I, δ, m, ok, rl, he.mono δ m _ _ (fun x m1 q1 v1 H1 I1 s1 o1 i1 => ?_) q⟩
  cases x with
  | r a => exact q1.elim
  | d d => exact ⟨v1, T, d, rfl, Dp.up o1 i1, hT, qd_same o1 s1 (isB _) q1⟩
end
end DL
namespace DL
open PySem PySem.Spec PyProof.Rows L2
section
variable {X : Cx} {pos : Pos}
end
end DL
namespace DL
open PySem PySem.Spec PyProof.Rows L2
section
variable {X : Cx} {e : Expr} {te : TD} {pos p2 : Pos} {lo hi : Option Expr}
def dSlM (te : TD) (tl th : TOd) : TD := fun δ m Q => te δ m fun x m1 => tl δ m1 fun l m2 => th δ m2 fun u m3 => ∃ a xs, x = .r a ∧ m3 a = some (.lst (xs.map .d)) ∧ Q (.d (.list (cutD xs l u))) m3
end
end DL
namespace DL
open PySem PySem.Spec PyProof.Rows L2
section
variable {X : Cx}
variable {elt iter iter1 : Expr} {scope : Scope} {pos ppos ppos1 : Pos} {w w1 : TId} {te : TD} {x y : Str} {i j : Nat}
end
end DL
namespace DL
open PySem PySem.Spec PyProof.Rows L2
section
variable {X : Cx} {e : Expr} {t : TAd} {pos : Pos}
def gListM : RAD
  | [.d (.list xs)], m, Q => ∀ p, m p = none → Q (.r p) (setM m p (.lst (xs.map .d)))
  | [.d (.tuple xs)], m, Q => ∀ p, m p = none → Q (.r p) (setM m p (.lst (xs.map .d)))
  | _, _, _ => False
def gTupleM : RAD
  | [.r a], m, Q => ∃ xs, m a = some (.lst (xs.map .d)) ∧ Q (.d (.tuple xs)) m
  | _, _, _ => False
end
end DL
namespace DL
open PySem PySem.Spec PyProof.Rows L2
section
variable {X : Cx} {a b c : Expr} {t : TAd} {pos pt pt2 px py pz : Pos} {kt k2} {i j k : Nat} {x y z : Str}
def sPar (i j : Nat) (t : TAd) : TSd := fun D δ m => t δ m fun ds m1 => ∃ v w, ds = [v, w] ∧ D.nx ((δ.set i (some v)).set j (some w)) m1
end
end DL
namespace DL
open PySem PySem.Spec PyProof.Rows L2
section
variable {X : Cx} {pos : Pos}
def gAnyU (K : PySem.W.Frag) (n : Nat) (t : TGs) : TG := fun v σ H Q => ∃ a xs, v = .ref a ∧ (SqT K H a xs ∨ SqL K H a xs) ∧ xs.length = n ∧ t xs σ H Q
theorem pg_anyU {es : List Expr} {k : Nat} {t : TGs} {n : Nat} (hc : X.calm = true) (h : PGs X es t)
    (hn : (assignEach es X.env).length = n := by rfl) (hst : (assignEach es X.env).findIdx? (·.1) = none := by rfl) : PG X (.Tuple es k pos) (gAnyU X.K n t) := by
  intro pins s σ H v u Q I r hw
  obtain ⟨a, xs, e1, hq, hl, hw⟩ := hw
  subst e1
  rcases hq with hq | hq
  · exact pg_tup hc h hn hst pins s σ H (.ref a) u Q I r ⟨a, xs, rfl, hq, hl, hw⟩
  · cases r
    obtain ⟨its, rv, pl, hz⟩ := I.list hq
    have e : (assignEach es X.env).length = its.toArray.size := by simp [hn, ← hl, rv.length]
    rw [assign_Tuple]
    refine wpAny_bind (wpAny_standAt ?_)
    unfold unpack
    rw [e, hst]
    refine wpAny_bind (wpAny_holding (PySem.W.kun_itemsOf (I.ok.hd hc) pl.isList fun h' hx => ?_))
    have I1 : Inv X pins σ H { s with heap := h' } := I.kept (t' := s.toks) fun b o e => hx b o (Nat.ne_of_lt (Heap.lt_size e)) e
    exact h pins _ σ H xs _ Q I1 (by simpa using rv) hw
def dgAny (n : Nat) (t : TGds) : TGd
  | .d (.tuple xs), δ, m, Q => xs.length = n ∧ t (xs.map .d) δ m Q
  | .d (.list xs), δ, m, Q => xs.length = n ∧ t (xs.map .d) δ m Q
  | .r a, δ, m, Q => ∃ xs, m a = some (.lst xs) ∧ xs.length = n ∧ t xs δ m Q
  | _, _, _, _ => False
theorem dg_any {es : List Expr} {k : Nat} {t : TGds} {n : Nat} (hc : X.calm = true) (h : DGs X es t)
    (hn : (assignEach es X.env).length = n := by rfl) (hst : (assignEach es X.env).findIdx? (·.1) = none := by rfl) : DG X (.Tuple es k pos) (dgAny n t) := by
  refine ⟨fun x δ m Q Q' hq q => ?_, PG.imp (pg_anyU hc h.pgs hn hst) fun v σ H Q ⟨I, δ, m, x, ok, rl, is, q⟩ => ?_⟩
  · unfold dgAny at q ⊢
    split at q
    · exact ⟨q.1, h.mono _ δ m Q Q' hq q.2⟩
    · exact ⟨q.1, h.mono _ δ m Q Q' hq q.2⟩
    · obtain ⟨xs, e, l, q⟩ := q; exact ⟨xs, e, l, h.mono _ δ m Q Q' hq q⟩
    · exact q.elim
  · unfold dgAny at q
    split at q
    · cases (show Dp X.K I v (.tuple _) from is) with
      | tup sq al => exact ⟨_, _, rfl, .inl (SqT.same ok.im sq), by rw [paired_len (isAll_of al), List.length_map]; exact q.1, I, _, _, _, ok, rl, isAll_of al, q.2⟩
    · cases (show Dp X.K I v (.list _) from is) with
      | lst sq al => exact ⟨_, _, rfl, .inr (Same.seq ok.im sq), by rw [paired_len (isAll_of al), List.length_map]; exact q.1, I, _, _, _, ok, rl, isAll_of al, q.2⟩
    · obtain ⟨xs, e, l, q⟩ := q
      have is : v = .ref _ := is
      subst is
      obtain ⟨ws, hw, al⟩ := ok.lst e
      exact ⟨_, ws, rfl, .inr (SqL.of hw), by rw [paired_len al]; exact l, I, _, _, _, ok, rl, al, q⟩
    · exact q.elim
end
section
variable {X : Cx} {e : Expr} {t : TAd} {pos : Pos}
end
end DL
namespace DL
open PySem PySem.Spec PyProof.Rows L2
abbrev KI (K : PySem.W.Frag) (I : Hp) : List (List Int × Dv) → List (List Key × Addr × Value) → Prop :=
  Paired fun p q => q.1 = p.1.map Sum.inl ∧ SqT K I q.2.1 (p.1.map V.int) ∧ ∃ v, RelV v q.2.2 ∧ Is K I v p.2
theorem KI.same {K : PySem.W.Frag} {I I' : Hp} (e : Same I I') {kvs : List (List Int × Dv)} {xs : List (List Key × Addr × Value)} (h : KI K I kvs xs) : KI K I' kvs xs :=
  paired_imp (fun _ _ ⟨a, b, v, c, d⟩ => ⟨a, SqT.same e b, v, c, d.same e⟩) h
def lookL : List (List Int × Dv) → List Int → Option Dv
  | [], _ => none
  | (k, x) :: r, k' => if k = k' then some x else lookL r k'
theorem inl_inj : ∀ {a b : List Int}, a.map (Sum.inl : Int → Key) = b.map Sum.inl → a = b
  | [], [], _ => rfl
  | [], _ :: _, h => by simp at h
  | _ :: _, [], h => by simp at h
  | x :: a, y :: b, h => by
    simp only [List.map_cons, List.cons.injEq, Sum.inl.injEq] at h
    rw [h.1, inl_inj h.2]
theorem KI.get {K : PySem.W.Frag} {I : Hp} {ks : List Int} {x : Dv} : ∀ {kvs : List (List Int × Dv)} {xs : List (List Key × Addr × Value)}, KI K I kvs xs → lookL kvs ks = some x → ∃ p, atKey xs (ks.map Sum.inl) = some p ∧ ∃ v, RelV v p.2 ∧ Is K I v x
  | _, _, .nil, e => by cases e
  | _, _, .cons (a := p) (b := q) h t, e => by
    unfold lookL at e
    by_cases z : p.1 = ks
    · rw [if_pos z] at e; cases e
      exact ⟨q.2, by simp [atKey, List.find?_cons, h.1, z], h.2.2⟩
    · rw [if_neg z] at e
      obtain ⟨p', h1, h2⟩ := KI.get t e
      have n : ¬ q.1 = ks.map Sum.inl := fun y => z (inl_inj (h.1.symm.trans y))
      refine ⟨p', Eq.trans ?_ h1, h2⟩
      simp [atKey, List.find?_cons, n]
theorem KI.new {K : PySem.W.Frag} {I : Hp} {ks : List Int} : ∀ {kvs : List (List Int × Dv)} {xs : List (List Key × Addr × Value)}, KI K I kvs xs → (∀ p ∈ kvs, p.1 ≠ ks) → (∀ q ∈ xs, q.1 ≠ ks.map Sum.inl)
  | _, _, .nil, _ => by simp
  | _, _, .cons (a := p) (b := q) h t, e => by
    intro q' hq
    rcases List.mem_cons.mp hq with rfl | hq
    · exact fun y => e p (by simp) (inl_inj (h.1.symm.trans y))
    · exact KI.new t (fun p' hp => e p' (by simp [hp])) q' hq
theorem keyI {X : Cx} {pins : List (Addr × Obj)} {σ : L2.St} {H : Hp} {s : Shared} (I : Inv X pins σ H s) {b : Addr} {ks : List Int} (h : SqT X.K H b (ks.map V.int)) : (tupleKind (mixKind X.prog X.w)).is s.heap (ks.map Sum.inl) b := by
  obtain ⟨its, r, ⟨o, h1, h2, n, h3⟩, _⟩ := I.tuple h
  have e : ks.map V.int = (ks.map (Sum.inl : Int → Key)).map kV := by rw [List.map_map]; rfl
  rw [e] at r
  exact ⟨o, its.toArray, n, h1, h2, h3, by simpa using items_are r⟩
theorem KI.all {X : Cx} {pins : List (Addr × Obj)} {σ : L2.St} {H : Hp} {s : Shared} (I : Inv X pins σ H s) : ∀ {kvs : List (List Int × Dv)} {xs : List (List Key × Addr × Value)}, KI X.K H kvs xs → ∀ x ∈ xs, (tupleKind (mixKind X.prog X.w)).is s.heap x.1 x.2.1
  | _, _, .nil => by simp
  | _, _, .cons (a := p) (b := q) h t => by
    intro x hx
    rcases List.mem_cons.mp hx with rfl | hx
    · rw [h.1]; exact keyI I h.2.1
    · exact KI.all I t x hx
theorem KI.len {K : PySem.W.Frag} {I : Hp} {kvs : List (List Int × Dv)} {xs : List (List Key × Addr × Value)} (h : KI K I kvs xs) : kvs.length = xs.length := paired_len h
section
variable {X : Cx} {pos : Pos}
end
end DL
namespace DL
open PySem PySem.Spec PyProof.Rows L2
section
variable {X : Cx} {e : Expr} {t : TAd} {pos : Pos}
def gListD : RAD
  | [.d (.list xs)], m, Q => Q (.d (.list xs)) m
  | [.d (.tuple xs)], m, Q => Q (.d (.list xs)) m
  | _, _, _ => False
end
end DL
namespace DL
open PySem PySem.Spec PyProof.Rows L2
def occ (i j : Str) : Bool := !(Builtin.Str.occurrences j i 0 j.length 1).isEmpty
def gInS : R2D
  | .d (.str i), .d (.str j), m, Q => Q (.d (.bool (occ i j))) m
  | _, _, _, _ => False
section
variable {X : Cx} {a b : Expr} {ta tb : TD} {pos : Pos}
end
end DL
namespace DL
open PySem PySem.Spec PyProof.Rows L2
section
variable {X : Cx} {a b e : Expr} {ta tb te : TD} {pos pos2 : Pos}
def dRep1 (te tb : TD) : TD := fun δ m Q => te δ m fun x m1 => tb δ m1 fun y m2 => ∃ (d : PyData) (k : Int), x = .d d ∧ y = .d (.int k) ∧ k ≤ 16777216 ∧ -(2 ^ 63) ≤ k ∧ Q (.d (.list (List.replicate k.toNat d))) m2
theorem dp_rep {K : PySem.W.Frag} {I : Hp} {v : V} {d : PyData} (h : Dp K I v d) : ∀ k : Nat, DpAll K I (List.replicate k [v]).flatten (List.replicate k d)
  | 0 => .nil
  | k + 1 => by
    rw [List.replicate_succ, List.flatten_cons, List.replicate_succ]
    exact .cons h (dp_rep h k)
theorem de_rep1 (he : DE X e te) (hb : DE X b tb) (hs : starEach [e] X.env = (false, eval e X.env) :: starEach [] X.env := by rfl) : DE X (.BinOp (.List [e] pos2) .Mult b pos) (dRep1 te tb) := by
  refine de_of (pe_op op_rep (pe_lst (pa_cons he.pe pa_nil hs)) hb.pe) (fun δ m Q Q' hq q => he.mono δ m _ _ (fun x m1 z => hb.mono δ m1 _ _ (fun y m2 ⟨d, k, e1, e2, e3, e4, z⟩ => ⟨d, k, e1, e2, e3, e4, hq _ _ z⟩) z) q) fun σ H I δ m Q ok rl q => ?_
  refine ⟨I, δ, m, ok, rl, he.mono δ m _ _ (fun x m1 q1 v1 H1 I1 s1 o1 i1 => ?_) q⟩
  refine ⟨by show 1 ≤ sizeLine; decide, fun p hp => ?_⟩
  have fI := o1.free hp
  have o2 := o1.new (o := .lst [v1]) hp
  have sn : Same I1 (upd I1 p (.lst [v1])) := same_new (H := H1) fI
  refine ⟨upd I1 p (.lst [v1]), δ, m1, o2, (rl.same s1).same sn, hb.mono δ m1 _ _ (fun y m2 ⟨d, k, e1, e2, e3, e4, z⟩ v2 H2 I2 s2 o3 i2 => ?_) q1⟩
  subst e1 e2
  have hpI : H2 p = some (.lst [v1]) := o3.im _ _ (s2 _ _ upd_same)
  refine ⟨p, k, [v1], rfl, i2.int, hpI, e4, by omega, ?_, fun p2 hp2 => ?_⟩
  · rw [sizeLine_eq]
    show 1 * k.toNat ≤ _
    omega
  · exact qd_newL o3 ((s1.trans sn).trans s2) hp2 (dp_rep (Dp.same (sn.trans s2) i1) k.toNat) z
def gAddT : R2D
  | .d (.tuple xs), .d (.tuple ys), m, Q => xs ≠ [] ∧ ys ≠ [] ∧ xs.length + ys.length ≤ 16777216 ∧ Q (.d (.tuple (xs ++ ys))) m
  | _, _, _, _ => False
end
end DL
namespace DL
open PySem PySem.Spec PyProof.Rows L2
section
variable {X : Cx} {o e : Expr} {to te : TD} {pos apos : Pos}
end
end DL
namespace DL
open PySem PySem.Spec PyProof.Rows L2
theorem SqLs {K : PySem.W.Frag} {H H' : Hp} {a : Addr} {xs : List V} (e : Same H H') (h : SqL K H a xs) : SqL K H' a xs := by
  rcases h with (h | ⟨o, h⟩) | h
  · exact .inl (.inl (e _ _ h))
  · exact .inl (.inr ⟨o, e _ _ h⟩)
  · exact .inr h
theorem count_vals {y : V} : ∀ {xs : List V} {us : List Value}, Vals xs us → xs.all flatV = true → us.countP (eqU y) = xs.countP (fun z => eqV z y)
  | _, _, .nil, _ => rfl
  | x :: xs, u :: us, .cons r t, f => by
    rw [List.all_cons, Bool.and_eq_true] at f
    rw [List.countP_cons, List.countP_cons, count_vals t f.2, eqU_of r f.1]
theorem count_data {K : PySem.W.Frag} {I : Hp} {v : V} {y : PyData} (hv : Is K I v (.d y)) (fy : flatD y = true) : ∀ {vs : List V} {ys : List PyData}, DpAll K I vs ys → ys.all flatD = true → vs.countP (fun z => eqV z v) = ys.countP (fun z => PyData.eqv z y)
  | _, _, .nil, _ => rfl
  | _, _, .cons a t, f => by
    rw [List.all_cons, Bool.and_eq_true] at f
    rw [List.countP_cons, List.countP_cons, count_data hv fy t f.2, eqV_of (show Is K I _ (.d _) from a) hv f.1 fy]
section
variable {X : Cx} {o e : Expr} {to te : TD} {pos apos : Pos}
def rCountL (K : PySem.W.Frag) : V → List V → Hp → VK → Prop := fun x xs H Q => ∃ (a : Addr) (ys : List V) (y : V), x = V.ref a ∧ xs = [y] ∧ SqL K H a ys ∧ flatV y = true ∧ ys.all flatV = true ∧ Q (.int (ys.countP fun z => eqV z y : Nat)) H
theorem mt_countL : MtR X "list.count" (rCountL X.K) := by
  intro pins s σ H x xs v us Q I rx rxs h
  obtain ⟨a, ys, y, rfl, rfl, hs, fy, fys, q⟩ := h
  cases rx
  cases rxs with
  | cons ry rt =>
    rename_i uy ut
    cases rt
    obtain ⟨its, rv, ⟨⟨cls, dd, data, sl⟩, n, ho, hc, hd0, hd⟩, hlen⟩ := I.list hs
    simp only at hc hd hd0
    subst hc hd hd0
    refine call_meets PySem.F.slot_list_count ⟨_, ho, rfl⟩ PySem.F.entry_list_count (PySem.F.args_list_count_2 _ _)
      (SeqAt.list_countAt a its.toArray n _ sl uy (eqU y)) ⟨ho, fun u' hu' => mem_eqAt ry fy rv fys u' (by simpa using hu'), ?_⟩
    rw [← count_vals rv fys] at q
    exact ⟨.int ((its.countP (eqU y) : Nat) : Int), H, I.tok _, ⟨_, rfl⟩, q⟩
def dCountL (to te : TD) : TD := fun δ m Q => to δ m fun x m1 => ∃ ys : List PyData, x = .d (.list ys) ∧ ys.all flatD = true ∧ te δ m1 fun y m2 => ∃ y', y = .d y' ∧ flatD y' = true ∧ Q (.d (.int (ys.countP fun z => PyData.eqv z y' : Nat))) m2
theorem de_countL (ho : DE X o to) (he : DE X e te)
    (hbase : attributeBase o "count" X.env (eval o X.env) = eval o X.env := by rfl)
    (hfew : ((backTo pos (starEach [e] X.env)).all (fun x => !x.1) && (backToKw pos (keywordEach [] X.env)).all (fun x => x.1.isSome)
      && decide (([e] : List Expr).length + ([] : List Keyword).length + (if ([] : List Keyword).isEmpty then 0 else 1) < 30)) = true := by rfl)
    (hline : (apos.endLine == pos.line) = true := by rfl) (hs : starEach [e] X.env = (false, eval e X.env) :: starEach [] X.env := by rfl) (hplain : (backTo pos (starEach [] X.env)).any (·.1) = false := by rfl) :
    DE X (.Call (.Attribute o "count" apos) [e] [] pos) (dCountL to te) := by
  have mo : Mo (dCountL to te) := fun δ m Q Q' hq q => ho.mono δ m _ _ (fun x m1 ⟨ys, e1, e2, z⟩ => ⟨ys, e1, e2, he.mono δ m1 _ _ (fun y m2 ⟨y', e3, e4, z⟩ => ⟨y', e3, e4, hq _ _ z⟩) z⟩) q
  refine de_of (pe_bm (hbase := hbase) (hfew := hfew) (hline := hline) (hs := hs) (hplain := hplain) PySem.F.plainAttrs_list PySem.F.slot_list_count PySem.F.type_list_count mt_countL ho.pe (pa_cons he.pe pa_nil hs)) mo fun σ H I δ m Q ok rl q => ?_
  refine ⟨I, δ, m, ok, rl, ho.mono δ m _ _ (fun x m1 ⟨ys, ex, ey, z⟩ v1 H1 I1 s1 o1 i1 => ?_) q⟩
  subst ex
  cases (show Dp X.K I1 v1 (.list ys) from i1) with
  | @lst b vs _ sq al =>
    refine ⟨.inl ⟨rfl, vs, DL.SqLs o1.im sq⟩, I1, δ, m1, o1, rl.same s1, he.mono δ m1 _ _ (fun y m2 ⟨y', e3, e4, z⟩ v2 H2 I2 s2 o2 i2 => ?_) z⟩
    subst e3
    have al2 := DpAll.same s2 al
    refine ⟨b, vs, v2, rfl, rfl, DL.SqLs o2.im (DL.SqLs s2 sq), flat_of i2 e4, flats_of al2 ey, ?_⟩
    rw [count_data i2 e4 al2 ey]
    exact qd_same o2 (s1.trans s2) (isI _) z
end
end DL
namespace DL
open PySem
theorem below_spec (xs : Array Nat) (j : Nat) (hs : xs.toList.Pairwise (· < ·)) :
    SetTable.below xs j ≤ xs.size ∧ (∀ (i v : Nat), xs[i]? = some v → i < SetTable.below xs j → v < j) ∧ (∀ (i v : Nat), xs[i]? = some v → SetTable.below xs j ≤ i → j ≤ v) := by
  have hlt : ∀ (i k v u : Nat), xs[i]? = some v → xs[k]? = some u → i < k → v < u := by
    intro i k v u hi hk h
    rw [← Array.getElem?_toList] at hi hk
    obtain ⟨p1, rfl⟩ := List.getElem?_eq_some_iff.mp hi
    obtain ⟨p2, rfl⟩ := List.getElem?_eq_some_iff.mp hk
    exact List.pairwise_iff_getElem.mp hs i k p1 p2 h
  have key : ∀ (fuel lo hi : Nat), hi ≤ xs.size → lo ≤ hi → hi - lo ≤ fuel → (∀ (i v : Nat), xs[i]? = some v → i < lo → v < j) → (∀ (i v : Nat), xs[i]? = some v → hi ≤ i → j ≤ v) →
      SetTable.below.go xs j fuel lo hi ≤ xs.size ∧ (∀ (i v : Nat), xs[i]? = some v → i < SetTable.below.go xs j fuel lo hi → v < j) ∧ (∀ (i v : Nat), xs[i]? = some v → SetTable.below.go xs j fuel lo hi ≤ i → j ≤ v) := by
    intro fuel
    induction fuel with
    | zero =>
      intro lo hi h1 h2 h3 ha hb
      have : lo = hi := by omega
      subst this
      exact ⟨h1, ha, hb⟩
    | succ n ih =>
      intro lo hi h1 h2 h3 ha hb
      unfold SetTable.below.go
      by_cases c : lo < hi
      · rw [if_pos c]
        have hm : (lo + hi) / 2 < xs.size := by omega
        have hget : xs[(lo + hi) / 2]? = some xs[(lo + hi) / 2] := Array.getElem?_eq_getElem hm
        have hgd : xs.getD ((lo + hi) / 2) j = xs[(lo + hi) / 2] := by simp [Array.getD, hm]
        dsimp only
        rw [hgd]
        by_cases d : xs[(lo + hi) / 2] < j
        · rw [if_pos d]
          refine ih _ _ h1 (by omega) (by omega) (fun i v hq hl => ?_) hb
          rcases Nat.lt_or_ge i ((lo + hi) / 2) with e | e
          · exact Nat.lt_trans (hlt _ _ _ _ hq hget e) d
          · have : i = (lo + hi) / 2 := by omega
            subst this
            rw [hget] at hq; cases hq; exact d
        · rw [if_neg d]
          refine ih _ _ (by omega) (by omega) (by omega) ha (fun i v hq hl => ?_)
          rcases Nat.lt_or_ge ((lo + hi) / 2) i with e | e
          · have := hlt _ _ _ _ hget hq e; omega
          · have : i = (lo + hi) / 2 := by omega
            subst this
            rw [hget] at hq; cases hq; omega
      · rw [if_neg c]
        have : lo = hi := by omega
        subst this
        exact ⟨h1, ha, hb⟩
  exact key xs.size 0 xs.size (Nat.le_refl _) (Nat.zero_le _) (by omega) (fun i v _ h => absurd h (Nat.not_lt_zero _)) (fun i v hi h => by
    have := (Array.getElem?_eq_some_iff.mp hi).1; omega)
structure Tk (w : World) (t : SetTable) : Prop where
  led : t.led = !w.params.followText "set-order"
  dum : t.dummies = #[]
  ris : t.place.toList.Pairwise (· < ·)
variable {w : World}
theorem Tk.fresh : Tk w (.fresh 0 0 (!w.params.followText "set-order")) := ⟨rfl, rfl, by simp [SetTable.fresh]⟩
theorem Tk.stand {t : SetTable} (h : Tk w t) (n : Nat) : Tk w (t.standIn n) :=
  ⟨h.led, rfl, by simpa [SetTable.standIn] using List.pairwise_lt_range⟩
theorem ins_rising {xs : Array Nat} {j : Nat} (hs : xs.toList.Pairwise (· < ·)) (hn : xs[SetTable.below xs j]? ≠ some j) : (SetTable.insertAt xs (SetTable.below xs j) j).toList.Pairwise (· < ·) := by
  obtain ⟨h1, h2, h3⟩ := below_spec xs j hs
  rw [SetTable.toList_insertAt, List.pairwise_append]
  have hd : ∀ v ∈ xs.toList.drop (SetTable.below xs j), j < v := by
    intro v hv
    obtain ⟨i, hi⟩ := List.getElem?_of_mem hv
    rw [List.getElem?_drop, Array.getElem?_toList] at hi
    have := h3 _ _ hi (by omega)
    rcases Nat.lt_or_ge j v with c | c
    · exact c
    · exfalso
      have e : v = j := by omega
      subst e
      rcases Nat.eq_zero_or_pos i with rfl | hp
      · exact hn hi
      · have hb : SetTable.below xs v < xs.size := by have := (Array.getElem?_eq_some_iff.mp hi).1; omega
        have q1 := h3 _ _ (Array.getElem?_eq_getElem hb) (Nat.le_refl _)
        obtain ⟨p2, q2⟩ := Array.getElem?_eq_some_iff.mp hi
        have := List.pairwise_iff_getElem.mp hs (SetTable.below xs v) (SetTable.below xs v + i) (by simpa using hb) (by simpa using p2) (by omega)
        simp only [Array.getElem_toList] at this
        omega
  refine ⟨hs.sublist (List.take_sublist _ _), List.pairwise_cons.mpr ⟨hd, hs.sublist (List.drop_sublist _ _)⟩, fun a ha b hb => ?_⟩
  obtain ⟨i, hi⟩ := List.getElem?_of_mem ha
  have hi2 : i < SetTable.below xs j := by
    have := (List.getElem?_eq_some_iff.mp hi).1
    rw [List.length_take] at this; omega
  rw [List.getElem?_take_of_lt hi2, Array.getElem?_toList] at hi
  have := h2 _ _ hi hi2
  rcases List.mem_cons.mp hb with rfl | hb
  · exact this
  · have := hd b hb; omega
theorem Tk.put {t : SetTable} (h : Tk w t) {j : Nat} (hj : t.slot j = .empty) : Tk w (t.put j).1 := by
  refine ⟨h.led, ?_, ?_⟩
  · show (if SetTable.has t.dummies j = true then _ else t.dummies) = #[]
    rw [h.dum]
    simp [SetTable.has]
  · show (SetTable.insertAt t.place (SetTable.below t.place j) j).toList.Pairwise (· < ·)
    refine ins_rising h.ris fun e => ?_
    unfold SetTable.slot at hj
    dsimp only at hj
    rw [e] at hj
    simp at hj
theorem Tk.or {t : SetTable} (h : Tk w t) (n : Nat) : Tk w (t.orStandIn n) := by
  unfold SetTable.orStandIn
  split
  · exact h
  · exact h.stand n
theorem filterMap_rising {f : Nat → Option (Nat × Nat)} (hf : ∀ j p, f j = some p → p.1 = j) : ∀ (l : List Nat), l.Pairwise (· < ·) → ((l.filterMap f).map (·.1)).Pairwise (· < ·) := by
  intro l
  induction l with
  | nil => intro _; simp
  | cons a t ih =>
    intro h
    obtain ⟨h1, h2⟩ := List.pairwise_cons.mp h
    rw [List.filterMap_cons]
    split
    · exact ih h2
    · rename_i p hp
      rw [List.map_cons, List.pairwise_cons]
      refine ⟨fun b hb => ?_, ih h2⟩
      obtain ⟨q, hq, rfl⟩ := List.mem_map.mp hb
      obtain ⟨c, hc, hq⟩ := List.mem_filterMap.mp hq
      rw [hf _ _ hp, hf _ _ hq]
      exact h1 c hc
theorem Tk.laid {t : SetTable} (h : Tk w t) {es : Array Int} {n : Nat} {t' : SetTable} {order : Array Nat} (e : t.relaid es n = some (t', order)) : Tk w t' := by
  unfold SetTable.relaid SetTable.laid at e
  obtain ⟨owner, _, e⟩ := Option.bind_eq_some_iff.mp e
  simp only [pure, Option.some.injEq, Prod.mk.injEq] at e
  obtain ⟨rfl, _⟩ := e
  refine ⟨h.led, rfl, ?_⟩
  dsimp only
  refine filterMap_rising (f := fun j => (owner.getD j none).map (j, ·)) (fun j p e => ?_) _ List.pairwise_lt_range
  obtain ⟨k, _, rfl⟩ := Option.map_eq_some_iff.mp e
  rfl
end DL
namespace DL
open PySem PySem.Spec PyProof.Rows
def SetI (P : Program) (w : World) (a : Addr) (ks : List Int) (h : Heap) : Prop :=
  ∃ o es ep t, h.get? a = some o ∧ o.ExactSet ∧ o.data = .set es ep t ∧ ElemsOf (intKind P w) es.toList ∧ es.size < scanBound ∧ t.fits es.size = true ∧ Tk w t ∧
    ∃ l : List Int, l.Perm ks ∧ IntsAre (es.toList.map (·.2)) l
theorem SetI.typeIs {P : Program} {w : World} {a : Addr} {ks : List Int} {s : Shared} (h : SetI P w a ks s.heap) : s.TypeIs (.ref a) "set" := by
  obtain ⟨o, _, _, _, ho, hx, _⟩ := h
  exact ⟨o, ho, hx.1⟩
theorem SetI.at {P : Program} {w : World} {a : Addr} {ks : List Int} {h h' : Heap} (x : SetI P w a ks h) (k : ∀ o, h.get? a = some o → h'.get? a = some o) : SetI P w a ks h' := by
  obtain ⟨o, es, ep, t, ho, r⟩ := x
  exact ⟨o, es, ep, t, k o ho, r⟩
section
variable {P : Program} {w : World} {A : Around} {E : Value → Shared → Prop} {s : Shared} {a : Addr}
end
end DL
namespace DL
open PySem PySem.Spec PyProof.Rows
section
variable {P : Program} {w : World} {A : Around} {R : Result → Shared → Prop} {I : Addr} {fp wr : List Addr} {G : Array GenState → Array GenState → Prop} {n : Nat} {Pv : Nat → Value → Prop} {St : Nat → Shared → Prop}
end
section
variable {P : Program} {w : World} {A : Around} {E : Value → Shared → Prop} {s : Shared}
end
end DL
namespace DL
open PySem PySem.Spec PyProof.Rows
section
variable {P : Program} {w : World} {A : Around} {E : Value → Shared → Prop} {s : Shared} {a it : Addr}
def SIt (h : Heap) (it a : Addr) (f : Value) (i n ep : Nat) : Prop :=
  ∃ o, h.get? it = some o ∧ o.cls = .type "set_iterator" ∧ o.data = .fields #[f, .int i 0, .ref a, .int n 0, .int ep 0]
theorem SIt.typeIs {f : Value} {i n ep : Nat} (x : SIt s.heap it a f i n ep) : s.TypeIs (.ref it) "set_iterator" := let ⟨o, ho, hc, _⟩ := x; ⟨o, ho, hc⟩
theorem SIt.at {h h' : Heap} {f : Value} {i n ep : Nat} (x : SIt h it a f i n ep) (k : ∀ o, h.get? it = some o → h'.get? it = some o) : SIt h' it a f i n ep := let ⟨o, ho, r⟩ := x; ⟨o, k o ho, r⟩
def SOb (h : Heap) (a : Addr) (es : Array (Int × Value)) (ep : Nat) (t : SetTable) : Prop := ∃ o, h.get? a = some o ∧ o.ExactSet ∧ o.data = .set es ep t ∧ t.fits es.size = true
theorem SOb.at {h h' : Heap} {es : Array (Int × Value)} {ep : Nat} {t : SetTable} (x : SOb h a es ep t) (k : ∀ o, h.get? a = some o → h'.get? a = some o) : SOb h' a es ep t := let ⟨o, ho, r⟩ := x; ⟨o, k o ho, r⟩
end
end DL
namespace DL
open PySem PySem.Spec PyProof.Rows
section
variable {P : Program} {w : World} {A : Around} {E : Value → Shared → Prop} {s : Shared} {a it : Addr}
end
end DL
namespace DL
open PySem PySem.Spec PyProof.Rows
section
variable {P : Program} {w : World} {A : Around} {E : Value → Shared → Prop} {s : Shared} {a : Addr}
end
end DL
namespace DL
open PySem PySem.Spec PyProof.Rows
section
variable {P : Program} {w : World} {A : Around} {E : Value → Shared → Prop} {s : Shared} {a : Addr}
end
end DL
namespace DL
open PySem PySem.Spec PyProof.Rows L2
section
variable {prog : Program} {w : World} {A : Around} {E : Value → Shared → Prop} {s : Shared}
end
section
variable {X : Cx} {a b c d : Expr} {t : TAd} {pos : Pos}
end
end DL
namespace Sp
def ab (i : Int) : Int := if i < 0 then -i else i
def mx (i j : Int) : Int := if j > i then j else i
def ring (x y : Int) : Int := mx (ab x) (ab y)
def po (x y : Int) : Int :=
  if y = -(ring x y) then 4 * (ring x y) * (ring x y) + 3 * (ring x y) + x
  else if x = -(ring x y) then 4 * (ring x y) * (ring x y) + (ring x y) - y
  else if y = ring x y then 4 * (ring x y) * (ring x y) - (ring x y) - x
  else 4 * (ring x y) * (ring x y) - 3 * (ring x y) + y
theorem ring_cases (x y : Int) : 0 ≤ ring x y ∧ x ≤ ring x y ∧ -x ≤ ring x y ∧ y ≤ ring x y ∧ -y ≤ ring x y ∧ (x = ring x y ∨ -x = ring x y ∨ y = ring x y ∨ -y = ring x y) := by
  unfold ring mx ab
  repeat' split
  all_goals omega
theorem po_sides (x y : Int) : ∃ k, ring x y = k ∧ 0 ≤ k ∧
    ((y = -k ∧ -k ≤ x ∧ x ≤ k ∧ po x y = 4 * k * k + 3 * k + x) ∨ (x = -k ∧ -k < y ∧ y ≤ k ∧ po x y = 4 * k * k + k - y) ∨ (y = k ∧ -k < x ∧ x ≤ k ∧ po x y = 4 * k * k - k - x) ∨ (x = k ∧ -k < y ∧ y < k ∧ po x y = 4 * k * k - 3 * k + y)) := by
  obtain ⟨h0, h1, h2, h3, h4, h5⟩ := ring_cases x y
  refine ⟨ring x y, rfl, h0, ?_⟩
  unfold po
  generalize ring x y = k at *
  by_cases a : y = -k
  · left; rw [if_pos a]; exact ⟨a, by omega, by omega, rfl⟩
  · rw [if_neg a]
    by_cases b : x = -k
    · right; left; rw [if_pos b]; exact ⟨b, by omega, by omega, rfl⟩
    · rw [if_neg b]
      by_cases c : y = k
      · right; right; left; rw [if_pos c]; exact ⟨c, by omega, by omega, rfl⟩
      · right; right; right; rw [if_neg c]; exact ⟨by omega, by omega, by omega, rfl⟩
theorem po_bounds (x y : Int) : 0 ≤ po x y ∧ 4 * ring x y * ring x y - 4 * ring x y ≤ po x y ∧ po x y ≤ 4 * ring x y * ring x y + 4 * ring x y ∧ (0 < ring x y → 4 * ring x y * ring x y - 4 * ring x y < po x y) := by
  obtain ⟨k, e, h0, h⟩ := po_sides x y
  rw [e]
  have hk : 0 ≤ 4 * k * k - 4 * k := by
    rcases Int.lt_or_le 0 k with hp | hp
    · have : 4 * k * 1 ≤ 4 * k * k := Int.mul_le_mul_of_nonneg_left (by omega) (by omega)
      omega
    · have : k = 0 := by omega
      subst this; decide
  rcases h with ⟨_, _, _, h⟩ | ⟨_, _, _, h⟩ | ⟨_, _, _, h⟩ | ⟨_, _, _, h⟩ <;> rw [h] <;> refine ⟨by omega, by omega, by omega, fun _ => by omega⟩
theorem ring_inj {x y x' y' : Int} (e : po x y = po x' y') : ring x y = ring x' y' := by
  have key : ∀ j k : Int, 0 ≤ j → 0 ≤ k → ∀ n, n ≤ 4 * j * j + 4 * j → (0 < k → 4 * k * k - 4 * k < n) → k ≤ j := by
    intro j k hj hk n h1 h2
    rcases Int.lt_or_le j k with h | h
    · exfalso
      have h2 := h2 (by omega)
      have hm : 4 * (j + 1) * j ≤ 4 * k * (k - 1) := by
        have a1 : 4 * (j + 1) * j ≤ 4 * k * j := Int.mul_le_mul_of_nonneg_right (by omega) hj
        have a2 : 4 * k * j ≤ 4 * k * (k - 1) := Int.mul_le_mul_of_nonneg_left (by omega) (by omega)
        omega
      have e1 : 4 * (j + 1) * j = 4 * j * j + 4 * j := by rw [Int.mul_add, Int.add_mul]; simp
      have e2 : 4 * k * (k - 1) = 4 * k * k - 4 * k := by rw [Int.mul_sub]; simp
      omega
    · exact h
  obtain ⟨_, _, b1, b2⟩ := po_bounds x y
  obtain ⟨_, _, c1, c2⟩ := po_bounds x' y'
  have r1 := (ring_cases x y).1
  have r2 := (ring_cases x' y').1
  exact Int.le_antisymm (key _ _ r2 r1 _ (by rw [e]; exact c1) b2) (key _ _ r1 r2 _ (by rw [← e]; exact b1) c2)
theorem po_inj {x y x' y' : Int} (e : po x y = po x' y') : x = x' ∧ y = y' := by
  have er := ring_inj e
  obtain ⟨k, e1, h0, h⟩ := po_sides x y
  obtain ⟨k', e2, h0', h'⟩ := po_sides x' y'
  have : k' = k := by rw [← e1, ← e2, er]
  subst this
  rcases h with ⟨_, _, _, h⟩ | ⟨_, _, _, h⟩ | ⟨_, _, _, h⟩ | ⟨_, _, _, h⟩ <;> rcases h' with ⟨_, _, _, h'⟩ | ⟨_, _, _, h'⟩ | ⟨_, _, _, h'⟩ | ⟨_, _, _, h'⟩ <;> rw [h, h'] at e <;> omega
theorem po_of {x y k : Int} (hk : 0 ≤ k) (h : (y = -k ∧ -k ≤ x ∧ x ≤ k) ∨ (x = -k ∧ -k < y ∧ y ≤ k) ∨ (y = k ∧ -k < x ∧ x ≤ k) ∨ (x = k ∧ -k < y ∧ y < k)) :
    ring x y = k ∧ po x y = (if y = -k then 4 * k * k + 3 * k + x else if x = -k then 4 * k * k + k - y else if y = k then 4 * k * k - k - x else 4 * k * k - 3 * k + y) := by
  have er : ring x y = k := by
    obtain ⟨h0, h1, h2, h3, h4, h5⟩ := ring_cases x y
    omega
  refine ⟨er, ?_⟩
  unfold po
  rw [er]
end Sp
namespace Sp
def IsRoot (n r : Int) : Prop := 0 ≤ r ∧ r * r ≤ n ∧ n < (r + 1) * (r + 1)
theorem root_unique {n r r' : Int} (h : IsRoot n r) (h' : IsRoot n r') : r = r' := by
  have key : ∀ a b : Int, IsRoot n a → IsRoot n b → a ≤ b := by
    intro a b ⟨a0, a1, _⟩ ⟨b0, _, b2⟩
    rcases Int.lt_or_le b a with l | l
    · exfalso
      have : (b + 1) * (b + 1) ≤ a * a := Int.mul_le_mul (by omega) (by omega) (by omega) a0
      omega
    · exact l
  exact Int.le_antisymm (key _ _ h h') (key _ _ h' h)
def rotx (q : Nat) (x y : Int) : Int := if q = 1 then -y else if q = 2 then -x else if q = 3 then y else x
def roty (q : Nat) (x y : Int) : Int := if q = 1 then x else if q = 2 then -y else if q = 3 then -x else y
def mir (r : Bool) (y : Int) : Int := if r then -y else y
def tpx (q : Nat) (r : Bool) (x y : Int) : Int := rotx ((4 - q) % 4) x y
def tpy (q : Nat) (r : Bool) (x y : Int) : Int := mir r (roty ((4 - q) % 4) x y)
def fpx (q : Nat) (r : Bool) (u v : Int) : Int := rotx q u (mir r v)
def fpy (q : Nat) (r : Bool) (u v : Int) : Int := roty q u (mir r v)
theorem tp_fp {q : Nat} (hq : q < 4) (r : Bool) (u v : Int) : tpx q r (fpx q r u v) (fpy q r u v) = u ∧ tpy q r (fpx q r u v) (fpy q r u v) = v := by
  rcases (show q = 0 ∨ q = 1 ∨ q = 2 ∨ q = 3 by omega) with rfl | rfl | rfl | rfl <;> cases r <;> simp [tpx, tpy, fpx, fpy, rotx, roty, mir]
theorem fp_tp {q : Nat} (hq : q < 4) (r : Bool) (x y : Int) : fpx q r (tpx q r x y) (tpy q r x y) = x ∧ fpy q r (tpx q r x y) (tpy q r x y) = y := by
  rcases (show q = 0 ∨ q = 1 ∨ q = 2 ∨ q = 3 by omega) with rfl | rfl | rfl | rfl <;> cases r <;> simp [tpx, tpy, fpx, fpy, rotx, roty, mir]
def at' (q : Nat) (r : Bool) (x y : Int) : Int := po (tpx q r x y) (tpy q r x y)
theorem at_inj {q : Nat} (hq : q < 4) {r : Bool} {x y x' y' : Int} (e : at' q r x y = at' q r x' y') : x = x' ∧ y = y' := by
  obtain ⟨h1, h2⟩ := po_inj e
  have a := fp_tp hq r x y
  have b := fp_tp hq r x' y'
  rw [h1, h2] at a
  exact ⟨a.1.symm.trans b.1, a.2.symm.trans b.2⟩
theorem at_fp {q : Nat} (hq : q < 4) (r : Bool) (u v : Int) : at' q r (fpx q r u v) (fpy q r u v) = po u v := by
  obtain ⟨h1, h2⟩ := tp_fp hq r u v
  unfold at'; rw [h1, h2]
theorem at_nonneg (q : Nat) (r : Bool) (x y : Int) : 0 ≤ at' q r x y := (po_bounds _ _).1
end Sp
namespace K
open PySem L2 DL Sp
abbrev I (i : Int) : Dv := .d (.int i)
abbrev pr (x y : Int) : Dv := .d (.tuple [.int x, .int y])
def hdS (q : Nat) : Str := if q = 0 then "e" else if q = 1 then "n" else if q = 2 then "w" else "s"
def tnS (r : Bool) : Str := if r then "r" else "l"
abbrev spi (s : Int) (q : Nat) (r : Bool) : Dv := .d (.tuple [.int s, .str (hdS q), .str (tnS r)])
theorem eqv_tn (r : Bool) : PyData.eqv (.str (tnS r)) (.str "r") = r := by cases r <;> decide +kernel
theorem shaped_hd (q : Nat) : SeqAt.shaped (.str (hdS q)) = true := by
  unfold hdS; repeat' split
  all_goals decide +kernel
theorem shaped_tn (r : Bool) : SeqAt.shaped (.str (tnS r)) = true := by cases r <;> decide +kernel
theorem shaped_int (i : Int) : SeqAt.shaped (.int i) = true := rfl
theorem shaped_r : SeqAt.shaped (.str "r") = true := by decide +kernel
theorem eqv_int (i j : Int) : PyData.eqv (.int i) (.int j) = decide (i = j) := by unfold PyData.eqv; by_cases h : i = j <;> simp [h]
def bes (s : Int) (q : Nat) (r : Bool) (x y : Int) : List Int := [s + at' q r (x + 1) y, s + at' q r x (y + 1), s + at' q r (x + -1) y, s + at' q r x (y + -1)]
end K
namespace DL
open PySem L2
theorem ixN_lt {n : Nat} {i : Int} (h0 : 0 ≤ i) (h : i < n) : ixN n i = some i.toNat := by unfold ixN; rw [if_pos h0, if_pos h]
theorem atI_of {α : Type} {xs : List α} {i : Int} {k : Nat} {v : α} (e : i = k) (h : xs[k]? = some v) : atI xs i = some v := by rw [e]; exact atI_nat h
theorem at0 {α : Type} {a : α} {r : List α} : atI (a :: r) 0 = some a := atI_of (k := 0) rfl rfl
theorem at1 {α : Type} {a b : α} {r : List α} : atI (a :: b :: r) 1 = some b := atI_of (k := 1) rfl rfl
theorem at2 {α : Type} {a b c : α} {r : List α} : atI (a :: b :: c :: r) 2 = some c := atI_of (k := 2) rfl rfl
theorem at3 {α : Type} {a b c d : α} {r : List α} : atI (a :: b :: c :: d :: r) 3 = some d := atI_of (k := 3) rfl rfl
theorem at4 {α : Type} {a b c d e : α} {r : List α} : atI (a :: b :: c :: d :: e :: r) 4 = some e := atI_of (k := 4) rfl rfl
theorem ix0 {n : Nat} : ixN (n + 1) 0 = some 0 := ixN_lt (by decide) (by omega)
theorem ix1 {n : Nat} : ixN (n + 1 + 1) 1 = some 1 := ixN_lt (by decide) (by omega)
theorem ix2 {n : Nat} : ixN (n + 1 + 1 + 1) 2 = some 2 := ixN_lt (by decide) (by omega)
theorem ix3 {n : Nat} : ixN (n + 1 + 1 + 1 + 1) 3 = some 3 := ixN_lt (by decide) (by omega)
theorem ix4 {n : Nat} : ixN (n + 1 + 1 + 1 + 1 + 1) 4 = some 4 := ixN_lt (by decide) (by omega)
theorem szk {k : Nat} (h : k ≤ 16777216) : k ≤ sizeLine := by rw [sizeLine_eq]; exact h
theorem for_rng {w : TId} {g : TGd} {tb : TSd} {D : DEnds} {δ : Dn} {m : M} (n : Nat) (hw : ∀ R : List Dv → (M → Prop) → M → Prop, R ((List.range n).map fun i => .d (.int ((i : Nat) : Int))) (fun _ => True) m → w δ m R)
    (Pv : Nat → Dn → M → Prop) (h0 : Pv 0 δ m) (ht : ∀ i δ m, i < n → Pv i δ m → g (.d (.int (i : Nat))) δ m fun δ2 m2 => tb { D with nx := Pv (i + 1), ct := Pv (i + 1), bk := D.nx } δ2 m2) (hd : ∀ δ m, Pv n δ m → D.nx δ m) : sFor w g tb D δ m := by
  refine hw _ ⟨Pv, h0, fun _ _ _ _ => trivial, fun i x δ m hx p => ?_, fun δ m p => hd δ m (by simpa using p)⟩
  have hi : i < n := by have := (List.getElem?_eq_some_iff.mp hx).1; simpa using this
  rw [List.getElem?_map, List.getElem?_range hi] at hx
  cases hx
  exact ht i δ m hi p
theorem for_its {w : TId} {g : TGd} {tb : TSd} {D : DEnds} {δ : Dn} {m : M} (xs : List Dv) (hw : ∀ R : List Dv → (M → Prop) → M → Prop, R xs (fun _ => True) m → w δ m R)
    (Pv : Nat → Dn → M → Prop) (h0 : Pv 0 δ m) (ht : ∀ i x δ m, xs[i]? = some x → Pv i δ m → g x δ m fun δ2 m2 => tb { D with nx := Pv (i + 1), ct := Pv (i + 1), bk := D.nx } δ2 m2) (hd : ∀ δ m, Pv xs.length δ m → D.nx δ m) : sFor w g tb D δ m :=
  hw _ ⟨Pv, h0, fun _ _ _ _ => trivial, ht, hd⟩
theorem ints_dp {K : PySem.W.Frag} {I : Hp} : ∀ ns : List Int, DpAll K I (ns.map V.int) (ns.map .int)
  | [] => .nil
  | n :: ns => .cons (.int n) (ints_dp ns)
theorem relS (x : Str) (t : Tok) : RelV (.str x) (.str x t) := ⟨t, rfl⟩
end DL
namespace DL
open PySem PySem.Spec PyProof.Rows L2
theorem freeze {K : PySem.W.Frag} {H I : Hp} {m : M} {p : Addr} {xs : List PyData} (ok : Ok K H I m) (e : m p = some (.lst (xs.map .d))) : ∃ I', Same I I' ∧ Ok K H I' (delM m p) ∧ Dp K I' (.ref p) (.list xs) := by
  obtain ⟨vs, hv, al⟩ := ok.lst e
  have fI : I p = none := by
    cases h : I p with
    | none => rfl
    | some o => have := ok.dj p o h; rw [e] at this; cases this
  have sm : Same I (upd I p (.lst vs)) := same_new (H := H) fI
  refine ⟨upd I p (.lst vs), sm, ⟨fun a o h => ?_, fun a o h => ?_, fun a q h => ?_⟩, Dp.lst (SqL.of upd_same) (DpAll.same sm (dpAll_of al))⟩
  · by_cases c : a = p
    · subst c; rw [upd_same] at h; cases h; exact hv
    · rw [upd_ne c] at h; exact ok.im a o h
  · by_cases c : a = p
    · subst c; unfold delM; rw [if_pos rfl]
    · rw [upd_ne c] at h; unfold delM; rw [if_neg c]; exact ok.dj a o h
  · by_cases c : a = p
    · subst c; unfold delM at h; rw [if_pos rfl] at h; cases h
    · unfold delM at h; rw [if_neg c] at h
      obtain ⟨o, h1, h2⟩ := ok.mu a q h
      exact ⟨o, h1, h2.same sm⟩
section
variable {X : Cx} {e : Expr} {te : TD}
end
end DL
namespace DL
open PySem PySem.Spec PyProof.Rows L2
section
variable {X : Cx} {a b c e : Expr} {te : TD} {t : TAd} {pos pos' : Pos}
end
end DL
namespace DL
open PySem PySem.Spec PyProof.Rows L2
section
variable {X : Cx} {pos : Pos} {a : Expr} {ta : TAd}
end
end DL
namespace DL
open PySem PySem.Spec PyProof.Rows L2
section
variable {X : Cx}
end
end DL
namespace DL
open PySem PySem.Spec PyProof.Rows L2
section
variable {X : Cx} {elt iter iter1 : Expr} {scope : Scope} {pos ppos ppos1 px py : Pos} {kk : Nat} {w w1 : TId} {te : TD} {x y z : Str} {i j l : Nat}
end
section
variable {X : Cx} {elt iter iter1 : Expr} {scope : Scope} {pos ppos ppos1 pz spos : Pos} {w w1 : TId} {te : TD} {x y z : Str} {i j k : Nat}
end
theorem dp_at {K : PySem.W.Frag} {I : Hp} : ∀ {vs : List V} {ys : List PyData} {j : Nat} {z : V}, DpAll K I vs ys → vs[j]? = some z → ∃ y, ys[j]? = some y ∧ Dp K I z y
  | _, _, _, _, .nil, e => by simp at e
  | _, _, 0, _, .cons a _, e => by simp at e; subst e; exact ⟨_, rfl, a⟩
  | _, _, j + 1, z, .cons _ t, e => by
    obtain ⟨y, h1, h2⟩ := dp_at (j := j) (z := z) t (by simpa using e)
    exact ⟨y, by simpa using h1, h2⟩
section
variable {X : Cx} {o e : Expr} {to te : TD} {pos apos : Pos}
def dIndexL (to te : TD) : TD := fun δ m Q => to δ m fun x m1 => ∃ ys : List PyData, x = .d (.list ys) ∧ ys.all flatD = true ∧ te δ m1 fun y m2 => ∃ (y' : PyData) (j : Nat) (z : PyData), y = .d y' ∧ flatD y' = true ∧ ys[j]? = some z ∧ PyData.eqv z y' = true ∧
  (∀ (i : Nat) (z' : PyData), i < j → ys[i]? = some z' → PyData.eqv z' y' = false) ∧ Q (.d (.int (j : Nat))) m2
theorem de_indexL (ho : DE X o to) (he : DE X e te)
    (hbase : attributeBase o "index" X.env (eval o X.env) = eval o X.env := by rfl)
    (hfew : ((backTo pos (starEach [e] X.env)).all (fun x => !x.1) && (backToKw pos (keywordEach [] X.env)).all (fun x => x.1.isSome)
      && decide (([e] : List Expr).length + ([] : List Keyword).length + (if ([] : List Keyword).isEmpty then 0 else 1) < 30)) = true := by rfl)
    (hline : (apos.endLine == pos.line) = true := by rfl) (hs : starEach [e] X.env = (false, eval e X.env) :: starEach [] X.env := by rfl) (hplain : (backTo pos (starEach [] X.env)).any (·.1) = false := by rfl) :
    DE X (.Call (.Attribute o "index" apos) [e] [] pos) (dIndexL to te) := by
  have mo : Mo (dIndexL to te) := fun δ m Q Q' hq q => ho.mono δ m _ _ (fun x m1 ⟨ys, e1, e2, z⟩ => ⟨ys, e1, e2, he.mono δ m1 _ _ (fun y m2 ⟨y', j, z1, e3, e4, e5, e6, e7, z⟩ => ⟨y', j, z1, e3, e4, e5, e6, e7, hq _ _ z⟩) z⟩) q
  refine de_of (pe_bm (hbase := hbase) (hfew := hfew) (hline := hline) (hs := hs) (hplain := hplain) PySem.F.plainAttrs_list PySem.F.slot_list_index PySem.F.type_list_index mt_index ho.pe (pa_cons he.pe pa_nil hs)) mo fun σ H I δ m Q ok rl q => ?_
  refine ⟨I, δ, m, ok, rl, ho.mono δ m _ _ (fun x m1 ⟨ys, ex, ey, z⟩ v1 H1 I1 s1 o1 i1 => ?_) q⟩
  subst ex
  cases (show Dp X.K I1 v1 (.list ys) from i1) with
  | @lst b vs _ sq al =>
    refine ⟨.inl ⟨rfl, vs, DL.SqLs o1.im sq⟩, I1, δ, m1, o1, rl.same s1, he.mono δ m1 _ _ (fun y m2 ⟨y', j, z1, e3, e4, e5, e6, e7, z⟩ v2 H2 I2 s2 o2 i2 => ?_) z⟩
    subst e3
    have al2 := DpAll.same s2 al
    have hlen : vs.length = ys.length := by have := paired_len (isAll_of al2); rwa [List.length_map] at this
    have hfl : ∀ {i : Nat} {w : PyData}, ys[i]? = some w → flatD w = true := fun h => List.all_eq_true.mp ey _ (List.mem_of_getElem? h)
    obtain ⟨zj, hzj⟩ : ∃ zj, vs[j]? = some zj := ⟨_, List.getElem?_eq_getElem (by rw [hlen]; exact (List.getElem?_eq_some_iff.mp e5).1)⟩
    obtain ⟨w1, hw1, dw1⟩ := dp_at al2 hzj
    rw [e5] at hw1; cases hw1
    refine ⟨b, vs, v2, j, zj, rfl, rfl, DL.SqLs o2.im (DL.SqLs s2 sq), flat_of i2 e4, flats_of al2 ey, hzj, ?_, fun i' z' hi' hz' => ?_, qd_same o2 (s1.trans s2) (isI _) z⟩
    · rw [eqV_of (show Is X.K I2 _ (.d _) from dw1) i2 (hfl e5) e4]; exact e6
    · obtain ⟨w2, hw2, dw2⟩ := dp_at al2 hz'
      rw [eqV_of (show Is X.K I2 _ (.d _) from dw2) i2 (hfl hw2) e4]; exact e7 i' w2 hi' hw2
end
end DL
namespace DL
open PySem PySem.Spec PyProof.Rows L2
section
variable {prog : Program} {w : World} {A : Around} {E : Value → Shared → Prop} {s : Shared}
end
section
variable {X : Cx} {a b c d e5 : Expr} {t : TAd} {pos : Pos}
end
end DL
namespace DL
open PySem PySem.Spec PyProof.Rows L2
section
variable {X : Cx} {a b c : Expr} {ta tb tc : TD} {pos : Pos}
end
section
variable {X : Cx} {o e : Expr} {to te : TD} {pos apos : Pos}
end
end DL
namespace DL
open PySem PySem.Spec PyProof.Rows L2
section
variable {X : Cx} {pos : Pos} {a b : Expr} {ta : TAd}
end
section
variable {X : Cx}
variable {elt iter : Expr} {ifs : List Expr} {scope : Scope} {pos ppos : Pos} {w : TId} {tt : TBd} {te : TD} {x : Str} {i : Nat}
end
end DL
namespace DL
open PySem PySem.Spec PyProof.Rows L2
section
variable {prog : Program} {w : World} {A : Around} {E : Value → Shared → Prop} {s : Shared}
theorem lt_int {a b : Int} {t u : Tok} {Q : Value → Shared → Prop} (h : Q (.bool (decide (a < b))) s) : wpAny (model prog w) A (richCompare .Lt (.int a t) (.int b u)) Q E s :=
  CmpOf.ints_lt (P := fun i v => (i = 0 ∧ v = .int a t) ∨ (i = 1 ∧ v = .int b u)) (fun i => if i = 0 then a else b) (fun i v hv => by
    rcases hv with ⟨rfl, rfl⟩ | ⟨rfl, rfl⟩
    · exact ⟨t, rfl⟩
    · exact ⟨u, rfl⟩) 0 1 _ _ s Q E (.inl ⟨rfl, rfl⟩) (.inr ⟨rfl, rfl⟩) h
end
section
variable {prog : Program} {w : World} {A : Around} {R : Result → Shared → Prop} {I : Addr} {fp wr : List Addr} {n : Nat} {P : Nat → Value → Prop} {St : Nat → Heap → Prop} {G : Heap → Prop}
end
section
variable {prog : Program} {w : World} {A : Around} {E : Value → Shared → Prop} {s : Shared}
end
section
variable {X : Cx} {pos : Pos} {e : Expr} {t : TAd}
end
end DL
namespace DL
open PySem PySem.Spec PyProof.Rows L2
abbrev FR (K : PySem.W.Frag) (I : Hp) : List (Str × V) → List (Str × Dv) → Prop := Paired fun p q => p.1 = q.1 ∧ Is K I p.2 q.2
def mIns (K : PySem.W.Frag) (C : Addr) (fs : List (Str × Dv)) : MO :=
  .gen (fun I o => ∃ dx vs, o = .ins C dx vs ∧ FR K I vs fs) (fun I I' o s ⟨dx, vs, e, h⟩ => ⟨dx, vs, e, paired_imp (fun _ _ z => ⟨z.1, z.2.same s⟩) h⟩)
theorem Ok.ins {K : PySem.W.Frag} {H I : Hp} {m : M} {a C : Addr} {fs : List (Str × Dv)} (ok : Ok K H I m) (h : m a = some (mIns K C fs)) : ∃ dx vs, H a = some (.ins C dx vs) ∧ FR K I vs fs := by
  obtain ⟨o, h1, h2⟩ := ok.mu a _ h
  have h2 : ∃ dx vs, o = .ins C dx vs ∧ FR K I vs fs := by cases o <;> exact h2
  obtain ⟨dx, vs, rfl, h⟩ := h2
  exact ⟨dx, vs, h1, h⟩
theorem Ok.over {K : PySem.W.Frag} {H I : Hp} {m : M} (ok : Ok K H I m) {p : Addr} {o : HO} (hp : H p = none) : Ok K (upd H p o) I m := by
  refine ⟨fun a u e => ?_, ok.dj, fun a q e => ?_⟩
  · rw [upd_ne (ne_of_none (ok.im a u e) hp)]; exact ok.im a u e
  · obtain ⟨u, h1, h2⟩ := ok.mu a q e
    exact ⟨u, by rw [upd_ne (ne_of_none h1 hp)]; exact h1, h2⟩
section
variable {X : Cx} {C : Addr} {f : Str} {pos pos' apos : Pos} {o e value : Expr} {ta tv : TD}
variable {k : Nat} {g : Addr} {fd : FuncData} {ps : List Str} {F : FD} {mm : Str} {t : TAd} {es : List Expr}
end
end DL
namespace DL
open PySem PySem.Spec PyProof.Rows L2
section
variable {X : Cx} {pos pos' tpos apos cpos : Pos} {o i e value : Expr} {td ti tv : TD} {n : Nat}
end
end DL
namespace DL
open PySem PySem.Spec PyProof.Rows L2
section
variable {P : Program} {w : World} {A : Around} {E : Value → Shared → Prop} {s : Shared} {a : Addr}
end
section
variable {X : Cx} {pos : Pos}
end
end DL
namespace DL
open PySem PySem.Spec PyProof.Rows L2
section
variable {X : Cx} {tg e : Expr} {td t : TD} {apos cpos : Pos}
end
end DL
namespace DL
open PySem PySem.Spec PyProof.Rows L2
section
variable {X : Cx} {o e : Expr} {to te : TD} {apos pos : Pos}
end
end DL
namespace DL
open PySem PySem.Spec PyProof.Rows L2
section
variable {X : Cx} {pos : Pos} {o i : Expr} {td ti : TD} {n : Nat}
end
theorem cx_K {CX : CXT} {P : Program} {w : World} {K : PySem.W.Frag} {mg : Str → Option Value} {base : Heap} {N : List Str} {qual : Str} {sc : Scope} {f : Addr} {cdv : Value} {A : Around} {outer : List Env} {s : Shared} {H : Hp} {E : XK} : (cxOf CX P w K mg base N qual sc f cdv A outer s H E).K = K := rfl
theorem nox_K {X : Cx} : X.nox.K = X.K := rfl
end DL
namespace DL
open PySem PySem.Spec PyProof.Rows L2
section
variable {X : Cx} {pos : Pos} {e : Expr} {t : TAd}
end
end DL
namespace DL
open PySem PySem.Spec PyProof.Rows L2
section
variable {X : Cx}
variable {elt iter : Expr} {ifs : List Expr} {scope : Scope} {pos ppos : Pos} {w : TId} {tt : TBd} {te : TD} {x : Str} {i : Nat}
end
end DL
namespace DL
open PySem PySem.Spec PyProof.Rows L2
def datM (m : M) : Dv → PyData → Prop
  | .d x, y => x = y
  | .r a, y => ∃ xs, y = .list xs ∧ m a = some (.lst (xs.map .d))
def gEqX (neg : Bool) : R2D := fun x y m Q => ∃ d e, datM m x d ∧ datM m y e ∧ SeqAt.shaped d = true ∧ SeqAt.shaped e = true ∧ Q (.d (.bool (neg != PyData.eqv d e))) m
section
variable {X : Cx} {a b o e : Expr} {ta tb to te : TD} {t : TAd} {pos apos p : Pos} {k : Nat} {tg : Expr}
def dItA (tl : TD) : TId := fun δ m R => tl δ m fun x m1 => (∃ xs, x = .d (.list xs) ∧ R (xs.map .d) (fun _ => True) m1) ∨ ∃ a xs, x = .r a ∧ m1 a = some (.lst xs) ∧ R xs (fun m => m a = some (.lst xs)) m1
theorem di_listA {l : Expr} {tl : TD} (hl : DE X l tl) : DI X tg l (dItA tl) := by
  refine ⟨fun δ m R R' h q => hl.mono δ m _ _ (fun x m1 z => ?_) q, PI.imp (pi_list hl.pe) fun σ H R ⟨I, δ, m, ok, rl, q⟩ => ?_⟩
  · rcases z with ⟨xs, e, z⟩ | ⟨a, xs, e, e2, z⟩
    · exact .inl ⟨xs, e, h _ _ _ z⟩
    · exact .inr ⟨a, xs, e, e2, h _ _ _ z⟩
  refine ⟨I, δ, m, ok, rl, hl.mono δ m _ _ (fun x m1 z v H1 I1 s1 o1 i1 => ?_) q⟩
  rcases z with ⟨xs, e, z⟩ | ⟨a, xs, e, e2, z⟩
  · subst e
    cases (show Dp X.K I1 v (.list xs) from i1) with
    | @lst a vs _ sq al =>
      refine ⟨a, rfl, ⟨vs, Same.seq o1.im sq⟩, z _ H1 I1 s1 o1 ⟨fun i H I' m s' o' _ hi => ?_, fun i H I' m x H' s' o' _ y => ?_, fun H I' m s' o' _ => ?_⟩⟩
      · rw [← paired_len (isAll_of al)] at hi
        exact ⟨vs, vs[i], Same.seq (s'.trans o'.im) sq, by simp [hi]⟩
      · obtain ⟨rfl, y⟩ := y
        have hx := y vs (Same.seq (s'.trans o'.im) sq)
        have hb : i < vs.length := (List.getElem?_eq_some_iff.mp hx).1
        have hb2 : i < (xs.map Dv.d).length := by rw [← paired_len (isAll_of al)]; exact hb
        obtain ⟨v', h1, h2⟩ := paired_get (isAll_of al) (List.getElem?_eq_getElem hb2)
        rw [hx] at h1; cases h1
        exact ⟨I', _, Same.refl _, o', fun _ => ⟨List.getElem?_eq_getElem hb2, h2.same s'⟩⟩
      · exact ⟨vs, Same.seq (s'.trans o'.im) sq, by rw [paired_len (isAll_of al)]; exact Nat.le_refl _⟩
  · subst e
    have i1 : v = .ref a := i1
    subst i1
    obtain ⟨vs, hv, al⟩ := o1.lst e2
    refine ⟨a, rfl, ⟨vs, SqL.of hv⟩, z _ H1 I1 s1 o1 ⟨fun i H I' m s' o' st hi => ?_, fun i H I' m x H' s' o' st y => ?_, fun H I' m s' o' st => ?_⟩⟩
    · obtain ⟨ws, hw, bl⟩ := o'.lst st
      rw [← paired_len bl] at hi
      exact ⟨ws, ws[i], SqL.of hw, by simp [hi]⟩
    · obtain ⟨rfl, y⟩ := y
      obtain ⟨ws, hw, bl⟩ := o'.lst st
      have hx := y ws (SqL.of hw)
      have hb : i < ws.length := (List.getElem?_eq_some_iff.mp hx).1
      have hb2 : i < xs.length := by rw [← paired_len bl]; exact hb
      obtain ⟨v', h1, h2⟩ := paired_get bl (List.getElem?_eq_getElem hb2)
      rw [hx] at h1; cases h1
      exact ⟨I', _, Same.refl _, o', fun _ => ⟨List.getElem?_eq_getElem hb2, h2⟩⟩
    · obtain ⟨ws, hw, bl⟩ := o'.lst st
      exact ⟨ws, SqL.of hw, by rw [paired_len bl]; exact Nat.le_refl _⟩
end
end DL
namespace DL
open PySem PySem.Spec PyProof.Rows L2
section
variable {X : Cx} {a b o e : Expr} {ta tb to te : TD} {t : TAd} {pos apos p : Pos} {k : Nat} {tg : Expr}
theorem datM_L {K : PySem.W.Frag} {H I : Hp} {m : M} (ok : Ok K H I m) {v : V} {x : Dv} {xs : List PyData} (h : Is K I v x) (e : datM m x (.list xs)) : ∃ a vs, v = .ref a ∧ SqL K H a vs ∧ DpAll K I vs xs := by
  cases x with
  | d x =>
    have e : x = .list xs := e
    subst e
    cases (show Dp K I v (.list xs) from h) with
    | lst sq al => exact ⟨_, _, rfl, Same.seq ok.im sq, al⟩
  | r a =>
    obtain ⟨ys, e1, e2⟩ := e
    cases e1
    have h : v = .ref a := h
    subst h
    obtain ⟨vs, hv, al⟩ := ok.lst e2
    exact ⟨a, vs, rfl, SqL.of hv, dpAll_of al⟩
def gAddM : R2D := fun x y m Q => ∃ xs ys, datM m x (.list xs) ∧ datM m y (.list ys) ∧ xs.length + ys.length ≤ 16777216 ∧ ∀ p, m p = none → Q (.r p) (setM m p (.lst ((xs ++ ys).map .d)))
theorem o2_addM {K : PySem.W.Frag} : Op2 K (rCatL K) gAddM := by
  refine ⟨fun x y m Q Q' h ⟨xs, ys, e1, e2, e3, q⟩ => ⟨xs, ys, e1, e2, e3, fun p hp => h _ _ (q p hp)⟩, fun H I0 I m x y v w Q ok s hx hy ⟨xs, ys, e1, e2, e3, q⟩ => ?_⟩
  obtain ⟨a, vs, rfl, sq, al⟩ := datM_L ok hx e1
  obtain ⟨b, ws, rfl, sq2, al2⟩ := datM_L ok hy e2
  refine ⟨a, b, vs, ws, rfl, rfl, sq, sq2, by rw [dpAll_len al, dpAll_len al2, sizeLine_eq]; exact e3, fun p hp => ?_⟩
  exact ⟨I, .r p, _, s, ok.newM (q := .lst ((xs ++ ys).map .d)) hp (show IsAll K I _ _ from isAll_of (dpAll_app al al2)), rfl, q p (ok.freeM hp)⟩
theorem de_addM (ha : DE X a ta) (hb : DE X b tb) : DE X (.BinOp a .Add b pos) (dOp gAddM ta tb) := de_op op_catL o2_addM ha hb
def gSFind : R2D
  | .d (.str a), .d (.str b), m, Q => Q (.d (.int (Txt.find a b))) m
  | _, _, _, _ => False
theorem de_sfind (ho : DE X o to) (he : DE X e te)
    (hs : starEach [e] X.env = [(false, eval e X.env)] := by rfl) (hbase : attributeBase o "find" X.env (eval o X.env) = eval o X.env := by rfl) (hline : (apos.endLine == pos.line) = true := by rfl) :
    DE X (.Call (.Attribute o "find" apos) [e] [] pos) (dM1 gSFind to te) := by
  have inv : ∀ {x y m Q}, gSFind x y m Q → ∃ a b, x = .d (.str a) ∧ y = .d (.str b) ∧ Q (.d (.int (Txt.find a b))) m := fun {x y m Q} q => by
    unfold gSFind at q; split at q
    · exact ⟨_, _, rfl, rfl, q⟩
    · exact q.elim
  refine lift_m1 PySem.F.slot_str_find PySem.F.type_str_find mt_find (fun x y m Q Q' h q => ?_) (fun x y m Q q => ?_) (fun H I0 I m x y v w Q ok s hx hy q => ?_) ho he hs hbase hline
  · obtain ⟨a, b, rfl, rfl, q⟩ := inv q; exact h _ _ q
  · obtain ⟨a, b, rfl, _⟩ := inv q; exact ⟨a, rfl⟩
  · obtain ⟨a, b, rfl, rfl, q⟩ := inv q
    exact ⟨a, b, hx.str, by rw [hy.str], qd_same ok s (isI _) q⟩
end
end DL
namespace DL
open PySem PySem.Spec PyProof.Rows L2
section
variable {X : Cx} {a b o e : Expr} {es : List Expr} {ta tb to te : TD} {t : TAd} {pos apos p : Pos} {k : Nat}
def PJ (X : Cx) (es : List Expr) (t : Str → TE) : Prop := ∀ (out : Str) (pins : List (Addr × Obj)) (s : Shared) (σ : St) (H : Hp) (Q : VK), Inv X pins σ H s → t out σ H Q → wpAny (model X.prog X.w) X.A (joinParts out (evalEach es X.env)) (EP X pins σ Q) X.xe s
def shownV : V → Str → Prop
  | .int n, z => z = Str.ofString (toString n) ∧ n.natAbs.log2 < 1920
  | .str y, z => z = y ∧ y.length ≤ sizeLine
  | _, _ => False
theorem pj_nil : PJ X [] fun out σ H Q => out.length ≤ sizeLine ∧ Q (.str out) H := fun out pins s σ H Q I ⟨h, q⟩ => joinParts_nil ⟨.str out, H, I.tok _, ⟨_, rfl⟩, q⟩ h
theorem pj_str {te : TE} {tr : Str → TE} (he : PE X e te) (hr : PJ X es tr) : PJ X (e :: es) fun out σ H Q => te σ H fun v H1 => ∃ z, v = .str z ∧ (out ++ z).length ≤ sizeLine ∧ tr (out ++ z) σ H1 Q := by
  intro out pins s σ H Q I h
  show wpAny _ _ (joinParts out (eval e X.env :: evalEach es X.env)) _ _ _
  refine joinParts_cons (thn (he pins s σ H _ I h) fun u s1 ⟨v, H1, I1, r1, z, e1, hl, q⟩ => ?_)
  subst e1
  obtain ⟨t, rfl⟩ := r1
  exact ⟨hl, hr _ pins s1 σ H1 Q I1 q⟩
theorem pj_fmt {te : TE} {tr : Str → TE} (he : PE X e te) (hr : PJ X es tr) : PJ X (.FormattedValue e (-1) none pos :: es) fun out σ H Q => te σ H fun v H1 => ∃ z, shownV v z ∧ (out ++ z).length ≤ sizeLine ∧ tr (out ++ z) σ H1 Q := by
  intro out pins s σ H Q I h
  show wpAny _ _ (joinParts out (eval (.FormattedValue e (-1) none pos) X.env :: evalEach es X.env)) _ _ _
  refine joinParts_cons (FormattedValue_plain (thn (he pins s σ H _ I h) fun u s1 ⟨v, H1, I1, r1, z, e1, hl, q⟩ => ?_))
  cases v with
  | int n =>
    obtain ⟨rfl, hd⟩ := e1
    obtain ⟨t, rfl⟩ := r1
    exact formatField_int_small hd ⟨hl, hr _ pins _ σ H1 Q (I1.tok _) q⟩
  | str y =>
    obtain ⟨rfl, hy⟩ := e1
    obtain ⟨t, rfl⟩ := r1
    exact formatField_str (fun t' tk => ⟨hl, hr _ pins _ σ H1 Q (I1.tok _) q⟩) hy
  | _ => exact e1.elim
theorem pe_fstr {v1 v2 : Expr} {tr : Str → TE} (h : PJ X (v1 :: v2 :: es) tr) : PE X (.JoinedStr (v1 :: v2 :: es) pos) (tr Str.empty) := fun pins s σ H Q I q => JoinedStr_many (h _ pins s σ H Q I q)
abbrev TJ := Str → TD
structure DJ (X : Cx) (es : List Expr) (t : TJ) : Prop where
  mono : ∀ out, Mo (t out)
  pj : PJ X es fun out => up X.K (t out)
def djNil : TJ := fun out _ m Q => out.length ≤ 16777216 ∧ Q (.d (.str out)) m
def djStr (te : TD) (tr : TJ) : TJ := fun out δ m Q => te δ m fun x m1 => ∃ z, x = .d (.str z) ∧ (out ++ z).length ≤ 16777216 ∧ tr (out ++ z) δ m1 Q
def gShow : Dv → M → (Str → M → Prop) → Prop
  | .d (.int n), m, k => n.natAbs.log2 < 1920 ∧ k (Str.ofString (toString n)) m
  | .d (.str z), m, k => z.length ≤ 16777216 ∧ k z m
  | _, _, _ => False
def djFmt (te : TD) (tr : TJ) : TJ := fun out δ m Q => te δ m fun x m1 => gShow x m1 fun z m1 => (out ++ z).length ≤ 16777216 ∧ tr (out ++ z) δ m1 Q
theorem gShow_inv {x : Dv} {m : M} {k : Str → M → Prop} (h : gShow x m k) : (∃ n, x = .d (.int n) ∧ n.natAbs.log2 < 1920 ∧ k (Str.ofString (toString n)) m) ∨ ∃ z, x = .d (.str z) ∧ z.length ≤ 16777216 ∧ k z m := by
  unfold gShow at h
  split at h
  · exact .inl ⟨_, rfl, h⟩
  · exact .inr ⟨_, rfl, h⟩
  · exact h.elim
theorem gShow_mono {x : Dv} {m : M} {k k' : Str → M → Prop} (hk : ∀ z m, k z m → k' z m) (h : gShow x m k) : gShow x m k' := by
  rcases gShow_inv h with ⟨n, rfl, h1, h2⟩ | ⟨z, rfl, h1, h2⟩
  · exact ⟨h1, hk _ _ h2⟩
  · exact ⟨h1, hk _ _ h2⟩
theorem dj_nil : DJ X [] djNil := by
  refine ⟨fun out δ m Q Q' hq q => ⟨q.1, hq _ _ q.2⟩, fun out pins s σ H Q J ⟨I, δ, m, ok, rl, h, q⟩ => ?_⟩
  exact pj_nil out pins s σ H Q J ⟨by rw [sizeLine_eq]; exact h, q _ H I (Same.refl _) ok (isS _)⟩
theorem dj_str {tr : TJ} (he : DE X e te) (hr : DJ X es tr) : DJ X (e :: es) (djStr te tr) := by
  refine ⟨fun out δ m Q Q' hq q => he.mono δ m _ _ (fun x m1 ⟨z, e1, e2, q1⟩ => ⟨z, e1, e2, hr.mono _ δ m1 _ _ hq q1⟩) q, fun out pins s σ H Q J ⟨I, δ, m, ok, rl, q⟩ => ?_⟩
  refine pj_str he.pe hr.pj out pins s σ H Q J ⟨I, δ, m, ok, rl, he.mono δ m _ _ (fun x m1 ⟨z, e1, e2, q1⟩ v H1 I1 s1 o1 i1 => ?_) q⟩
  subst e1
  exact ⟨z, i1.str, by rw [sizeLine_eq]; exact e2, I1, δ, m1, o1, rl.same s1, hr.mono _ δ m1 _ _ (fun d m' qq v H' I' s' o' i' => qq v H' I' (s1.trans s') o' i') q1⟩
theorem dj_fmt {tr : TJ} (he : DE X e te) (hr : DJ X es tr) : DJ X (.FormattedValue e (-1) none pos :: es) (djFmt te tr) := by
  refine ⟨fun out δ m Q Q' hq q => he.mono δ m _ _ (fun x m1 q1 => gShow_mono (fun z m2 ⟨e2, q2⟩ => ⟨e2, hr.mono _ δ m2 _ _ hq q2⟩) q1) q, fun out pins s σ H Q J ⟨I, δ, m, ok, rl, q⟩ => ?_⟩
  refine pj_fmt he.pe hr.pj out pins s σ H Q J ⟨I, δ, m, ok, rl, he.mono δ m _ _ (fun x m1 q1 v H1 I1 s1 o1 i1 => ?_) q⟩
  rcases gShow_inv q1 with ⟨n, rfl, h1, h2, q2⟩ | ⟨z, rfl, h1, h2, q2⟩
  · rw [i1.int]
    exact ⟨_, ⟨rfl, h1⟩, by rw [sizeLine_eq]; exact h2, I1, δ, m1, o1, rl.same s1, hr.mono _ δ m1 _ _ (fun d m' qq v H' I' s' o' i' => qq v H' I' (s1.trans s') o' i') q2⟩
  · rw [i1.str]
    exact ⟨z, ⟨rfl, by rw [sizeLine_eq]; exact h1⟩, by rw [sizeLine_eq]; exact h2, I1, δ, m1, o1, rl.same s1, hr.mono _ δ m1 _ _ (fun d m' qq v H' I' s' o' i' => qq v H' I' (s1.trans s') o' i') q2⟩
theorem de_fstr {v1 v2 : Expr} {tr : TJ} (h : DJ X (v1 :: v2 :: es) tr) : DE X (.JoinedStr (v1 :: v2 :: es) pos) (tr Str.empty) := ⟨h.mono _, pe_fstr h.pj⟩
theorem mt_rmpre : MtR X "str.removeprefix" (fun x xs H Q => ∃ a b, x = .str a ∧ xs = [.str b] ∧ a.length ≤ sizeLine ∧ Q (.str (Txt.removeprefix a b)) H) := by
  intro pins s σ H x xs v us Q I rx rs h
  obtain ⟨a, b, rfl, rfl, hz, h⟩ := h
  obtain ⟨t, rfl⟩ := rx
  cases rs with
  | cons r1 rs =>
    cases rs
    obtain ⟨u, rfl⟩ := r1
    exact PySem.SC.removeprefix (fun t' k => ⟨.str _, H, I.tok k, ⟨t', rfl⟩, h⟩) hz
def gRmp : R2D
  | .d (.str a), .d (.str b), m, Q => a.length ≤ 16777216 ∧ Q (.d (.str (Txt.removeprefix a b))) m
  | _, _, _, _ => False
theorem de_rmpre (ho : DE X o to) (he : DE X e te)
    (hs : starEach [e] X.env = [(false, eval e X.env)] := by rfl) (hbase : attributeBase o "removeprefix" X.env (eval o X.env) = eval o X.env := by rfl) (hline : (apos.endLine == pos.line) = true := by rfl) :
    DE X (.Call (.Attribute o "removeprefix" apos) [e] [] pos) (dM1 gRmp to te) := by
  have inv : ∀ {x y m Q}, gRmp x y m Q → ∃ a b, x = .d (.str a) ∧ y = .d (.str b) ∧ a.length ≤ 16777216 ∧ Q (.d (.str (Txt.removeprefix a b))) m := fun {x y m Q} q => by
    unfold gRmp at q; split at q
    · exact ⟨_, _, rfl, rfl, q⟩
    · exact q.elim
  refine lift_m1 PySem.F.slot_str_removeprefix PySem.F.type_str_removeprefix mt_rmpre (fun x y m Q Q' h q => ?_) (fun x y m Q q => ?_) (fun H I0 I m x y v w Q ok s hx hy q => ?_) ho he hs hbase hline
  · obtain ⟨a, b, rfl, rfl, hl, q⟩ := inv q; exact ⟨hl, h _ _ q⟩
  · obtain ⟨a, b, rfl, _⟩ := inv q; exact ⟨a, rfl⟩
  · obtain ⟨a, b, rfl, rfl, hl, q⟩ := inv q
    exact ⟨a, b, hx.str, by rw [hy.str], by rw [sizeLine_eq]; exact hl, qd_same ok s (isS _) q⟩
theorem strs_dp {K : PySem.W.Frag} {I : Hp} : ∀ ys : List Str, DpAll K I (ys.map V.str) (ys.map .str)
  | [] => .nil
  | y :: ys => .cons (.str y) (strs_dp ys)
theorem strs_dpv {K : PySem.W.Frag} {I : Hp} : ∀ {ys : List Str} {vs : List V}, DpAll K I vs (ys.map .str) → vs = ys.map V.str
  | [], _, h => by cases h; rfl
  | y :: ys, _, h => by
    cases h with
    | cons r t => rw [strs_dpv t]; cases r; rfl
def gSplit : R2D
  | .d (.str a), .d (.str b), m, Q => (b.length == 0) = false ∧ a.length + 2 ≤ 16777216 ∧ Q (.d (.list ((Txt.split a b).map .str))) m
  | _, _, _, _ => False
theorem de_split (ho : DE X o to) (he : DE X e te)
    (hs : starEach [e] X.env = [(false, eval e X.env)] := by rfl) (hbase : attributeBase o "split" X.env (eval o X.env) = eval o X.env := by rfl) (hline : (apos.endLine == pos.line) = true := by rfl) :
    DE X (.Call (.Attribute o "split" apos) [e] [] pos) (dM1 gSplit to te) := by
  have inv : ∀ {x y m Q}, gSplit x y m Q → ∃ a b, x = .d (.str a) ∧ y = .d (.str b) ∧ (b.length == 0) = false ∧ a.length + 2 ≤ 16777216 ∧ Q (.d (.list ((Txt.split a b).map .str))) m := fun {x y m Q} q => by
    unfold gSplit at q; split at q
    · exact ⟨_, _, rfl, rfl, q⟩
    · exact q.elim
  refine lift_m1 PySem.F.slot_str_split PySem.F.type_str_split mt_split (fun x y m Q Q' h q => ?_) (fun x y m Q q => ?_) (fun H I0 I m x y v w Q ok s hx hy q => ?_) ho he hs hbase hline
  · obtain ⟨a, b, rfl, rfl, h1, h2, q⟩ := inv q; exact ⟨h1, h2, h _ _ q⟩
  · obtain ⟨a, b, rfl, _⟩ := inv q; exact ⟨a, rfl⟩
  · obtain ⟨a, b, rfl, rfl, h1, h2, q⟩ := inv q
    exact ⟨a, b, hx.str, by rw [hy.str], h1, by rw [sizeLine_eq]; exact h2, fun p hp => qd_newL ok s hp (strs_dp _) q⟩
def gJoin : R2D
  | .d (.str a), .d (.list xs), m, Q => ∃ ys : List Str, xs = ys.map .str ∧ (ys.map (·.length)).sum + ys.length * a.length ≤ 16777216 ∧ Q (.d (.str (Txt.join a ys))) m
  | _, _, _, _ => False
theorem de_joinL (ho : DE X o to) (he : DE X e te)
    (hs : starEach [e] X.env = [(false, eval e X.env)] := by rfl) (hbase : attributeBase o "join" X.env (eval o X.env) = eval o X.env := by rfl) (hline : (apos.endLine == pos.line) = true := by rfl) :
    DE X (.Call (.Attribute o "join" apos) [e] [] pos) (dM1 gJoin to te) := by
  have inv : ∀ {x y m Q}, gJoin x y m Q → ∃ a ys, x = .d (.str a) ∧ y = .d (.list (ys.map .str)) ∧ ((ys : List Str).map (·.length)).sum + ys.length * a.length ≤ 16777216 ∧ Q (.d (.str (Txt.join a ys))) m := fun {x y m Q} q => by
    unfold gJoin at q; split at q
    · obtain ⟨ys, rfl, h1, q⟩ := q; exact ⟨_, ys, rfl, rfl, h1, q⟩
    · exact q.elim
  refine lift_m1 PySem.F.slot_str_join PySem.F.type_str_join mt_join (fun x y m Q Q' h q => ?_) (fun x y m Q q => ?_) (fun H I0 I m x y v w Q ok s hx hy q => ?_) ho he hs hbase hline
  · obtain ⟨a, ys, rfl, rfl, h1, q⟩ := inv q; exact ⟨ys, rfl, h1, h _ _ q⟩
  · obtain ⟨a, ys, rfl, _⟩ := inv q; exact ⟨a, rfl⟩
  · obtain ⟨a, ys, rfl, rfl, h1, q⟩ := inv q
    cases (show Dp X.K I w (.list (ys.map .str)) from hy) with
    | lst sq al =>
      obtain rfl := strs_dpv al
      exact ⟨a, _, ys, hx.str, rfl, .inl (Same.seq ok.im sq), h1, qd_same ok s (isS _) q⟩
def gIntS : RAD
  | [.d (.str a)], m, Q => ∃ n, PySem.intText? a = some n ∧ a.length ≤ 640 ∧ Q (.d (.int n)) m
  | _, _, _ => False
theorem de_intS (hg : Gl X "int") (hm : X.mg "int" = none) (ha : DA X [e] t) (he : starEach [e] X.env = [(false, eval e X.env)] := by rfl) : DE X (.Call (.Name "int" p) [e] [] pos) (dCB gIntS t) := by
  refine de_callTy call_int_str ⟨fun xs m Q Q' h q => ?_, fun H I0 I m xs vs Q ok s hx q => ?_⟩ hg hm (by decide +kernel) ha (he := he)
  · unfold gIntS at q ⊢
    split at q
    · obtain ⟨n, e1, e2, z⟩ := q; exact ⟨n, e1, e2, h _ _ z⟩
    · exact q.elim
  · unfold gIntS at q
    split at q
    · obtain ⟨n, e1, e2, z⟩ := q
      obtain ⟨v, rfl, hv⟩ := isAll1 hx
      exact ⟨_, n, by rw [hv.str], e1, e2, qd_same ok s (isI _) z⟩
    · exact q.elim
def gMulS : R2D
  | .d (.str a), .d (.int n), m, Q => (n = 0 ∧ Q (.d (.str Str.empty)) m) ∨ (n = 1 ∧ Q (.d (.str a)) m)
  | _, _, _, _ => False
end
end DL
set_option maxHeartbeats 1000000
namespace DL
open PySem PySem.Spec PyProof.Rows L2
structure GenK (K : PySem.W.Frag) (c P : Addr) : Prop where
  code : ∃ o vs file tf flags tg inF text tt, K.lookup c = some o ∧ o.cls = .type "code" ∧ o.data = .fields vs ∧ vs[11]? = some (.ref P) ∧ vs.getD 18 .none = .str file tf ∧ vs.getD 7 .none = .int flags tg ∧ vs.getD 9 .none = .bool inF ∧ vs.getD 10 .none = .int text tt
  no : K.lookup P = none
def BmB (base : Heap) (mg : Str → Option Value) : Prop := ∃ b ob, BMod base mainGlobals mg b ob
def fdOfL {K : PySem.W.Frag} {a : Addr} {oc : Value} {od : Option Addr} {fd : FuncData} {sl : Array (Option Value)} (_ : K.lookup a = some ⟨oc, od, .func fd, sl⟩) : FuncData := fd
theorem GenK.ne {K : PySem.W.Frag} {c P : Addr} (G : GenK K c P) : c ≠ P := fun e => by
  obtain ⟨o, vs, _, _, _, _, _, _, _, h, _⟩ := G.code
  rw [e, G.no] at h; cases h
theorem GenK.isCode {K : PySem.W.Frag} {c P : Addr} {h : Heap} {ps : Array Value} (G : GenK K c P) (X : K.In h) (hP : h.get? P = some { cls := .none, data := .fields ps }) (ht : TriplesOk ps.toList) : h.IsCode c P ps := by
  obtain ⟨o, vs, file, tf, flags, tg, inF, text, tt, h0, h1, h2, h3, h4, h5, h6, h7⟩ := G.code
  exact ⟨o, vs, file, tf, flags, tg, inF, text, tt, _, X _ _ h0, h2, by rw [Array.getD_eq_getD_getElem?, h3]; rfl, h4, h5, h6, h7, hP, rfl, ht, G.ne⟩
theorem GenK.tabAt {K : PySem.W.Frag} {c P : Addr} {h : Heap} {ps : Array Value} (G : GenK K c P) (X : K.In h) (hP : h.get? P = some { cls := .none, data := .fields ps }) : h.TableAt c P ps := by
  obtain ⟨o, vs, file, tf, flags, tg, inF, text, tt, h0, h1, h2, h3, h4, h5, h6, h7⟩ := G.code
  exact ⟨⟨o, vs, X _ _ h0, h1, h2, h3⟩, hP⟩
section
variable {X : Cx} {pins : List (Addr × Obj)} {σ : L2.St} {H : Hp} {s s' : Shared} {P : Addr} {ps more : Array Value}
theorem Inv.tbl (I : Inv X pins σ H s) (hP : H P = some (.tbl ps)) (os : s'.os = s.os) (bare : AllBare s'.gens) (kp : ∀ b o, b ≠ P → s.heap.get? b = some o → s'.heap.get? b = some o)
    (nP : s'.heap.get? P = some { cls := .none, data := .fields (ps ++ more) }) : Inv X pins σ (upd H P (.tbl (ps ++ more))) s' := by
  have neN : ∀ b, H b = none → b ≠ P := fun b e z => by rw [z, hP] at e; cases e
  have neT : ∀ b o, H b = some o → (∀ ps', o ≠ .tbl ps') → b ≠ P := fun b o e hn z => by rw [z, hP] at e; cases e; exact hn _ rfl
  have un : Un X.fs X.ex H (upd H P (.tbl (ps ++ more))) s.heap s'.heap := by
    refine ⟨fun b o e n _ _ => kp b o (neN b n) e, fun b o e n _ _ => ⟨o.slots, kp b o (neN b n) e⟩, fun b o _ n _ => by rw [upd_ne (neN b n)]; exact n, fun b o e _ => ?_, fun b xs e => by rw [upd_ne (neT b _ e (fun _ z => nomatch z))]; exact e, fun b o u e => by rw [upd_ne (neT b _ e (fun _ z => nomatch z))]; exact e, fun b qs e => ?_⟩
    · by_cases hb : b = P
      · subst hb; exact ⟨_, nP⟩
      · exact ⟨o, kp b o hb e⟩
    · by_cases hb : b = P
      · subst hb; rw [hP] at e; cases e; exact ⟨more, upd_same⟩
      · exact ⟨#[], by rw [upd_ne hb, e]; simp⟩
  have kpN : ∀ {b : Addr} {m : Str → Option Value}, s.heap.Ns b m → H b = none → s'.heap.Ns b m := fun {b m} ⟨o, es, ep, e, r⟩ n => ⟨o, es, ep, kp b o (neN b n) e, r⟩
  have kpC : ∀ {c : Addr} {v : Option Value}, s.heap.IsCell c v → H c = none → s'.heap.IsCell c v := fun {c v} ⟨o, e, r⟩ n => ⟨o, kp c o (neN c n) e, r⟩
  obtain ⟨m, hn, hl⟩ := I.loc
  refine ⟨I.ok, os.trans I.os, bare, I.base.trans un, ⟨m, kpN hn I.free, fun i x v e1 e2 e3 => ?_⟩, fun x c e => ?_, by rw [upd_ne (neN _ I.free)]; exact I.free, fun x c e => by rw [upd_ne (neN _ (I.freeC x c e))]; exact I.freeC x c e, fun p hp => ?_, fun b o e => ?_, I.len⟩
  · obtain ⟨u, r, q⟩ := hl i x v e1 e2 e3
    refine ⟨u, r, ?_⟩
    rcases q with q | ⟨k, c, e, z⟩
    · exact .inl q
    · exact .inr ⟨k, c, e, kpC z (I.freeC x c e)⟩
  · obtain ⟨v, z⟩ := I.cell x c e
    exact ⟨v, kpC z (I.freeC x c e)⟩
  · obtain ⟨e, n, r⟩ := I.pin p hp
    exact ⟨kp _ _ (neN _ n) e, by rw [upd_ne (neN _ n)]; exact n, r⟩
  · by_cases hb : b = P
    · subst hb; rw [upd_same] at e; cases e; exact nP
    · rw [upd_ne hb] at e
      refine (I.hok b o e).stay (fun c u hc q => kp c u (fun z => ?_) q) (fun c q => by rw [upd_ne (neT c _ q (fun _ z => nomatch z))]; exact q) fun c xs q => by rw [upd_ne (neT c _ q (fun _ z => nomatch z))]; exact q
      rcases hc with y | y
      · exact hb (y.symm.trans z)
      · rw [z, hP] at y; cases y
end
section
variable {X : Cx} {e elt : Expr} {ta : TE} {te : TD} {x : Str} {px gpos pos p : Pos} {scope : Scope} {c P : Addr} {f : Nat → Bool}
def EltAt (X : Cx) (scope : Scope) (x : Str) (elt : Expr) (f : Nat → Bool) : Prop :=
  ∀ (C : Addr) (cv : Value) (A' : Around) (E' : Value → Shared → Prop) (cc : Nat) (tk : Tok) (t : Shared) (m : Str → Option Value), t.heap.Ns C m → m x = some (.str ⟨#[cc]⟩ tk) → (∀ b o, X.base.get? b = some o → t.heap.get? b = some o) → Mod X.K X.mg X.base →
    wpAny (model X.prog X.w) A' (eval elt (genEnv scope [] C cv builtinsNs X.env)) (fun y s3 => y = .bool (f cc) ∧ Keeps t s3) E' t
def tAllG (P : Addr) (f : Nat → Bool) (ta : TE) : TE := fun σ H Q => ta σ H fun v H1 => ∃ z ps, v = .str z ∧ H1 P = some (.tbl ps) ∧ TriplesOk ps.toList ∧ ∀ more : Array Value, TriplesOk (ps ++ more).toList → Q (.bl (z.cps.toList.all f)) (upd H1 P (.tbl (ps ++ more)))
theorem boot_all : bootBuiltins "all" = some (.builtin "all") := by decide +kernel
theorem pe_allG {k : Nat} (hr : Room k X.A) (G : GenK X.K c P) (Bm : BmB X.base X.mg) (hcode : X.env.code = .ref c) (hg : Gl X "all") (hm : X.mg "all" = none) (ha : PE X e ta) (hE : EltAt X scope x elt f)
    (hclos : closureFor scope X.env = pure []) (hco : scope.isCoroutine = false) (hcell : ∀ y ∈ scope.names, y.2 ≠ .cell) (h0 : scope.names.lookup (".0" : Str) = some NameKind.local) (hx : scope.names.lookup x = some .local) (hkind : scope.kind = .function)
    (hs : ∀ v, genFold e X.env v = pure v)
    (he : starEach [.GeneratorExp elt [⟨.Name x px, e, [], 0⟩] scope gpos] X.env = (false, eval (.GeneratorExp elt [⟨.Name x px, e, [], 0⟩] scope gpos) X.env) :: starEach [] X.env := by rfl) (hpl : (backTo pos (starEach [] X.env)).any (·.1) = false := by rfl) :
    PE X (.Call (.Name "all" p) [.GeneratorExp elt [⟨.Name x px, e, [], 0⟩] scope gpos] [] pos) (tAllG P f ta) := by
  intro pins s σ H Q I h
  refine wpAny_Call_Name_kw (ld_blt I hg hm boot_all ?_ (by decide) (by decide))
  refine PyProof.Rows.callWith_builtin1 ?_ he hpl
  rw [he]
  show wpAny _ _ (spliced [(false, eval (.GeneratorExp elt [⟨.Name x px, e, [], 0⟩] scope gpos) X.env)]) _ _ s
  have hh : X.A.handled = none := hr.hd
  have hroom : X.A.depth < recursionLimit := by have := hr.dp; omega
  refine Calls.spliced_cons (wpAny_GeneratorExp_walksQD (cl := []) hh hco hclos hcell h0 hx hkind hroom (thn (ha pins s σ H _ I h) fun u s1 ⟨v, H1, I1, rv, z, ps, ev, hP, tr, q⟩ => ?_) hs)
  subst ev
  obtain ⟨tz, rfl⟩ := rv
  refine wpAny_pyIter_str fun o St W hst => ?_
  have keep2 : ∀ b o', s1.heap.get? b = some o' → (s1.heap.push o).get? b = some o' := fun b o' e => Heap.get?_push_of_some _ e
  have I2 : Inv X pins σ H1 { s1 with heap := s1.heap.push o } := I1.kept (t' := s1.toks) keep2
  have tP : (s1.heap.push o).get? P = some { cls := .none, data := .fields ps } := I2.hok P _ hP
  have hPlt : P < s1.heap.objs.size := Heap.lt_size (show s1.heap.get? P = some _ from I1.hok P _ hP)
  have isC : (s1.heap.push o).IsCode c P ps := G.isCode I2.kIn tP tr
  have isT : (s1.heap.push o).TableAt c P ps := G.tabAt I2.kIn tP
  refine ⟨I2.nolimit, ?_⟩
  have hsz1 : (s1.heap.push o).objs.size = s1.heap.objs.size + 1 := Heap.size_push ..
  have hL : X.env.locals < s1.heap.objs.size := I1.lt
  -- behind the code, hit or made
  have cont : ∀ (cv : Value) (h3 : Heap) (tk3 : Nat) (more : Array Value), Heap.ExtBut P (s1.heap.push o) h3 → (s1.heap.push o).objs.size ≤ h3.objs.size → h3.get? P = some { cls := .none, data := .fields (ps ++ more) } → TriplesOk (ps ++ more).toList →
      wpAny (model X.prog X.w) X.A (builtinsFor X.env.globals X.env.builtins) (fun bi s4 => ∃ It fp wr n0 Pi St0 pz F, (Value.ref s1.heap.objs.size) = .ref It ∧ (∀ A' : Around, A'.handled = none → Walks X.prog X.w A' It fp wr n0 Pi St0) ∧ St0 0 s4.heap ∧ (∀ b ∈ fp, b < s4.heap.objs.size) ∧ s4.heap.NoLimit ∧ cStatics ∉ wr ∧
          (∀ href : Heap, (∀ b o, s4.heap.get? b = some o → href.get? b = some o) →
            QuietGenD X.prog X.w (genEnv scope [] s4.heap.objs.size cv bi X.env) x [] elt (List.range s4.heap.objs.size) wr Pi pz F href (X.A.depth + 1) (X.A.units + 8)) ∧
          (∀ a h5 tk gs, gs.bare = true → s4.heap.objs.size < a → h5.objs.size = a + 1 → (∀ b o, s4.heap.get? b = some o → h5.get? b = some o) →
            WalksS X.prog X.w X.A.in4 a (a :: s4.heap.objs.size :: List.range s4.heap.objs.size) (s4.heap.objs.size :: wr) (GenOnlyQ s4.gens.size) (passing pz n0 0).length
              (fun j y => ∃ i, (passing pz n0 0)[j]? = some i ∧ F i y) (GenAt X.prog X.w X.A.in4 a s4.gens.size s4.heap.objs.size (List.range s4.heap.objs.size) wr pz n0 F) →
            GenAt X.prog X.w X.A.in4 a s4.gens.size s4.heap.objs.size (List.range s4.heap.objs.size) wr pz n0 F 0 { s4 with gens := s4.gens.push gs, toks := tk, heap := h5 } →
            wpAny (model X.prog X.w) X.A (spliced []) (fun vs s₁ => wpAny (model X.prog X.w) X.A (call (.builtin "all") ([.ref a] ++ vs)) (EP X pins σ Q) X.xe s₁) X.xe { s4 with gens := s4.gens.push gs, toks := tk, heap := h5 })) X.xe { s1 with heap := h3, toks := tk3 } := by
    intro cv h3 tk3 more ext hsz nP tr'
    have keep3 : ∀ b o', b ≠ P → s1.heap.get? b = some o' → h3.get? b = some o' := fun b o' hb e => ext b o' hb (keep2 b o' e)
    have I3 : Inv X pins σ (upd H1 P (.tbl (ps ++ more))) { s1 with heap := h3, toks := tk3 } := Inv.tbl (s' := { s1 with heap := h3, toks := tk3 }) I1 hP rfl I1.bare keep3 nP
    obtain ⟨b0, ob, bM⟩ := Bm
    have bM := bM.keeps I3.bk
    have g3 : h3.Ns mainGlobals X.mg := I3.mod.glob.keeps I3.bk
    have hsz3 : s1.heap.objs.size < h3.objs.size := by rw [hsz1] at hsz; exact hsz
    have hcs : cStatics < s1.heap.objs.size := let ⟨_, hn, _⟩ := I1.nolimit; hn.lt
    refine wpAny_builtinsFor (m := X.mg) (by rw [I1.ok.glob]; exact g3) bM.name bM.ne bM.obj bM.cls bM.dict bM.data ?_
    refine ⟨s1.heap.objs.size, [s1.heap.objs.size], [s1.heap.objs.size], z.cps.size, SignAt z, St, (fun _ => true), (fun i y => ∃ cc, z.cps[i]? = some cc ∧ y = .bool (f cc)), rfl, W, ?_, ?_, I3.nolimit, ?_, ?_, ?_⟩
    · refine (W X.A hh).frame _ _ _ hst fun b hb o' e => ext b o' (fun y => ?_) e
      have hb : b = s1.heap.objs.size := by simpa using hb
      rw [← y, hb] at hPlt; exact Nat.lt_irrefl _ hPlt
    · intro b hb
      have hb : b = s1.heap.objs.size := by simpa using hb
      rw [hb]; exact hsz3
    · intro hb
      have hb : cStatics = s1.heap.objs.size := by simpa using hb
      rw [hb] at hcs; exact Nat.lt_irrefl _ hcs
    · intro href hk
      refine ⟨fun A' E' i v t m hA hD hU hPi hn hm hkp => ?_, fun A' E' i v t m hA hD hU hPi _ hn hm hkp => ?_⟩
      · exact wpAny_pure ⟨rfl, ⟨_, _, rfl, fun _ _ e => e⟩⟩
      · obtain ⟨cc, tk, hcc, rfl⟩ := hPi
        refine wpAny_mono (hE _ cv A' E' cc tk t m hn hm (fun b o' e => ?_) I1.mod) (fun y s3 ⟨e, k⟩ => ⟨⟨cc, hcc, e⟩, k⟩) fun _ _ e => e
        have e3 : h3.get? b = some o' := I3.bk b o' e
        have e1 : b < s1.heap.objs.size := Heap.lt_size (I1.bk b o' e)
        exact hkp b (List.mem_range.mpr (Heap.lt_size e3)) (fun hb => by have hb : b = s1.heap.objs.size := by simpa using hb
                                                                         rw [hb] at e1; exact Nat.lt_irrefl _ e1) o' (hk b o' e3)
    · intro a h5 tk gs hgb hag hsz5 hk5 WS hat
      refine Calls.spliced_nil ?_
      obtain ⟨m, fr⟩ := I3.fr
      have hpass : passing (fun _ => true) z.cps.size 0 = List.range z.cps.size := by simp [passing]
      rw [hpass] at WS
      have hlen : (List.range z.cps.size).length = z.cps.size := by simp
      refine all_rowsK (K := s1.heap.objs.size - 1) (n := (List.range z.cps.size).length) (F := fun j y => ∃ i, (List.range z.cps.size)[j]? = some i ∧ ∃ cc, z.cps[i]? = some cc ∧ y = .bool (f cc)) (Fr.keeps fr hk5) (I1.bare.push hgb) ⟨_, _, _, _, WS, hat, fun i s' st => st.1.typeIs, List.mem_cons_self, ?_, ?_⟩ (Nat.le_sub_one_of_lt hL)
        (fun j => match z.cps[j]? with | some cc => f cc | none => true) (fun j v s0 Q0 E0 hv hQ0 => ?_) fun s' F' G' hos hk => ?_
      · intro b hb
        show b < h5.objs.size
        rw [hsz5]
        rcases List.mem_cons.mp hb with rfl | hb
        · exact Nat.lt_succ_self _
        · rcases List.mem_cons.mp hb with rfl | hb
          · exact Nat.lt_succ_of_lt hag
          · exact Nat.lt_succ_of_lt (Nat.lt_trans (List.mem_range.mp hb) hag)
      · intro b hb
        rcases List.mem_cons.mp hb with rfl | hb
        · show s1.heap.objs.size - 1 < h3.objs.size
          omega
        · have hb : b = s1.heap.objs.size := by simpa using hb
          rw [hb]
          exact Nat.sub_lt (Nat.lt_of_le_of_lt (Nat.zero_le _) hL) (by decide)
      · obtain ⟨i, hi, cc, hcc, rfl⟩ := hv
        have hij : i = j := by
          have hj := (List.getElem?_eq_some_iff.mp hi).1
          rw [List.getElem?_range (by simpa using hj)] at hi
          exact (Option.some.inj hi).symm
        subst hij
        simp only [hcc] at hQ0
        exact wpAny_truthy_bool hQ0
      · have lt1 : ∀ b, b < s1.heap.objs.size → b ≤ s1.heap.objs.size - 1 := fun b hb => Nat.le_sub_one_of_lt hb
        have I5 : Inv X pins σ (upd H1 P (.tbl (ps ++ more))) s' := Inv.tbl (s' := s') I1 hP hos G' (fun b o' hb e => hk b o' (lt1 b (Heap.lt_size e)) (hk5 b o' (keep3 b o' hb e))) (hk P _ (lt1 P hPlt) (hk5 P _ nP))
        have ea : ((List.range (List.range z.cps.size).length).all fun j => match z.cps[j]? with | some cc => f cc | none => true) = z.cps.toList.all f := by
          rw [hlen, Bool.eq_iff_iff, List.all_eq_true, List.all_eq_true]
          constructor
          · intro h cc hcc
            obtain ⟨j, hj, rfl⟩ := List.getElem_of_mem hcc
            have := h j (List.mem_range.mpr (by simpa using hj))
            rw [Array.getElem?_eq_getElem (by simpa using hj)] at this
            simpa using this
          · intro h j hj
            have hj := List.mem_range.mp hj
            rw [Array.getElem?_eq_getElem hj]
            exact h _ (by simp)
        rw [ea]
        exact ⟨.bl (z.cps.toList.all f), _, I5, rfl, q more tr'⟩
  cases hf : codeAmong gpos ps.toList with
  | some cv =>
    refine wpAny_genexprCode_hit hcode isC hf ?_
    have := cont cv (s1.heap.push o) s1.toks #[] (fun b o' _ e => e) (Nat.le_refl _) (by simpa using tP) (by simpa using tr)
    exact this
  | none =>
    refine wpAny_genexprCodeX hcode isC isT hf fun c' h3 tk3 hx3 hge hlt hcode3 _ htab3 _ => ?_
    have t3 : TriplesOk (ps ++ #[rawInt gpos.line, rawInt gpos.col, .ref c']).toList := by
      obtain ⟨_, _, _, _, _, _, _, _, _, _, _, _, _, _, _, _, _, _, _, t, _⟩ := hcode3
      exact t
    exact cont (.ref c') h3 tk3 _ hx3 (Nat.le_trans hge (Nat.le_of_lt hlt)) htab3.2 t3
theorem elt_inG {y : Str} {v : Str} {tv : Tok} {p1 p2 p3 : Pos} (hk : scope.kind = .function) (hgl : X.env.globals = mainGlobals) (hx : scope.names.lookup x = some .local) (hy : scope.names.lookup y = some .globalImplicit) (hm : X.mg y = some (.str v tv))
    (hdx : (x == ("__debug__" : Str)) = false := by decide) (hdy : (y == ("__debug__" : Str)) = false := by decide) :
    EltAt X scope x (.Compare (.Name x p1) [.In] [.Name y p2] p3) fun cc => occ ⟨#[cc]⟩ v := by
  intro C cv A' E' cc tk t m hn hv hb mo
  refine wpAny_Compare1 ?_ rfl
  refine wpAny_Name (wpAny_loadName_local (m := m) hk hx hn hv ?_) hdx
  refine Calls.Name_function_global hk hy (Calls.loadGlobal_global (mg := X.mg) (by show t.heap.Ns X.env.globals X.mg; rw [hgl]; exact mo.glob.keeps hb) hm ?_) hdy
  exact in_str ⟨rfl, _, _, rfl, fun _ _ e => e⟩
end
def mTbl : MO := .gen (fun _ o => ∃ ps, o = .tbl ps ∧ TriplesOk ps.toList) fun _ _ _ _ h => h
theorem mTbl_inv {K : PySem.W.Frag} {I : Hp} {o : HO} (h : MRel K I o mTbl) : ∃ ps, o = .tbl ps ∧ TriplesOk ps.toList := by cases o <;> exact h
theorem mTbl_mk {K : PySem.W.Frag} {I : Hp} {ps : Array Value} (h : TriplesOk ps.toList) : MRel K I (.tbl ps) mTbl := ⟨ps, rfl, h⟩
theorem Ok.tbl {K : PySem.W.Frag} {H I : Hp} {m : M} {P : Addr} {qs : Array Value} (ok : Ok K H I m) (hm : m P = some mTbl) (ht : TriplesOk qs.toList) : Ok K (upd H P (.tbl qs)) I m := by
  have nI : ∀ b o, I b = some o → b ≠ P := fun b o e z => by have := ok.dj b o e; rw [z, hm] at this; cases this
  refine ⟨fun a o e => by rw [upd_ne (nI a o e)]; exact ok.im a o e, ok.dj, fun a q e => ?_⟩
  by_cases h : a = P
  · subst h; rw [hm] at e; cases e; exact ⟨_, upd_same, mTbl_mk ht⟩
  · obtain ⟨o, h1, h2⟩ := ok.mu a q e
    exact ⟨o, by rw [upd_ne h]; exact h1, h2⟩
section
variable {X : Cx} {e elt : Expr} {te : TD} {x : Str} {px gpos pos p : Pos} {scope : Scope} {c P : Addr} {f : Nat → Bool}
def dAllG (P : Addr) (f : Nat → Bool) (te : TD) : TD := fun δ m Q => te δ m fun v m1 => ∃ z, v = .d (.str z) ∧ m1 P = some mTbl ∧ Q (.d (.bool (z.cps.toList.all f))) m1
theorem de_allG {k : Nat} (hr : Room k X.A) (G : GenK X.K c P) (Bm : BmB X.base X.mg) (hcode : X.env.code = .ref c) (hg : Gl X "all") (hm : X.mg "all" = none) (ha : DE X e te) (hE : EltAt X scope x elt f)
    (hclos : closureFor scope X.env = pure []) (hco : scope.isCoroutine = false) (hcell : ∀ y ∈ scope.names, y.2 ≠ .cell) (h0 : scope.names.lookup (".0" : Str) = some NameKind.local) (hx : scope.names.lookup x = some .local) (hkind : scope.kind = .function)
    (hs : ∀ v, genFold e X.env v = pure v)
    (he : starEach [.GeneratorExp elt [⟨.Name x px, e, [], 0⟩] scope gpos] X.env = (false, eval (.GeneratorExp elt [⟨.Name x px, e, [], 0⟩] scope gpos) X.env) :: starEach [] X.env := by rfl) (hpl : (backTo pos (starEach [] X.env)).any (·.1) = false := by rfl) :
    DE X (.Call (.Name "all" p) [.GeneratorExp elt [⟨.Name x px, e, [], 0⟩] scope gpos] [] pos) (dAllG P f te) := by
  refine de_of (pe_allG hr G Bm hcode hg hm ha.pe hE hclos hco hcell h0 hx hkind hs he hpl) (fun δ m Q Q' hq q => ha.mono δ m _ _ (fun v m1 ⟨z, e1, e2, k⟩ => ⟨z, e1, e2, hq _ _ k⟩) q) fun σ H I δ m Q ok rl q => ?_
  refine ⟨I, δ, m, ok, rl, ha.mono δ m _ _ (fun v m1 ⟨z, e1, e2, k⟩ v1 H1 I1 s1 o1 i1 => ?_) q⟩
  subst e1
  obtain ⟨o, h1, h2⟩ := o1.mu P _ e2
  obtain ⟨ps, rfl, tr⟩ := mTbl_inv h2
  exact ⟨z, ps, i1.str, h1, tr, fun more tr' => qd_same (o1.tbl e2 tr') s1 (isB _) k⟩
end
section
variable {P : Program} {w : World} {K : PySem.W.Frag} {mg : Str → Option Value} {base : Heap}
theorem Fun.okC {x qual : Str} {st : Stmt} {f : Addr} {fd : FuncData} {N ps : List Str} {k : Nat} {sp : L2.Sp} (F : Fun K x qual st f fd) (S : FnScope N ps (defScope st)) (len : ∀ vs H Q E, sp vs H Q E → vs.length = ps.length)
    (hbody : ∀ (cdv : Value), fd.code = cdv → ∀ (A : Around) (outer : List Env) (s : Shared) (H : Hp) (vs : List V) (Q : VK) (E : XK), Room k (A.deeper (envOfC qual (defScope st) s.heap.objs.size f cdv)) → sp vs H Q E →
      ∃ t, PSs (cxOf CX0 P w K mg base N qual (defScope st) f cdv A outer s H E).nox (defBody st) t ∧ t { nx := fun _ H' => Q .non H', rt := Q } (start N vs) H) : FnOk P w K mg base CX0 (k + 1) f fd ps sp := by
  obtain ⟨oc, od, kV, doc, pm, an, cdv, ct, osl, rfl, lk, hcd⟩ := F.ex
  refine fn_of lk hcd S len fun A outer s H vs Q E hr hsp => ?_
  obtain ⟨t, h, q⟩ := hbody cdv rfl A outer s H vs Q E hr hsp
  exact ⟨t, h.nox, q⟩
theorem Fun.okDC {x qual : Str} {st : Stmt} {f : Addr} {fd : FuncData} {N ps : List Str} {k : Nat} {F : FD} (G : Fun K x qual st f fd) (S : FnScope N ps (defScope st)) (hF : MoA F) (len : ∀ ds m Q, F ds m Q → ds.length = ps.length)
    (hbody : ∀ (cdv : Value), fd.code = cdv → ∀ (A : Around) (outer : List Env) (s : Shared) (H : Hp) (E : XK), Room k (A.deeper (envOfC qual (defScope st) s.heap.objs.size f cdv)) →
      ∃ t, DSs (cxOf CX0 P w K mg base N qual (defScope st) f cdv A outer s H E).nox (defBody st) t ∧ ∀ ds m Q, F ds m Q → t { nx := fun _ m' => Q (.d .none) m', rt := Q } (startD N ds) m) : FnOk P w K mg base CX0 (k + 1) f fd ps (spD K F) := by
  refine Fun.okC G S (fun vs H Q E h => ?_) (fun cdv hc A outer s H vs Q E hr h => ?_)
  · obtain ⟨I, ds, m, ok, is, q⟩ := h
    rw [paired_len is]
    exact len ds m _ q
  · obtain ⟨I, ds, m, ok, is, q⟩ := h
    obtain ⟨t, ht, hq⟩ := hbody cdv hc A outer s H E hr
    refine ⟨_, ht.ps, I, startD N ds, m, ok, rl_start is, ?_⟩
    refine ht.mono { nx := fun _ m' => ∀ v H' I', Same I I' → Ok K H' I' m' → Is K I' v (.d .none) → Q v H', rt := fun d m' => ∀ v H' I', Same I I' → Ok K H' I' m' → Is K I' v d → Q v H' } _ _ _ ⟨fun _ m' z σ' H' I' s' o' _ => z _ H' I' s' o' isN, fun _ _ z => z, fun _ _ z => z.elim, fun _ _ z => z.elim⟩ (hq ds m _ q)
end
end DL
set_option maxHeartbeats 1000000
namespace DL
open PySem PySem.Spec PyProof.Rows L2
theorem law_callP {Pr : Program} {w : World} {K : PySem.W.Frag} {mg mb : Str → Option Value} {k : Nat} {fa a c Pt : Addr} {fd : FuncData} {x : Str} {sp : L2.Sp} {s₁ : Shared} {vs : List Value} {ns : List Int}
    (KX : K.In s₁.heap) (hns : s₁.heap.Ns mainGlobals mg) (hb : s₁.heap.Ns builtinsNs mb) (hbb : ∀ x : Str, x ≠ "__name__" → mb x = bootBuiltins x) (hlim : s₁.heap.NoLimit) (hg : s₁.gens = #[])
    (ha : s₁.heap.get? a = some { cls := .type "list", data := .seq vs.toArray }) (hi : IntsAre vs ns) (hl : ns.length ≤ sizeLine) (hr : Room k callerA)
    (hB : Based s₁.heap s₁.heap c Pt #[]) (noP : K.lookup Pt = none)
    (bM : BmB s₁.heap mg) (F : ∀ base : Heap, K.In base → base.Ns mainGlobals mg → BmB base mg → FnOk Pr w K mg base CX0 k fa fd [x] sp) (hbind : ∀ (s : Shared) (u : Value), BindsTo s fd ⟨[u], []⟩ [(x, u)])
    (hsp : ∀ H1 : Hp, H1 Pt = none → SqL K H1 a (ns.map V.int) → sp [.ref a] (upd H1 Pt (.tbl #[])) (fun v _ => v = .bl true) fun _ _ _ => False) :
    codeAny (model Pr w) callerA (.call (.ref fa) ⟨[.ref a], []⟩) (fun r s' => r = .ok (.ret (.bool true)) ∧ OldK s₁.heap s'.heap ∧ s'.os = s₁.os ∧ AllBare s'.gens) s₁ := by
  have rv := vals_ints hi
  have lenV := hi.length
  have hPt : s₁.heap.get? Pt = some { cls := .none, data := .fields #[] } := hB.tab.2
  have aP : a ≠ Pt := fun e => by rw [e, hPt] at ha; cases ha
  have core : ∀ H1 : Hp, Only H1 → SqL K H1 a (ns.map V.int) → HOk Pr w H1 s₁.heap → (∀ b, H1 b ≠ none → b = a) → (H1 a ≠ none → K.lookup a = none) →
      codeAny (model Pr w) callerA (.call (.ref fa) ⟨[.ref a], []⟩) (fun r s' => r = .ok (.ret (.bool true)) ∧ OldK s₁.heap s'.heap ∧ s'.os = s₁.os ∧ AllBare s'.gens) s₁ := by
    intro H1 hO hS hok1 hA hK
    have hn1 : H1 Pt = none := by
      cases q : H1 Pt with
      | none => rfl
      | some u => exact absurd (hA Pt (by rw [q]; simp)) (Ne.symm aP)
    have hok : HOk Pr w (upd H1 Pt (.tbl #[])) s₁.heap := fun b o e => by
      by_cases hbP : b = Pt
      · subst hbP; rw [upd_same] at e; cases e; exact hPt
      · rw [upd_ne hbP] at e
        exact (hok1 b o e).stay (fun _ _ _ q => q) (fun c q => by rw [upd_ne (ne_of_none q hn1)]; exact q) fun c xs q => by rw [upd_ne (ne_of_none q hn1)]; exact q
    have hA' : ∀ b, upd H1 Pt (.tbl #[]) b ≠ none → b = a ∨ b = Pt := fun b hb => by
      by_cases hbP : b = Pt
      · exact .inr hbP
      · rw [upd_ne hbP] at hb; exact .inl (hA b hb)
    have base_of : ∀ {b : Addr} {o : Obj}, s₁.heap.get? b = some o → upd H1 Pt (.tbl #[]) b = none → (hidT s₁.heap (upd H1 Pt (.tbl #[]))).get? b = some o := fun e n => hidT_get e n
    have noA : ∀ {b : Addr} {o : Obj} {es : Array DictEntry} {ep : Nat}, s₁.heap.get? b = some o → o.data = .dict es ep → upd H1 Pt (.tbl #[]) b = none := fun {b o es ep} e d => by
      cases q : upd H1 Pt (.tbl #[]) b with
      | none => rfl
      | some u =>
        rcases hA' b (by rw [q]; simp) with e' | e'
        · subst e'
          rw [ha] at e; cases e
          have d' : Data.seq vs.toArray _ = Data.dict es ep := d
          cases d'
        · subst e'
          rw [hPt] at e; cases e
          cases d
    have nsK : ∀ {b : Addr} {m : Str → Option Value}, s₁.heap.Ns b m → (hidT s₁.heap (upd H1 Pt (.tbl #[]))).Ns b m := fun {b m} ⟨o, es, ep, e, d, r⟩ => ⟨o, es, ep, base_of e (noA e d), d, r⟩
    have hKb : K.In (hidT s₁.heap (upd H1 Pt (.tbl #[]))) := fun b o e => base_of (KX b o e) (by
      cases q : upd H1 Pt (.tbl #[]) b with
      | none => rfl
      | some u =>
        rcases hA' b (by rw [q]; simp) with e' | e'
        · subst e'
          rw [upd_ne aP] at q
          rw [hK (by rw [q]; simp)] at e; cases e
        · rw [e', noP] at e; cases e)
    have hM : Mod K mg (hidT s₁.heap (upd H1 Pt (.tbl #[]))) := ⟨hKb, nsK hns, ⟨mb, nsK hb, hbb⟩, let ⟨mc, h1, h2⟩ := hlim; ⟨mc, nsK h1, h2⟩⟩
    have bB : BmB (hidT s₁.heap (upd H1 Pt (.tbl #[]))) mg := by
      obtain ⟨b, ob, M⟩ := bM
      refine ⟨b, ob, ⟨nsK M.ns, M.name, M.ne, base_of M.obj ?_, M.cls, M.dict, M.data⟩⟩
      cases q : upd H1 Pt (.tbl #[]) b with
      | none => rfl
      | some u =>
        have ho := M.obj
        have hc := M.cls
        rcases hA' b (by rw [q]; simp) with e' | e'
        · rw [e', ha] at ho; cases ho; exact absurd (show Value.type "list" = Value.type "module" from hc) (by decide)
        · rw [e', hPt] at ho; cases ho; exact absurd (show Value.none = Value.type "module" from hc) (by decide)
    have e0 : Env0 Pr w K mg (hidT s₁.heap (upd H1 Pt (.tbl #[]))) callerA [] s₁ (upd H1 Pt (.tbl #[])) := ⟨rfl, hM, fun b o e => of_hidT e, Nat.le_of_eq (hidT_size _ _), trivial, fun b hb => absurd (show b ∈ ([] : List Addr) from hb) (by simp), hok, .of_eq hg⟩
    refine codeAny_mono ((F _ hKb (nsK hns) bB).run callerA [] s₁ (upd H1 Pt (.tbl #[])) ⟨[.ref a], []⟩ [.ref a] [.ref a] _ _ hr e0 (hbind s₁ (.ref a)) (.cons rfl .nil) (hsp H1 hn1 hS)) fun r s' h => ?_
    cases r with
    | error e => exact False.elim h
    | ok fl =>
      cases fl with
      | next => exact False.elim h
      | brk => exact False.elim h
      | cont => exact False.elim h
      | ret u =>
        obtain ⟨v, H', os, bare, un, hok', r', q⟩ := h
        have q' : v = .bl true := q
        subst q'
        obtain rfl : u = Value.bool true := r'
        obtain ⟨more, hm⟩ := un.tbls Pt #[] upd_same
        have hP' : s'.heap.get? Pt = some { cls := .none, data := .fields (#[] ++ more) } := hok' Pt _ hm
        have kp : ∀ b o, b ≠ Pt → s₁.heap.get? b = some o → s'.heap.get? b = some o := fun b o hbP e => by
          cases q : H1 b with
          | none => exact un.keep b o e (by rw [upd_ne hbP]; exact q) (by intro z; exact absurd (show b ∈ ([] : List Addr) from z) (by simp)) (by simp)
          | some u =>
            rcases hO b with z | ⟨ob, xs, z⟩
            · rw [q] at z; cases z
            · have z' : upd H1 Pt (.tbl #[]) b = some (.frz ob (.lst xs)) := by rw [upd_ne hbP]; exact z
              have z2 := un.frzs b ob _ z'
              obtain ⟨e1, _⟩ := hok b _ z'
              obtain ⟨e2, _⟩ := hok' b _ z2
              rw [e] at e1; cases e1
              exact e2
        have hcP : c ≠ Pt := by obtain ⟨_, _, _, _, _, _, _, _, _, _, _, _, _, _, _, _, _, _, _, _, x⟩ := hB.code; exact x
        have tab' : s'.heap.TableAt c Pt (#[] ++ more) := let ⟨⟨o, vs, e, r⟩, _⟩ := hB.tab; ⟨⟨o, vs, kp c o hcP e, r⟩, hP'⟩
        refine ⟨rfl, hB.old.step_table hB.tab hB.tab tab' kp hB.notStatics, os, bare⟩
  cases hk : K.lookup a with
  | some o =>
    have e := KX a o hk
    rw [ha] at e
    cases e
    refine core (fun _ => none) (fun _ => .inl rfl) (.inr ⟨_, vs.toArray, _, hk, rfl, rfl, rfl, by rw [List.size_toArray, lenV]; exact hl, by simpa using rv⟩) (fun b u z => by have z' : (none : Option HO) = some u := z; cases z') (fun b z => absurd rfl z) fun z => absurd rfl z
  | none =>
    refine core (fun b => if b = a then some (.frz { cls := .type "list", data := .seq vs.toArray } (.lst (ns.map V.int))) else none) (fun b => ?_) (.inl (.inr ⟨{ cls := .type "list", data := .seq vs.toArray }, if_pos rfl⟩)) (fun b u z => ?_) (fun b z => ?_) fun _ => hk
    · by_cases hb : b = a
      · exact .inr ⟨_, _, if_pos hb⟩
      · exact .inl (if_neg hb)
    · by_cases hb : b = a
      · have z' := (if_pos hb).symm.trans z
        cases z'
        subst hb
        exact ⟨ha, by rw [List.length_map]; exact hl, vs, _, rv, ha⟩
      · have z' := (if_neg hb).symm.trans z
        cases z'
    · by_cases hb : b = a
      · exact hb
      · exact absurd (if_neg hb) z
structure TblK (K : PySem.W.Frag) (mg : Str → Option Value) (nm : Str) (Pt : Addr) : Prop where
  ex : ∃ a oc od fd sl c ocd odc vs slc, mg nm = some (.ref a) ∧ K.lookup a = some ⟨oc, od, .func fd, sl⟩ ∧ fd.code = .ref c ∧ K.lookup c = some ⟨ocd, odc, .fields vs, slc⟩ ∧ vs[11]? = some (.ref Pt)
  no : K.lookup Pt = none
theorem walk_ofP {l : PySem.W.OpenLaw} {n k : Nat} {q : Program} {loose : List Str} {XP : (Str → Option Value) → Heap → Prop} {YP : World → Heap → Prop} {d d' : DefRec} {K : Params → PySem.W.Frag} {F0 : Addr → FD} {x nm : Str}
    (hn : l.most = some n) (hn2 : n ≤ sizeLine) (hdf : d.params.defaults = []) (hr : Room k callerA)
    (hY : ∀ (w : World) (h : Heap), YP w h → (K w.params).In h) (hf : (recsOf q).find? (fun e => e.name == nm) = some d')
    (F : ∀ (w : World) (mg : Str → Option Value) (fa : Addr) (h : Heap), (K w.params).In h → h.Ns mainGlobals mg → mg d.name = some (.ref fa) →
      ∃ Pt : Addr, TblK (K w.params) mg nm Pt ∧ ∃ fd : FuncData, (∀ (s : Shared) (u : Value), BindsTo s fd ⟨[u], []⟩ [(x, u)]) ∧
        ∀ base : Heap, (K w.params).In base → base.Ns mainGlobals mg → BmB base mg → FnOk l.prog w (K w.params) mg base CX0 k fa fd [x] (spD (K w.params) (F0 Pt)))
    (hsp : ∀ (Pt : Addr) (ns : List Int), ns.length ≤ n → F0 Pt [.d (.list (ns.map .int))] (setM (fun _ => none) Pt mTbl) fun v _ => v = .d (.bool true)) (hmo : ∀ Pt, MoA (F0 Pt)) :
    PySem.W.WalkO q loose XP YP l.row.toRowW d [] (fun f vs => PySem.call f vs) := by
  refine Att.attach_call hn hdf fun w s₀ s₁ mg mb fa o pm cd doc a vs ns G Y ho hd hcd hmg hobj hints hlen hg => ?_
  have KX := hY w _ Y
  obtain ⟨Pt, ⟨⟨a1, oc, od, fd1, sl, c, ocd, odc, vs1, slc, m1, l1, c1, l2, h11⟩, noP⟩, fd, hb, hF⟩ := F w mg fa _ KX G.T.g hmg
  obtain ⟨c2, P2, e2, B⟩ := PySem.W.based_of_top G.T hf m1 (KX _ _ l1) rfl
  rw [c1] at e2
  cases e2
  have hP : P2 = Pt := by
    obtain ⟨⟨o2, vs2, g1, g2, g3, g4⟩, _⟩ := B.tab
    rw [KX _ _ l2] at g1
    cases g1
    cases g3
    rw [h11] at g4
    cases g4
    rfl
  subst hP
  refine law_callP KX G.T.g G.T.b G.T.builtins G.T.nolimit hg hobj hints (Nat.le_trans hlen hn2) hr B noP (PySem.W.bmod_of_top G.T) hF hb fun H1 hn1 hS => ?_
  refine ⟨H1, [.d (.list (ns.map .int))], setM (fun _ => none) P2 mTbl, ⟨fun b u e => ?_, fun b u e => ?_, fun b u e => ?_⟩, .cons (L2.Dp.lst hS (DL.ints_dp ns)) .nil, hmo P2 _ _ _ _ (fun v m' hv v' H' I' _ _ h => ?_) (hsp P2 ns hlen)⟩
  · rw [upd_ne (ne_of_none e hn1)]; exact e
  · rw [setM_ne (ne_of_none e hn1)]
  · by_cases hbP : b = P2
    · subst hbP; rw [setM_same] at e; cases e; exact ⟨_, upd_same, mTbl_mk trivial⟩
    · rw [setM_ne hbP] at e; cases e
  · subst hv
    exact h.bl
end DL
namespace DL
open PySem PySem.Spec PyProof.Rows L2
section
variable {X : Cx} {e st : Expr} {te : TD} {pos p2 : Pos}
def dRev (te ts : TD) : TD := fun δ m Q => te δ m fun x m1 => ts δ m1 fun k m2 => k = .d (.int (-1)) ∧ ∃ xs, x = .d (.list xs) ∧ Q (.d (.list xs.reverse)) m2
end
end DL
namespace DL
open PySem PyProof.Rows
theorem cps_app (x y : Str) : (x ++ y).cps.toList = x.cps.toList ++ y.cps.toList := by
  first | rfl | exact Array.toList_append ..
theorem str_ext {x y : Str} (h : x.cps.toList = y.cps.toList) : x = y := by
  cases x; cases y
  simp only [Str.mk.injEq]
  exact Array.ext' h
end DL
namespace DL
open PySem PyProof.Rows
def figs (n : Nat) : List Nat := (Nat.toDigits 10 n).map Char.toNat
theorem fig_one {n : Nat} (h : n < 10) : (Nat.digitChar n).toNat = 48 + n := by
  rcases (show n = 0 ∨ n = 1 ∨ n = 2 ∨ n = 3 ∨ n = 4 ∨ n = 5 ∨ n = 6 ∨ n = 7 ∨ n = 8 ∨ n = 9 by omega) with rfl | rfl | rfl | rfl | rfl | rfl | rfl | rfl | rfl | rfl <;> rfl
theorem figs_lt {n : Nat} (h : n < 10) : figs n = [48 + n] := by
  unfold figs
  rw [Nat.toDigits_of_lt_base h, List.map_cons, List.map_nil, fig_one h]
theorem figs_ge {n : Nat} (h : 10 ≤ n) : figs n = figs (n / 10) ++ [48 + n % 10] := by
  unfold figs
  rw [Nat.toDigits_of_base_le (by decide) h, List.map_append, List.map_cons, List.map_nil, fig_one (Nat.mod_lt _ (by decide))]
theorem figs_digits (n : Nat) : ∀ c ∈ figs n, 48 ≤ c ∧ c ≤ 57 := by
  induction n using Nat.strongRecOn with
  | ind n ih =>
    by_cases h : n < 10
    · rw [figs_lt h]; intro c hc; simp at hc; omega
    · rw [figs_ge (by omega)]
      intro c hc
      rcases List.mem_append.mp hc with g | g
      · exact ih (n / 10) (by omega) c g
      · simp at g; omega
theorem shown_nat (n : Nat) : (Str.ofString (toString ((n : Nat) : Int))).cps.toList = figs n := by
  have e : toString ((n : Nat) : Int) = Nat.repr n := rfl
  rw [e, Str.ofString_eq_toList]
  show ((Nat.repr n).toList.map _) = _
  rw [Nat.toList_repr]
  rfl
theorem shown_neg (n : Nat) : (Str.ofString (toString (Int.negSucc n))).cps.toList = 45 :: figs (n + 1) := by
  have e : toString (Int.negSucc n) = "-" ++ Nat.repr (n + 1) := rfl
  rw [e, Str.ofString_eq_toList]
  show (("-" ++ Nat.repr (n + 1)).toList.map _) = _
  rw [String.toList_append, Nat.toList_repr, List.map_append]
  rfl
end DL
namespace Sp
def c1 (a n : Int) : Int := if a < n then 1 else 0
def cnt (u v : Int) : Int := c1 (po (u + 1) v) (po u v) + c1 (po u (v + 1)) (po u v) + c1 (po (u + -1) v) (po u v) + c1 (po u (v + -1)) (po u v)
theorem c1_lt {a n : Int} (h : a < n) : c1 a n = 1 := by unfold c1; rw [if_pos h]
theorem c1_ge {a n : Int} (h : ¬ a < n) : c1 a n = 0 := by unfold c1; rw [if_neg h]
theorem sq_bound (k : Int) (h : 0 ≤ k) : 4 * (k + 1) * (k + 1) = 4 * k * k + 8 * k + 4 := by
  rw [Int.mul_add, Int.mul_add, Int.add_mul]; omega
theorem sq_less (k : Int) : 4 * (k - 1) * (k - 1) = 4 * k * k - 8 * k + 4 := by
  rw [Int.mul_sub, Int.mul_sub, Int.sub_mul]; omega
theorem po_out {x y k n : Int} (hk : 0 ≤ k) (hr : ring x y = k + 1) (hn : n ≤ 4 * k * k + 4 * k) : n < po x y := by
  obtain ⟨_, b, _, d⟩ := po_bounds x y
  rw [hr] at b d
  have := d (by omega)
  have e := sq_bound k hk
  omega
theorem po_in {x y k n : Int} (hk : 1 ≤ k) (hr : ring x y ≤ k - 1) (hn : 4 * k * k - 4 * k < n) : po x y < n := by
  obtain ⟨_, _, c, _⟩ := po_bounds x y
  have h0 := (ring_cases x y).1
  have m : 4 * ring x y * ring x y ≤ 4 * (k - 1) * (k - 1) := Int.mul_le_mul (by omega) hr h0 (by omega)
  have e := sq_less k
  omega
theorem ring_is {x y k : Int} (h : (x = k ∨ x = -k ∨ y = k ∨ y = -k) ∧ -k ≤ x ∧ x ≤ k ∧ -k ≤ y ∧ y ≤ k) : ring x y = k := by
  have b := ring_cases x y
  omega
theorem po_low {x y k : Int} (h : y = -k) (h1 : -k ≤ x) (h2 : x ≤ k) : po x y = 4 * k * k + 3 * k + x := by
  obtain ⟨_, e⟩ := po_of (x := x) (y := y) (k := k) (by omega) (.inl ⟨h, h1, h2⟩)
  rw [e, if_pos h]
theorem po_left {x y k : Int} (h : x = -k) (h1 : -k < y) (h2 : y ≤ k) : po x y = 4 * k * k + k - y := by
  obtain ⟨_, e⟩ := po_of (x := x) (y := y) (k := k) (by omega) (.inr (.inl ⟨h, h1, h2⟩))
  rw [e, if_neg (by omega), if_pos h]
theorem po_top {x y k : Int} (h : y = k) (h1 : -k < x) (h2 : x ≤ k) : po x y = 4 * k * k - k - x := by
  obtain ⟨_, e⟩ := po_of (x := x) (y := y) (k := k) (by omega) (.inr (.inr (.inl ⟨h, h1, h2⟩)))
  rw [e, if_neg (by omega), if_neg (by omega), if_pos h]
theorem po_right {x y k : Int} (h : x = k) (h1 : -k < y) (h2 : y < k) : po x y = 4 * k * k - 3 * k + y := by
  obtain ⟨_, e⟩ := po_of (x := x) (y := y) (k := k) (by omega) (.inr (.inr (.inr ⟨h, h1, h2⟩)))
  rw [e, if_neg (by omega), if_neg (by omega), if_neg (by omega)]
theorem beside (u v : Int) : (po (u + 1) v = po u v + 1 ∨ po u (v + 1) = po u v + 1 ∨ po (u + -1) v = po u v + 1 ∨ po u (v + -1) = po u v + 1) ∧
    (0 < po u v → (po (u + 1) v = po u v - 1 ∨ po u (v + 1) = po u v - 1 ∨ po (u + -1) v = po u v - 1 ∨ po u (v + -1) = po u v - 1)) ∧
    (0 < po u v → ∀ t, IsRoot (4 * po u v - 1) t → cnt u v = if (t + 1) * (t + 1) / 4 = po u v then 1 else 2) ∧ (po u v = 0 → cnt u v = 0) := by
  obtain ⟨k, hr, hk, h⟩ := po_sides u v
  rcases (show k ≤ 0 ∨ 0 < k by omega) with kz | kp
  · have k0 : k = 0 := by omega
    subst k0
    have hu : u = 0 ∧ v = 0 := by omega
    obtain ⟨rfl, rfl⟩ := hu
    have e0 : po 0 0 = 0 := by decide
    have e1 : po 1 0 = 1 := by decide
    have e2 : po 0 1 = 3 := by decide
    have e3 : po (-1) 0 = 5 := by decide
    have e4 : po 0 (-1) = 7 := by decide
    refine ⟨.inl (by decide), fun h => absurd h (by decide), fun h => absurd h (by decide), fun _ => by decide⟩
  have b := po_bounds u v
  rw [hr] at b
  have hpos : 0 < po u v := by
    have h1 := b.2.2.2 kp
    have h2 : 4 * k * 1 ≤ 4 * k * k := Int.mul_le_mul_of_nonneg_left (by omega) (by omega)
    omega
  -- a corner, by its square
  have cor : ∀ w : Int, 0 < w → (w * w = 4 * po u v ∨ w * w = 4 * po u v + 1) → ∀ t, IsRoot (4 * po u v - 1) t → (t + 1) * (t + 1) / 4 = po u v := by
    intro w w0 hw t ht
    have hw1 : IsRoot (4 * po u v - 1) (w - 1) := by
      refine ⟨by omega, ?_, ?_⟩
      · have : (w - 1) * (w - 1) = w * w - 2 * w + 1 := by rw [Int.mul_sub, Int.sub_mul]; omega
        have ww : 0 < w * w := Int.mul_pos w0 w0
        rcases (show w = 1 ∨ 2 ≤ w by omega) with rfl | h2
        · exfalso; simp at hw; omega
        · omega
      · rw [Int.sub_add_cancel]; omega
    have := root_unique ht hw1
    subst this
    rw [Int.sub_add_cancel]
    omega
  -- none, between two squares
  have noc : ∀ w : Int, 0 ≤ w → w * w < 4 * po u v → 4 * po u v + 4 ≤ (w + 1) * (w + 1) → ∀ t, IsRoot (4 * po u v - 1) t → ¬ (t + 1) * (t + 1) / 4 = po u v := by
    intro w w0 h1 h2 t ht
    have hw1 : IsRoot (4 * po u v - 1) w := ⟨w0, by omega, by omega⟩
    have := root_unique ht hw1
    subst this
    omega
  have s1 : (4 * k - 2) * (4 * k - 2) = 4 * (4 * k * k) - 16 * k + 4 := by
    have : (4 * k - 2) * (4 * k - 2) = 4 * k * (4 * k) - 16 * k + 4 := by rw [Int.mul_sub, Int.sub_mul]; omega
    have e : 4 * k * (4 * k) = 4 * (4 * k * k) := Int.mul_left_comm (4 * k) 4 k
    omega
  have s2 : (4 * k - 1) * (4 * k - 1) = 4 * (4 * k * k) - 8 * k + 1 := by
    have : (4 * k - 1) * (4 * k - 1) = 4 * k * (4 * k) - 8 * k + 1 := by rw [Int.mul_sub, Int.sub_mul]; omega
    have e : 4 * k * (4 * k) = 4 * (4 * k * k) := Int.mul_left_comm (4 * k) 4 k
    omega
  have s3 : (4 * k) * (4 * k) = 4 * (4 * k * k) := Int.mul_left_comm (4 * k) 4 k
  have s4 : (4 * k + 1) * (4 * k + 1) = 4 * (4 * k * k) + 8 * k + 1 := by rw [Int.mul_add, Int.add_mul, s3]; omega
  have s5 : (4 * k + 2) * (4 * k + 2) = 4 * (4 * k * k) + 16 * k + 4 := by rw [Int.mul_add, Int.add_mul, s3]; omega
  have kk : 4 * (k + 1) * (k + 1) = 4 * k * k + 8 * k + 4 := sq_bound k hk
  refine ⟨?_, fun _ => ?_, fun _ t ht => ?_, fun h0 => by omega⟩
  · -- the next one
    rcases h with ⟨h1, h2, h3, h⟩ | ⟨h1, h2, h3, h⟩ | ⟨h1, h2, h3, h⟩ | ⟨h1, h2, h3, h⟩
    · left
      rcases (show u < k ∨ u = k by omega) with hl | hl
      · rw [po_low (x := u + 1) (k := k) h1 (by omega) (by omega)]; omega
      · rw [po_right (x := u + 1) (k := k + 1) (by omega) (by omega) (by omega)]; omega
    · right; right; right
      rcases (show -k < v + -1 ∨ v + -1 = -k by omega) with hl | hl
      · rw [po_left (x := u) (k := k) h1 (by omega) (by omega)]; omega
      · rw [po_low (x := u) (k := k) hl (by omega) (by omega)]; omega
    · right; right; left
      rcases (show -k < u + -1 ∨ u + -1 = -k by omega) with hl | hl
      · rw [po_top (x := u + -1) (k := k) h1 (by omega) (by omega)]; omega
      · rw [po_left (x := u + -1) (k := k) hl (by omega) (by omega)]; omega
    · right; left
      rcases (show v + 1 < k ∨ v + 1 = k by omega) with hl | hl
      · rw [po_right (y := v + 1) (k := k) h1 (by omega) (by omega)]; omega
      · rw [po_top (y := v + 1) (k := k) hl (by omega) (by omega)]; omega
  · -- the one ahead
    rcases h with ⟨h1, h2, h3, h⟩ | ⟨h1, h2, h3, h⟩ | ⟨h1, h2, h3, h⟩ | ⟨h1, h2, h3, h⟩
    · rcases (show -k < u ∨ u = -k by omega) with hl | hl
      · right; right; left
        rw [po_low (x := u + -1) (k := k) h1 (by omega) (by omega)]; omega
      · right; left
        rw [po_left (y := v + 1) (k := k) hl (by omega) (by omega)]; omega
    · rcases (show v < k ∨ v = k by omega) with hl | hl
      · right; left
        rw [po_left (y := v + 1) (k := k) h1 (by omega) (by omega)]; omega
      · left
        rw [po_top (x := u + 1) (k := k) hl (by omega) (by omega)]; omega
    · rcases (show u < k ∨ u = k by omega) with hl | hl
      · left
        rw [po_top (x := u + 1) (k := k) h1 (by omega) (by omega)]; omega
      · right; right; right
        rw [po_right (y := v + -1) (k := k) hl (by omega) (by omega)]; omega
    · rcases (show -k + 1 < v ∨ v = -k + 1 by omega) with hl | hl
      · right; right; right
        rw [po_right (y := v + -1) (k := k) h1 (by omega) (by omega)]; omega
      · right; right; left
        have e := sq_less k
        rw [po_low (x := u + -1) (k := k - 1) (by omega) (by omega) (by omega)]; omega
  · -- how many are less
    unfold cnt
    rcases h with ⟨h1, h2, h3, h⟩ | ⟨h1, h2, h3, h⟩ | ⟨h1, h2, h3, h⟩ | ⟨h1, h2, h3, h⟩
    · -- low
      have o4 : ¬ po u (v + -1) < po u v := by have := po_out (n := po u v) hk (ring_is (x := u) (y := v + -1) (k := k + 1) (by omega)) (by omega); omega
      rcases (show u = -k ∨ (-k < u ∧ u < k) ∨ u = k by omega) with hl | hl | hl
      · have o1 : po (u + 1) v = po u v + 1 := by rw [po_low (x := u + 1) (k := k) h1 (by omega) (by omega)]; omega
        have o3 : ¬ po (u + -1) v < po u v := by have := po_out (n := po u v) hk (ring_is (x := u + -1) (y := v) (k := k + 1) (by omega)) (by omega); omega
        have o2 : po u (v + 1) = po u v - 1 := by rw [po_left (y := v + 1) (k := k) hl (by omega) (by omega)]; omega
        rw [if_pos (cor (4 * k + 1) (by omega) (.inr (by omega)) t ht), c1_ge (by omega), c1_lt (by omega), c1_ge o3, c1_ge o4]; rfl
      · have o1 : po (u + 1) v = po u v + 1 := by rw [po_low (x := u + 1) (k := k) h1 (by omega) (by omega)]; omega
        have o3 : po (u + -1) v = po u v - 1 := by rw [po_low (x := u + -1) (k := k) h1 (by omega) (by omega)]; omega
        have o2 : po u (v + 1) < po u v := po_in (k := k) (by omega) (by have := ring_cases u (v + 1); omega) (by omega)
        rw [if_neg (noc (4 * k + 1) (by omega) (by omega) (by rw [show 4 * k + 1 + 1 = 4 * k + 2 by omega]; omega) t ht), c1_ge (by omega), c1_lt o2, c1_lt (by omega), c1_ge o4]; rfl
      · have o1 : ¬ po (u + 1) v < po u v := by have := po_out (n := po u v) hk (ring_is (x := u + 1) (y := v) (k := k + 1) (by omega)) (by omega); omega
        have o3 : po (u + -1) v = po u v - 1 := by rw [po_low (x := u + -1) (k := k) h1 (by omega) (by omega)]; omega
        have o2 : po u (v + 1) < po u v := by
          rw [po_right (y := v + 1) (k := k) hl (by omega) (by omega)]; omega
        rw [if_neg (noc (4 * k + 1) (by omega) (by omega) (by rw [show 4 * k + 1 + 1 = 4 * k + 2 by omega]; omega) t ht), c1_ge o1, c1_lt o2, c1_lt (by omega), c1_ge o4]; rfl
    · -- left
      have o3 : ¬ po (u + -1) v < po u v := by have := po_out (n := po u v) hk (ring_is (x := u + -1) (y := v) (k := k + 1) (by omega)) (by omega); omega
      have o4 : po u (v + -1) = po u v + 1 := by
        rcases (show -k < v + -1 ∨ v + -1 = -k by omega) with hl | hl
        · rw [po_left (x := u) (k := k) h1 (by omega) (by omega)]; omega
        · rw [po_low (x := u) (k := k) hl (by omega) (by omega)]; omega
      rcases (show v = k ∨ v < k by omega) with hl | hl
      · have o2 : ¬ po u (v + 1) < po u v := by have := po_out (n := po u v) hk (ring_is (x := u) (y := v + 1) (k := k + 1) (by omega)) (by omega); omega
        have o1 : po (u + 1) v = po u v - 1 := by rw [po_top (x := u + 1) (k := k) hl (by omega) (by omega)]; omega
        rw [if_pos (cor (4 * k) (by omega) (.inl (by omega)) t ht), c1_lt (by omega), c1_ge o2, c1_ge o3, c1_ge (by omega)]; rfl
      · have o2 : po u (v + 1) = po u v - 1 := by rw [po_left (y := v + 1) (k := k) h1 (by omega) (by omega)]; omega
        have o1 : po (u + 1) v < po u v := po_in (k := k) (by omega) (by have := ring_cases (u + 1) v; omega) (by omega)
        rw [if_neg (noc (4 * k) (by omega) (by omega) (by omega) t ht), c1_lt o1, c1_lt (by omega), c1_ge o3, c1_ge (by omega)]; rfl
    · -- top
      have o2 : ¬ po u (v + 1) < po u v := by have := po_out (n := po u v) hk (ring_is (x := u) (y := v + 1) (k := k + 1) (by omega)) (by omega); omega
      have o3 : po (u + -1) v = po u v + 1 := by
        rcases (show -k < u + -1 ∨ u + -1 = -k by omega) with hl | hl
        · rw [po_top (x := u + -1) (k := k) h1 (by omega) (by omega)]; omega
        · rw [po_left (x := u + -1) (k := k) hl (by omega) (by omega)]; omega
      rcases (show u = k ∨ u < k by omega) with hl | hl
      · have o1 : ¬ po (u + 1) v < po u v := by have := po_out (n := po u v) hk (ring_is (x := u + 1) (y := v) (k := k + 1) (by omega)) (by omega); omega
        have o4 : po u (v + -1) = po u v - 1 := by rw [po_right (y := v + -1) (k := k) hl (by omega) (by omega)]; omega
        rw [if_pos (cor (4 * k - 1) (by omega) (.inr (by omega)) t ht), c1_ge o1, c1_ge o2, c1_ge (by omega), c1_lt (by omega)]; rfl
      · have o1 : po (u + 1) v = po u v - 1 := by rw [po_top (x := u + 1) (k := k) h1 (by omega) (by omega)]; omega
        have o4 : po u (v + -1) < po u v := po_in (k := k) (by omega) (by have := ring_cases u (v + -1); omega) (by omega)
        rw [if_neg (noc (4 * k - 1) (by omega) (by omega) (by rw [Int.sub_add_cancel]; omega) t ht), c1_lt (by omega), c1_ge o2, c1_ge (by omega), c1_lt o4]; rfl
    · -- right
      have o1 : ¬ po (u + 1) v < po u v := by have := po_out (n := po u v) hk (ring_is (x := u + 1) (y := v) (k := k + 1) (by omega)) (by omega); omega
      have o2 : po u (v + 1) = po u v + 1 := by
        rcases (show v + 1 < k ∨ v + 1 = k by omega) with hl | hl
        · rw [po_right (y := v + 1) (k := k) h1 (by omega) (by omega)]; omega
        · rw [po_top (y := v + 1) (k := k) hl (by omega) (by omega)]; omega
      have o3 : po (u + -1) v < po u v := po_in (k := k) (by omega) (by have := ring_cases (u + -1) v; omega) (by omega)
      rcases (show v = -k + 1 ∨ -k + 1 < v by omega) with hl | hl
      · have o4 : ¬ po u (v + -1) < po u v := by
          rw [po_low (y := v + -1) (k := k) (by omega) (by omega) (by omega)]; omega
        rw [if_pos (cor (4 * k - 2) (by omega) (.inl (by omega)) t ht), c1_ge o1, c1_ge (by omega), c1_lt o3, c1_ge o4]; rfl
      · have o4 : po u (v + -1) = po u v - 1 := by rw [po_right (y := v + -1) (k := k) h1 (by omega) (by omega)]; omega
        rw [if_neg (noc (4 * k - 2) (by omega) (by omega) (by rw [show 4 * k - 2 + 1 = 4 * k - 1 by omega]; omega) t ht), c1_ge o1, c1_ge (by omega), c1_lt o3, c1_lt (by omega)]; rfl
end Sp
namespace Sp
theorem corner_gap (p : Int) (hp : 0 ≤ p) : (p + 1) * (p + 1) / 4 - p * p / 4 = p / 2 + (if p % 2 = 0 then 0 else 1) := by
  rcases Int.emod_two_eq p with h | h
  · obtain ⟨k, rfl⟩ : ∃ k, p = 2 * k := ⟨p / 2, by omega⟩
    have e0 : 2 * k * (2 * k) = 4 * (k * k) := by rw [Int.mul_left_comm, Int.mul_assoc, ← Int.mul_assoc]; rfl
    have e1 : (2 * k + 1) * (2 * k + 1) = 4 * (k * k) + 4 * k + 1 := by rw [Int.mul_add, Int.add_mul]; omega
    rw [if_pos h]
    omega
  · obtain ⟨k, rfl⟩ : ∃ k, p = 2 * k + 1 := ⟨p / 2, by omega⟩
    have e0 : 2 * k * (2 * k) = 4 * (k * k) := by rw [Int.mul_left_comm, Int.mul_assoc, ← Int.mul_assoc]; rfl
    have e1 : (2 * k + 1) * (2 * k + 1) = 4 * (k * k) + 4 * k + 1 := by rw [Int.mul_add, Int.add_mul]; omega
    have e2 : (2 * k + 1 + 1) * (2 * k + 1 + 1) = 4 * (k * k) + 8 * k + 4 := by
      rw [show 2 * k + 1 + 1 = 2 * k + 2 by omega, Int.mul_add, Int.add_mul]; omega
    rw [if_neg (by omega)]
    omega
end Sp
namespace K
open PySem L2 DL Sp
def DeckIs (o : MO) (c : Nat) : Prop := ∃ (ns : List Int) (i1 i2 i3 i4 : Int), o = .lst [.d (.list (ns.map .int)), I i1, I i2, I i3, I i4] ∧ ns.length ≤ 63 ∧ 0 ≤ i1 ∧ i1 ≤ ns.length ∧ 0 ≤ i3 ∧ i3 ≤ c
theorem DeckIs.mono {o : MO} {c d : Nat} (h : DeckIs o c) (l : c ≤ d) : DeckIs o d := by
  obtain ⟨ns, i1, i2, i3, i4, e, h1, h2, h3, h4, h5⟩ := h
  exact ⟨ns, i1, i2, i3, i4, e, h1, h2, h3, h4, by omega⟩
def F__law_mix : FD := fun ds m Q => ∃ c k, ds = [I c, I k] ∧ (0 ≤ k ∧ k < 2 ^ 40) ∧ ∀ r, 0 ≤ r → r < 2 ^ 31 → Q (I r) m
def F__law_deck : FD := fun ds m Q => ∃ ns : List Int, ds = [.d (.list (ns.map .int))] ∧ ns.length ≤ 63 ∧ ∀ p o, m p = none → DeckIs o 0 → Q (.r p) (setM m p o)
def F__law_next : FD := fun ds m Q => ∃ a many o c, ds = [.r a, I many] ∧ (0 < many ∧ many < 2 ^ 150) ∧ m a = some o ∧ DeckIs o c ∧ c < 2 ^ 38 ∧ ∀ r o', 0 ≤ r → r < many → DeckIs o' (c + 1) → Q (I r) (setM m a o')
def F__law_great : FD := fun ds m Q => ∃ a many o c, ds = [.r a, I many] ∧ (0 < many ∧ many < 2 ^ 150) ∧ m a = some o ∧ DeckIs o c ∧ c < 2 ^ 37 ∧ ∀ r o', 0 ≤ r → r < many → DeckIs o' (c + 4) → Q (I r) (setM m a o')
def F__law_spiral : FD := fun ds m Q => ∃ a o c, ds = [.r a] ∧ m a = some o ∧ DeckIs o c ∧ c < 2 ^ 36 ∧ ∀ s q r o', (-(10 ^ 18) ≤ s ∧ s ≤ 10 ^ 18) → q < 4 → DeckIs o' (c + 9) → Q (spi s q r) (setM m a o')
theorem mo__law_mix : MoA F__law_mix := fun _ _ _ _ h ⟨c, k, e, l, z⟩ => ⟨c, k, e, l, fun r h1 h2 => h _ _ (z r h1 h2)⟩
theorem mo__law_deck : MoA F__law_deck := fun _ _ _ _ h ⟨ns, e, l, z⟩ => ⟨ns, e, l, fun p o h1 h2 => h _ _ (z p o h1 h2)⟩
theorem mo__law_next : MoA F__law_next := fun _ _ _ _ h ⟨a, mm, o, c, e, l, h1, h2, h3, z⟩ => ⟨a, mm, o, c, e, l, h1, h2, h3, fun r o' a b d => h _ _ (z r o' a b d)⟩
theorem mo__law_great : MoA F__law_great := fun _ _ _ _ h ⟨a, mm, o, c, e, l, h1, h2, h3, z⟩ => ⟨a, mm, o, c, e, l, h1, h2, h3, fun r o' a b d => h _ _ (z r o' a b d)⟩
theorem mo__law_spiral : MoA F__law_spiral := fun _ _ _ _ h ⟨a, o, c, e, h1, h2, h3, z⟩ => ⟨a, o, c, e, h1, h2, h3, fun s q r o' a b d => h _ _ (z s q r o' a b d)⟩
theorem at_mem {ns : List Int} {r : Int} (h0 : 0 ≤ r) (h1 : r < ns.length) : ∃ v ∈ ns, atI (ns.map PyData.int) r = some (.int v) := by
  have hlt : r.toNat < ns.length := by omega
  exact ⟨ns[r.toNat], List.getElem_mem hlt, atI_of (k := r.toNat) (by omega) (by rw [List.getElem?_map, List.getElem?_eq_getElem hlt]; rfl)⟩
theorem hd_at {r : Int} (h0 : 0 ≤ r) (h1 : r < 4) : ∃ c, atI (Str.ofString "enws").cps.toList r = some c ∧ (⟨#[c]⟩ : Str) = hdS r.toNat := by
  rcases (show r = 0 ∨ r = 1 ∨ r = 2 ∨ r = 3 by omega) with rfl | rfl | rfl | rfl
  · exact ⟨101, by decide +kernel, by decide +kernel⟩
  · exact ⟨110, by decide +kernel, by decide +kernel⟩
  · exact ⟨119, by decide +kernel, by decide +kernel⟩
  · exact ⟨115, by decide +kernel, by decide +kernel⟩
theorem tn_at {r : Int} (h0 : 0 ≤ r) (h1 : r < 2) : ∃ c, atI (Str.ofString "lr").cps.toList r = some c ∧ (⟨#[c]⟩ : Str) = tnS (decide (r = 1)) := by
  rcases (show r = 0 ∨ r = 1 by omega) with rfl | rfl
  · exact ⟨108, by decide +kernel, by decide +kernel⟩
  · exact ⟨114, by decide +kernel, by decide +kernel⟩
theorem len_enws : (Str.ofString "enws").length ≤ 16777216 := by decide +kernel
theorem len_lr : (Str.ofString "lr").length ≤ 16777216 := by decide +kernel
end K
namespace KT
open PySem L2 DL Sp K
def shw (n : Int) : Str := Str.ofString (toString n)
def isFig (c : Nat) : Bool := decide (48 ≤ c ∧ c ≤ 57)
theorem occ_fig (c : Nat) : occ ⟨#[c]⟩ "0123456789" = isFig c := by
  unfold occ isFig
  rw [StrLaws.found_one]
  have e : (Str.ofString "0123456789").cps.toList = [48, 49, 50, 51, 52, 53, 54, 55, 56, 57] := by decide +kernel
  rw [e]
  congr 1
  simp only [List.mem_cons, List.not_mem_nil, or_false, eq_iff_iff]
  omega
def bare (z : Str) : List Nat := match z.cps.toList with | 45 :: l => l | l => l
theorem rmp (z : Str) : (Txt.removeprefix z "-").cps.toList = bare z := by
  rw [StrLaws.removeprefix_eq]
  have e : Str.ofString "-" = ⟨#[45]⟩ := by decide +kernel
  rw [e]
  have h1 := StrLaws.subAt_one z 45 0
  rw [show (⟨#[45]⟩ : Str).length = 1 from rfl] at h1 ⊢
  unfold bare
  by_cases h : z.cps.toList[0]? = some 45
  · obtain ⟨a, b⟩ := h1.mpr h
    rw [decide_eq_true a, b]
    simp only [Bool.and_self, if_true]
    have hz : z.length = z.cps.toList.length := by simp [Str.length]
    rw [hz]
    cases e : z.cps.toList with
    | nil => rw [e] at h; cases h
    | cons c l =>
      rw [e] at h
      have h : c = 45 := by simpa using h
      subst h
      simp
  · rw [if_neg (fun g => h (h1.mp (by simpa using g)))]
    cases e : z.cps.toList with
    | nil => rfl
    | cons c l =>
      rw [e] at h
      have h : c ≠ 45 := by simpa using h
      split
      · next g => cases g; exact absurd rfl h
      · rfl
def isW (z : Str) : Bool := z == "0" || (!(bare z).isEmpty && (bare z).head? != some 48 && (bare z).all isFig)
theorem join3 (a b c : Str) : Txt.join " " [a, b, c] = Str.join ⟨#[32]⟩ [a, b, c] := by
  have e : Str.ofString " " = ⟨#[32]⟩ := by decide +kernel
  rw [e]
  exact StrLaws.glued_eq_join _ _
def spt (s : Int) (q : Nat) (r : Bool) : Str := Str.join ⟨#[32]⟩ [shw s, hdS q, tnS r]
theorem shw_len {n : Int} (h : -(10 ^ 30) < n ∧ n < 10 ^ 30) : (shw n).length ≤ 31 := by
  have e := int_text_length_le10 (a := n) (k := 30) (by decide) (by omega)
  unfold shw
  rw [PySem.ofString_length]
  exact e
theorem hdS_len (q : Nat) : (hdS q).length = 1 := by
  unfold hdS
  repeat' split
  all_goals decide +kernel
theorem tnS_len (r : Bool) : (tnS r).length = 1 := by unfold tnS; split <;> decide +kernel
theorem spt_len {s : Int} (h : -(10 ^ 30) < s ∧ s < 10 ^ 30) (q : Nat) (r : Bool) : (spt s q r).length ≤ 40 := by
  unfold spt
  show (shw s ++ ⟨#[32]⟩ ++ (hdS q ++ ⟨#[32]⟩ ++ tnS r)).length ≤ 40
  have := shw_len h
  simp only [PySem.strLen_append, hdS_len, tnS_len]
  show (shw s).length + 1 + (1 + 1 + 1) ≤ 40
  omega
abbrev Cp (z : Str) : Prop := ∀ c ∈ z.cps.toList, c < 1114112
abbrev Sz (z : Str) : Prop := z.length ≤ 1000000 ∧ Cp z
theorem shaped_str {z : Str} (h : Cp z) : SeqAt.shaped (.str z) = true := by
  unfold SeqAt.shaped
  have h1 : PyData.canLay0 (.str z) = true := by
    rw [PyData.canLay0]
    unfold PyData.strOk
    rw [← Array.all_toList, List.all_eq_true]
    intro c hc
    simpa using h c hc
  rw [h1]
  rfl
theorem bare_sub (z : Str) : ∀ c ∈ bare z, c ∈ z.cps.toList := by
  unfold bare
  intro c hc
  split at hc
  · next l e => rw [e]; exact List.mem_cons_of_mem _ hc
  · exact hc
theorem shw_cp (n : Int) : Cp (shw n) := by
  intro c hc
  cases n with
  | ofNat k =>
    rw [show (shw (Int.ofNat k)).cps.toList = figs k from shown_nat k] at hc
    have := figs_digits k c hc; omega
  | negSucc k =>
    rw [show (shw (Int.negSucc k)).cps.toList = 45 :: figs (k + 1) from shown_neg k] at hc
    rcases List.mem_cons.mp hc with rfl | hc
    · decide
    · have := figs_digits _ c hc; omega
theorem hdS_cp (q : Nat) : Cp (hdS q) := by
  unfold hdS
  repeat' split
  all_goals (show ∀ c ∈ _, c < 1114112; decide +kernel)
theorem tnS_cp (r : Bool) : Cp (tnS r) := by
  unfold tnS
  split
  all_goals (show ∀ c ∈ _, c < 1114112; decide +kernel)
theorem app_cp {x y : Str} (h1 : Cp x) (h2 : Cp y) : Cp (x ++ y) := fun c hc => by
  rw [cps_app] at hc
  rcases List.mem_append.mp hc with h | h
  · exact h1 c h
  · exact h2 c h
theorem spt_cp (s : Int) (q : Nat) (r : Bool) : Cp (spt s q r) := by
  have e : spt s q r = shw s ++ ⟨#[32]⟩ ++ (hdS q ++ ⟨#[32]⟩ ++ tnS r) := by simp only [spt, Str.join]
  rw [e]
  have b : Cp ⟨#[32]⟩ := fun c hc => by simp at hc; omega
  exact app_cp (app_cp (shw_cp s) b) (app_cp (app_cp (hdS_cp q) b) (tnS_cp r))
def F_is_written_number (P : Addr) : FD := fun ds m Q => ∃ z, ds = [.d (.str z)] ∧ m P = some mTbl ∧ Sz z ∧ Q (.d (.bool (isW z))) m
theorem mo_is_written_number {P : Addr} : MoA (F_is_written_number P) := fun _ _ _ _ h ⟨z, e, h1, h2, q⟩ => ⟨z, e, h1, h2, h _ _ q⟩
abbrev Sn (s : Int) : Prop := -(10 ^ 30) < s ∧ s < 10 ^ 30
def F_read_spiral (P : Addr) : FD := fun ds m Q => ∃ s q r, ds = [.d (.str (spt s q r))] ∧ q < 4 ∧ Sn s ∧ m P = some mTbl ∧ Q (spi s q r) m
theorem mo_read_spiral {P : Addr} : MoA (F_read_spiral P) := fun _ _ _ _ h ⟨s, q, r, e, h1, h2, h3, z⟩ => ⟨s, q, r, e, h1, h2, h3, h _ _ z⟩
def F__law_same : FD := fun ds m Q => ∃ s q r, ds = [spi s q r, spi s q r] ∧ q < 4 ∧ Q (.d (.bool true)) m
theorem mo__law_same : MoA F__law_same := fun _ _ _ _ h ⟨s, q, r, e, h1, z⟩ => ⟨s, q, r, e, h1, h _ _ z⟩
def F_law (P : Addr) : FD := fun ds m Q => ∃ ns : List Int, ds = [.d (.list (ns.map .int))] ∧ ns.length ≤ 63 ∧ m P = some mTbl ∧ ∀ m', Q (.d (.bool true)) m'
theorem mo_law {P : Addr} : MoA (F_law P) := fun _ _ _ _ h ⟨ns, e, l, h1, z⟩ => ⟨ns, e, l, h1, fun m' => h _ _ (z m')⟩
theorem del_draw {m : M} {a D : Addr} {o o' : MO} {L : MO} (h : a ≠ D) (hD : m D = none) : delM (setM (setM (setM m a o) D L) a o') D = setM m a o' := by
  funext b
  by_cases e : b = D
  · subst e; rw [delM_same, setM_ne (Ne.symm h), hD]
  · rw [delM_ne e]
    by_cases e2 : b = a
    · subst e2; rw [setM_same, setM_same]
    · rw [setM_ne e2, setM_ne e2, setM_ne e, setM_ne e2]
end KT
namespace DL
open PySem PySem.Spec PyProof.Rows L2
def FlyAt (h : Heap) (e : Addr) (c : Value) (dx : Option Addr) (T : Option Addr) : Prop :=
  ∃ oe vs, h.get? e = some oe ∧ oe.cls = c ∧ oe.dict = dx ∧ oe.data = .fields vs ∧ 1 < vs.size ∧ (match T with
    | none => vs[1]? = some .none
    | some t => vs[1]? = some (.ref t) ∧ t ≠ e ∧ ∃ oT ts, h.get? t = some oT ∧ oT.data = .fields ts ∧ ts[3]? = some .none)
structure KeepBut (fs : List Addr) (e : Addr) (T : Option Addr) (h h' : Heap) : Prop where
  keep : ∀ b o, b ≠ e → T ≠ some b → b ∉ fs → h.get? b = some o → h'.get? b = some o
  slot : ∀ b o, b ≠ e → T ≠ some b → h.get? b = some o → ∃ sl, h'.get? b = some { o with slots := sl }
theorem dict_mapFields (o : Obj) (f : Array Value → Array Value) : (Obj.mapFields f o).dict = o.dict := by unfold Obj.mapFields; split <;> rfl
section
variable {M : Model} {A : Around} {E : Value → Shared → Prop} {s : Shared}
theorem entry_keep {base : Heap} {env : Env} {outer : List Env} {L e : Addr} {oe : Obj} {vs : Array Value} {head : Value} {hadNext : Bool} {Q : Unit → Shared → Prop}
    (hfr : A.frames = some (env :: outer)) (hl : s.heap.FunFrames base (env :: outer)) (hf : env.frame = some L) (he : s.heap.get? e = some oe) (hd : oe.data = .fields vs) (hsz : 1 < vs.size)
    (h : ∀ h' T, s.heap.objs.size ≤ T → FlyAt h' e oe.cls oe.dict (some T) → KeepBut (frs (env :: outer)) e none s.heap h' → Q () { s with heap := h' }) :
    wpAny M A (do let a ← frameOf env; let pl ← entryPlaceOf L hadNext; let b ← EntryCells.newEntry head a .none (rawInt L) .none pl; setField (.ref e) 1 b) (fun _ s' => wpAny M A (setFlight (.ref e) none) Q E s') E s := by
  have hene : e ∉ (env :: outer).filterMap (·.frame) := fun hm => by
    obtain ⟨_, o, ho, hnf⟩ := hl.mem hm
    rw [he] at ho; injection ho with ho; subst ho; exact hnf vs hd
  refine wpAny_bind (wpAny_frameOf_fun hfr hl hf fun h₁ hs₁ => ?_)
  refine wpAny_bind (wpAny_entryPlaceOf fun pl hpl => ?_)
  unfold EntryCells.newEntry newFields
  refine wpAny_bind (wpAny_newObj_type ?_ (hpl.sizeOk5 _ _ _ _ _))
  have he₁ : h₁.get? e = some oe := (hs₁.2.1 e hene).trans he
  generalize hO : ({ cls := .type "traceback", dict := none, data := .fields ([head, .ref L, .none, rawInt L, .none] ++ (if pl.isEmpty then List.replicate 6 Value.none else pl)).toArray } : Obj) = oN
  have hNd : oN.data = .fields ([head, .ref L, .none, rawInt L, .none] ++ (if pl.isEmpty then List.replicate 6 Value.none else pl)).toArray := by rw [← hO]
  have hNf : oN.isFreed = false := Obj.isFreed_of_fields hNd
  have he₂ := Heap.get?_push_of_some (h := h₁) oN he₁
  refine wpAny_setField he₂ hd hsz ?_
  have hTe : h₁.objs.size ≠ e := Nat.ne_of_gt (Heap.lt_size he₁)
  have hd₃ := Obj.data_mapFields hd (·.setIfInBounds 1 (Value.ref h₁.objs.size))
  have he₃ := Heap.get?_update_self (Obj.mapFields (·.setIfInBounds 1 (Value.ref h₁.objs.size))) he₂ (Obj.isFreed_of_fields hd₃)
  have hT₃ := (Heap.get?_update_other (h₁.push oN) (Obj.mapFields (·.setIfInBounds 1 (Value.ref h₁.objs.size))) (Ne.symm hTe)).trans (Heap.get?_push_size h₁ hNf)
  unfold setFlight
  refine wpAny_bind (wpAny_field he₃ hd₃ (x := .ref h₁.objs.size) (by simp [hsz]) ?_)
  rw [if_pos (show (Value.ref h₁.objs.size != Value.none) = true from by simp)]
  refine wpAny_setField hT₃ hNd (by simp only [List.size_toArray, List.length_append, List.length_cons, List.length_nil] <;> omega) (h _ h₁.objs.size ?_ ?_ ?_)
  · exact Nat.le_of_eq hs₁.1.symm
  · refine ⟨_, _, (Heap.get?_update_other _ _ hTe).trans he₃, Obj.cls_mapFields _ _, dict_mapFields _ _, hd₃, by simpa using hsz, by simp [hsz], hTe, _, _, Heap.get?_update_self _ hT₃ (Obj.isFreed_of_fields (Obj.data_mapFields hNd _)), Obj.data_mapFields hNd _, ?_⟩
    first | (simp; done) | (rcases hpl with rfl | ⟨_, _, _, _, _, _, _, rfl⟩ <;> simp)
  · have up : ∀ b o, b ≠ e → h₁.get? b = some o → (((h₁.push oN).update e (Obj.mapFields (·.setIfInBounds 1 (Value.ref h₁.objs.size)))).update h₁.objs.size (Obj.mapFields (·.setIfInBounds 3 ((none : Option Addr).elim Value.none fun f => rawInt f)))).get? b = some o := fun b o hb hg => by
      rw [Heap.get?_update_other _ _ (Nat.ne_of_gt (Heap.lt_size hg)), Heap.get?_update_other _ _ (Ne.symm hb)]
      exact Heap.get?_push_of_some _ hg
    refine ⟨fun b o hb _ hn hg => up b o hb ((hs₁.2.1 b hn).trans hg), fun b o hb _ hg => ?_⟩
    obtain ⟨sl, z⟩ := hs₁.2.2 b o hg
    exact ⟨sl, up b _ hb z⟩
theorem note_keep {base : Heap} {env : Env} {outer : List Env} {L e : Addr} {c : Value} {dx T : Option Addr} {Q : Unit → Shared → Prop} (hfr : A.frames = some (env :: outer)) (hl : s.heap.FunFrames base (env :: outer)) (hf : env.frame = some L) (fl : FlyAt s.heap e c dx T)
    (h : ∀ h' T', s.heap.objs.size ≤ T' → FlyAt h' e c dx (some T') → KeepBut (frs (env :: outer)) e T s.heap h' → Q () { s with heap := h' }) : wpAny M A (noteFrame (.ref e) env) (fun _ s' => wpAny M A (setFlight (.ref e) none) Q E s') E s := by
  obtain ⟨oe, vs, he, rfl, rfl, hd, hsz, hh⟩ := fl
  unfold noteFrame
  simp only [hf]
  cases T with
  | none =>
    refine wpAny_bind (wpAny_field he hd hh ?_)
    rw [if_neg (by decide)]
    exact entry_keep hfr hl hf he hd hsz h
  | some t =>
    obtain ⟨h1, hte, oT, ts, hT, hdT, h3⟩ := hh
    refine wpAny_bind (wpAny_field he hd h1 ?_)
    rw [if_pos (show (Value.ref t != Value.none) = true from by simp)]
    refine wpAny_bind (wpAny_field hT hdT h3 ?_)
    rw [if_neg (show ¬ ((Value.none == rawInt L) = true) from by simp [rawInt])]
    refine wpAny_bind (wpAny_setField hT hdT (Array.getElem?_eq_some_iff.mp h3).1 ?_)
    have other : ∀ b, b ≠ t → (s.heap.update t (Obj.mapFields (·.setIfInBounds 3 Value.none))).get? b = s.heap.get? b := fun b hb => Heap.get?_update_other _ _ (Ne.symm hb)
    have noRecord : ∀ b o, s.heap.get? b = some o → (∀ vs, o.data ≠ .fields vs) → b ≠ t := fun b o hb hnf q => by
      rw [q, hT] at hb; injection hb with hb; subst hb; exact hnf ts hdT
    refine entry_keep (s := { s with heap := s.heap.update t (Obj.mapFields (·.setIfInBounds 3 Value.none)) }) hfr (hl.of_keeps fun b o hb hnf => ⟨o, (other b (noRecord b o hb hnf)).trans hb, rfl⟩) hf ((other e (Ne.symm hte)).trans he) hd hsz fun h' T' hs' fl' kb => ?_
    refine h h' T' (by rw [Heap.size_update] at hs'; exact hs') fl' ⟨fun b o hb ht hn hg => kb.keep b o hb (fun z => nomatch z) hn ((other b fun z => ht (by rw [z])).trans hg), fun b o hb ht hg => kb.slot b o hb (fun z => nomatch z) ((other b fun z => ht (by rw [z])).trans hg)⟩
theorem leave_keep {base : Heap} {env : Env} {outer : List Env} {L e : Addr} {c : Value} {dx T : Option Addr} {Q : Unit → Shared → Prop} (hfr : A.frames = some (env :: outer)) (hl : s.heap.FunFrames base (env :: outer)) (hf : env.frame = some L) (fl : FlyAt s.heap e c dx T)
    (h : ∀ h' T', s.heap.objs.size ≤ T' → FlyAt h' e c dx (some T') → KeepBut (frs (env :: outer)) e T s.heap h' → Q () { s with heap := h' }) : wpAny M A (leaving env (.ref e)) Q E s := by
  unfold leaving
  exact wpAny_bind (note_keep hfr hl hf fl h)
theorem land_keep {e t : Addr} {c : Value} {dx : Option Addr} {Q : Unit → Shared → Prop} (fl : FlyAt s.heap e c dx (some t)) (h : ∀ h', FlyAt h' e c dx (some t) → KeepBut [] e (some t) s.heap h' → Q () { s with heap := h' }) : wpAny M A (setFlight (.ref e) none) Q E s := by
  obtain ⟨oe, vs, he, rfl, rfl, hd, hsz, h1, hte, oT, ts, hT, hdT, h3⟩ := fl
  have hsz3 : 3 < ts.size := (Array.getElem?_eq_some_iff.mp h3).1
  unfold setFlight
  refine wpAny_bind (wpAny_field he hd h1 ?_)
  rw [if_pos (show (Value.ref t != Value.none) = true from by simp)]
  have other : ∀ b, b ≠ t → (s.heap.update t (Obj.mapFields (·.setIfInBounds 3 ((none : Option Addr).elim Value.none fun f => rawInt f)))).get? b = s.heap.get? b := fun b hb => Heap.get?_update_other _ _ (Ne.symm hb)
  refine wpAny_setField hT hdT hsz3 (h _ ⟨oe, vs, (other e (Ne.symm hte)).trans he, rfl, rfl, hd, hsz, h1, hte, _, _, Heap.get?_update_self _ hT (Obj.isFreed_of_fields (Obj.data_mapFields hdT _)), Obj.data_mapFields hdT _, by simp [hsz3]⟩ ⟨fun b o hb ht hn hg => (other b fun z => ht (by rw [z])).trans hg, fun b o hb ht hg => ⟨o.slots, (other b fun z => ht (by rw [z])).trans hg⟩⟩)
end
end DL
namespace DL
open PySem PySem.Spec PyProof.Rows L2
structure Flies (k : Nat) (H : Hp) (h : Heap) (e : Addr) (c : Value) (dx : Addr) (od : Obj) (T : Option Addr) : Prop where
  fly : FlyAt h e c (some dx) T
  dict : h.get? dx = some od
  ke : k ≤ e
  kd : k ≤ dx
  kT : ∀ t, T = some t → k ≤ t
  fe : H e = none
  fd : H dx = none
  fT : ∀ t, T = some t → H t = none
  de : dx ≠ e
  dT : T ≠ some dx
section
variable {P : Program} {w : World} {K : PySem.W.Frag} {mg : Str → Option Value} {base : Heap} {N : List Str} {qual : Str} {scope : Scope} {f : Addr} {cd : Value} {A : Around} {outer : List Env} {s : Shared} {H : Hp} {E : XK}
theorem Flies.mono {j k : Nat} {H : Hp} {h : Heap} {e dx : Addr} {c : Value} {od : Obj} {T : Option Addr} (x : Flies k H h e c dx od T) (l : j ≤ k) : Flies j H h e c dx od T :=
  ⟨x.fly, x.dict, Nat.le_trans l x.ke, Nat.le_trans l x.kd, fun t z => Nat.le_trans l (x.kT t z), x.fe, x.fd, x.fT, x.de, x.dT⟩
end
end DL
set_option maxHeartbeats 1000000
namespace DL
open PySem PySem.Spec PyProof.Rows L2
section
variable {prog : Program} {w : World} {A : Around} {E : Value → Shared → Prop} {h : Heap} {g : Array GenState} {d : Drawn} {t : Nat} {os : OsState}
variable {nm q : Str} {C N f : Addr} {bs bm bmB : List Value} {hdct : Bool} {sn : List Str} {sub : List Value} {ab : Bool} {col : Option Bool} {dd : Option Addr} {k0 k1 k2 k3 k5 : Option Value} {B newId initId : String}
abbrev madeHp (h : Heap) (C : Addr) (rest : List Value) : Heap := (h.push { cls := .type "tuple", data := .seq rest.toArray }).push { cls := .ref C, data := .fields #[.ref h.objs.size, .none, .none, .none, .bool false, .none] }
theorem type_call_own (F : ExcBaseFacts B newId initId bmB) (T : OwnTail h bmB bm) {mN : Str → Option Value} {rest : List Value} {Q : Fin → Shared → Prop} {of : Obj}
    (hC : h.get? C = some (excClassObj nm q C N bs bm hdct sn sub ab col dd k0 k1 k2 k3 k5 newId)) (hn : h.Ns N mN) (hni : mN "__init__" = some (.ref f)) (hf : h.get? f = some of) (hfc : of.cls = .type "function")
    (hq : wpAny (model prog w) A (call (.ref f) (.ref (h.objs.size + 1) :: rest)) (fun r s' => r = .none ∧ Q (.done (.ret (.ref (h.objs.size + 1)))) s') E ⟨madeHp h C rest, g, d, t, os⟩) (hrest : rest.length ≤ sizeLine := by size_fits) :
    wpAny (model prog w) A (Builtin.«type.__call__» ⟨.ref C :: rest, []⟩) Q E ⟨h, g, d, t, os⟩ := by
  repeat (first | with_reducible refine wpAny_loadPart_at hC ?_ | with_reducible refine wpAny_madeBy_exc hC ?_ | wp_step)
  refine codeAny_call_builtin_code (Code.quiet_builtin _ F.quiet) (wpAny_check_new_subT F T hC ?_)
  refine codeAny_exc_new_subT F T hC ?_ hrest
  show wpAny _ _ _ _ _ _
  have keep : ∀ b o, h.get? b = some o → (madeHp h C rest).get? b = some o := fun b o e => Heap.get?_push_of_some _ (Heap.get?_push_of_some _ e)
  have hC₁ := keep _ _ hC
  have hn₁ : (madeHp h C rest).Ns N mN := let ⟨o, es, ep, e, r⟩ := hn; ⟨o, es, ep, keep _ _ e, r⟩
  have hget : (madeHp h C rest).get? (h.objs.size + 1) = some { cls := .ref C, data := .fields #[.ref h.objs.size, .none, .none, .none, .bool false, .none] } := by heap_get
  have hcC : (Value.ref C :: bm).contains (.ref C) = true := by simp
  have T₁ := T.keeps (h' := madeHp h C rest) keep
  have hf₁ := keep _ _ hf
  unfold isInstance
  repeat (first | with_reducible refine wpAny_loadPart_at hget ?_ | (with_reducible refine wpAny_isSubtype_exc hC₁ ?_; rw [hcC]) | wp_step)
  show wpAny _ _ (typeLookup (.ref C) _) _ _ _
  refine wpAny_typeLookup_tail hC₁ hn₁ T₁ F.mroIs F.init.lookup ?_
  rw [hni]
  refine wpAny_holding (wpAny_bind ?_)
  unfold bindSpecial
  have hT : (⟨madeHp h C rest, g, d, t, os⟩ : Shared).TypeIs (.ref f) "function" := ⟨_, hf₁, hfc⟩
  refine wpAny_bind (wpAny_typeOf hT ?_)
  rw [if_pos (by decide)]
  refine wpAny_pure (wpAny_bind (wpAny_mono hq (fun r s' h' => ?_) fun _ _ x => x))
  obtain ⟨rfl, h'⟩ := h'
  exact wpAny_pure (wpAny_pure h')
theorem call_own (F : ExcBaseFacts B newId initId bmB) (T : OwnTail h bmB bm) {mN : Str → Option Value} {rest : List Value} {Q : Value → Shared → Prop} {of : Obj}
    (hC : h.get? C = some (excClassObj nm q C N bs bm hdct sn sub ab col dd k0 k1 k2 k3 k5 newId)) (hn : h.Ns N mN) (hni : mN "__init__" = some (.ref f)) (hf : h.get? f = some of) (hfc : of.cls = .type "function")
    (hq : wpAny (model prog w) (A.under (.builtin "type.__call__" ⟨.ref C :: rest, []⟩)) (call (.ref f) (.ref (h.objs.size + 1) :: rest)) (fun r s' => r = .none ∧ Q (.ref (h.objs.size + 1)) s') E ⟨madeHp h C rest, g, d, t, os⟩) (hrest : rest.length ≤ sizeLine := by size_fits) :
    wpAny (model prog w) A (call (.ref C) rest) Q E ⟨h, g, d, t, os⟩ := by
  have f1 := tc_lookup
  have f2 := tc_bind (.ref C)
  have hT : (⟨h, g, d, t, os⟩ : Shared).TypeIs (.ref C) "type" := ⟨_, hC, rfl⟩
  refine wpAny_call (codeAny_of_tree ?_)
  show wpAny _ _ (callAny (.ref C) _) _ _ _
  repeat (any_goals (first | assumption | with_reducible refine wpAny_loadPart_at hC ?_ | wp_step))
  refine ⟨rfl, ?_⟩
  refine codeAny_call_builtin_at (Code.quiet_builtin _ (by decide +kernel)) entry_typeCall (wpAny_check_type_call_sub hC ?_)
  exact type_call_own (hrest := hrest) F T hC hn hni hf hfc hq
end
end DL
set_option maxHeartbeats 1000000
namespace DL
open PySem PySem.Spec PyProof.Rows L2
theorem wd_slot : Slot "wrapper_descriptor" "__get__" "wrapper_descriptor.__get__" := .of (owner := "wrapper_descriptor") (n := "__get__") (by rw [typeLookup_type, builtinLookup_eq_fast]; kernel_rfl) (by decide +kernel) (by decide +kernel) (by decide +kernel)
  (by first | exact .inl (by decide +kernel) | exact .inr (by decide +kernel)) (by rw [isSubtype_type]; kernel_rfl)
theorem wd_entry : entryFor table "wrapper_descriptor.__get__" = some Builtin.«wrapper_descriptor.__get__» := entryFor_of_tree (by kernel_rfl)
theorem wd_args (a b c : Value) : argsOk "wrapper_descriptor.__get__" ⟨[a, b, c], []⟩ := by unfold argsOk; kernel_rfl
theorem vi_type : typeOf (.builtin "ValueError.__init__") = pure (.type "wrapper_descriptor") := by show builtinType _ = _; rw [builtinType_eq_fast]; kernel_rfl
section
variable {prog : Program} {w : World} {A : Around} {E : Value → Shared → Prop} {h : Heap} {g : Array GenState} {d : Drawn} {t : Nat} {os : OsState}
variable {nm q : Str} {C N f x : Addr} {ox : Obj} {bs bm bmB : List Value} {hdct : Bool} {sn : List Str} {sub : List Value} {ab : Bool} {col : Option Bool} {dd : Option Addr} {k0 k1 k2 k3 k5 : Option Value} {newId : String}
theorem wd_get {Q : Value → Shared → Prop} (hC : h.get? C = some (excClassObj nm q C N bs bm hdct sn sub ab col dd k0 k1 k2 k3 k5 newId)) (hbm : bm.contains (.type "ValueError") = true) (hx : h.get? x = some ox) (hxc : ox.cls = .ref C)
    (hq : Q (.ref h.objs.size) ⟨h.push { cls := .type "method-wrapper", data := .fields #[.builtin "ValueError.__init__", .ref x] }, g, d, t, os⟩) :
    wpAny (model prog w) A (call (.builtin "wrapper_descriptor.__get__") [.builtin "ValueError.__init__", .ref x, .ref C]) Q E ⟨h, g, d, t, os⟩ := by
  have hcB : (Value.ref C :: bm).contains (.type "ValueError") = true := by rw [List.contains_cons, hbm, Bool.or_true]
  have hT : (⟨h, g, d, t, os⟩ : Shared).TypeIs (.builtin "ValueError.__init__") "wrapper_descriptor" := vi_type
  refine wpAny_call_entry wd_slot hT wd_entry ?_ (wd_args _ _ _)
  unfold Builtin.«wrapper_descriptor.__get__»
  repeat (first | (with_reducible refine wpAny_loadPart_at hx ?_; rw [hxc]) | with_reducible refine wpAny_loadPart_at hC ?_ | (with_reducible refine wpAny_isSubtype_exc hC ?_; rw [hcB]) | wp_step)
  have eo : (".".intercalate ("ValueError.__init__".cutAt '.').dropLast) = "ValueError" := by decide +kernel
  rw [eo]
  refine wpAny_isSubtype_exc hC ?_
  rw [hcB]
  rw [if_neg (by decide)]
  unfold newFields
  refine wpAny_pure (wpAny_bind (wpAny_newObj_type ?_ (by size_fits)))
  exact wpAny_pure ⟨_, rfl, hq⟩
theorem super_ga_init {so : Addr} {l₀ l : List Value} {K : PySem.W.Frag} {tk : Tok} {Q : Fin → Shared → Prop}
    (hso : h.get? so = some { cls := .type "super", dict := none, data := .fields #[.ref C, .ref x, .ref C], slots := #[] }) (hno : PySem.W.Looks (model prog w) h (opaqueClassAbove (.ref C)) none)
    (hL : PySem.W.Looks (model prog w) h (mroOf (.ref C)) l₀) (hl : (l₀.dropWhile (· != .ref C)).drop 1 = l) (X : K.In h)
    (hf : PySem.W.alongIn K "__init__" l = some (some (.builtin "ValueError.__init__")))
    (hC : h.get? C = some (excClassObj nm q C N bs bm hdct sn sub ab col dd k0 k1 k2 k3 k5 newId)) (hbm : bm.contains (.type "ValueError") = true) (hx : h.get? x = some ox) (hxc : ox.cls = .ref C) (hxC : x ≠ C)
    (hq : Q (.done (.ret (.ref h.objs.size))) ⟨h.push { cls := .type "method-wrapper", data := .fields #[.builtin "ValueError.__init__", .ref x] }, g, d, t, os⟩) :
    wpAny (model prog w) A (Builtin.«super.__getattribute__» ⟨[.ref so, .str "__init__" tk], []⟩) Q E ⟨h, g, d, t, os⟩ := by
  have hlk := wd_slot.lookup
  have hne : (Value.ref x == Value.ref C) = false := by simp [hxC]
  have hn : (("__init__" : Str) == ("__class__" : Str)) = false := by decide
  have hdt : ({ cls := .type "super", dict := none, data := .fields #[.ref C, .ref x, .ref C], slots := #[] } : Obj).data = .fields #[.ref C, .ref x, .ref C] := rfl
  have f0 : (#[.ref C, .ref x, .ref C] : Array Value)[0]? = some (.ref C) := rfl
  have f1 : (#[.ref C, .ref x, .ref C] : Array Value)[1]? = some (.ref x) := rfl
  have f2 : (#[.ref C, .ref x, .ref C] : Array Value)[2]? = some (.ref C) := rfl
  unfold Builtin.«super.__getattribute__»
  repeat (first
    | (with_reducible refine wpAny_field hso hdt f0 ?_) | (with_reducible refine wpAny_field hso hdt f1 ?_) | (with_reducible refine wpAny_field hso hdt f2 ?_)
    | (with_reducible refine PySem.ks_wpAny_notOpaque hno ?_)
    | (with_reducible refine PySem.W.Looks.at hL ?_; rw [hl])
    | (refine PySem.ks_forIn_along X (fun _ _ => rfl) rfl ?_ hf)
    | (with_reducible refine wpAny_of_eq vi_type ?_)
    | (with_reducible refine wd_get hC hbm hx hxc ?_)
    | (simp only [hn, hne, Bool.or_false, Bool.false_eq_true, if_false])
    | wp_step
    | dsimp only)
  all_goals exact hq
abbrev mwObj (x : Addr) : Obj := { cls := .type "method-wrapper", data := .fields #[.builtin "ValueError.__init__", .ref x] }
theorem getMethod_init {so : Addr} {l₀ l : List Value} {K : PySem.W.Frag} {pl : Sem Bool} {Q : Value × List Value → Shared → Prop}
    (hso : h.get? so = some { cls := .type "super", dict := none, data := .fields #[.ref C, .ref x, .ref C], slots := #[] }) (hno : PySem.W.Looks (model prog w) h (opaqueClassAbove (.ref C)) none)
    (hL : PySem.W.Looks (model prog w) h (mroOf (.ref C)) l₀) (hl : (l₀.dropWhile (· != .ref C)).drop 1 = l) (X : K.In h)
    (hf : PySem.W.alongIn K "__init__" l = some (some (.builtin "ValueError.__init__")))
    (hC : h.get? C = some (excClassObj nm q C N bs bm hdct sn sub ab col dd k0 k1 k2 k3 k5 newId)) (hbm : bm.contains (.type "ValueError") = true) (hx : h.get? x = some ox) (hxc : ox.cls = .ref C) (hxC : x ≠ C)
    (hq : Q (.ref h.objs.size, []) ⟨h.push (mwObj x), g, d, t + 1, os⟩) :
    wpAny (model prog w) A (getMethod (.ref so) "__init__" pl) Q E ⟨h, g, d, t, os⟩ := by
  have hlk := F.ks_slot_super_ga.lookup
  have hT : ∀ t', (⟨h, g, d, t', os⟩ : Shared).TypeIs (.ref so) "super" := fun _ => ⟨_, hso, rfl⟩
  unfold getMethod
  refine wpAny_bind (wpAny_specialOf (hT _) hlk ?_)
  show wpAny _ _ (if (Manifest.canonical "super.__getattribute__" != "object.__getattribute__") = true then _ else _) _ _ _
  rw [if_pos F.ks_canon_super_ga]
  unfold getAttr getAttrBy
  refine wpAny_bind (wpAny_bind (wpAny_mkText (wpAny_holding (wpAny_bind (wpAny_typeOf (hT _) (wpAny_bind (wpAny_of_eq hlk ?_)))))))
  show wpAny _ _ (getAttrByItsOwn (.ref so) (.str "__init__" t) (.type "super") (.builtin "super.__getattribute__") true false) _ _ _
  unfold getAttrByItsOwn hookBefore callGetattribute boundAndCalled
  refine wpAny_bind (wpAny_of_eq (show (if onTheHeap (.type "super") then typeLookup (.type "super") "__getattr__" else pure none) = pure none from rfl) ?_)
  refine wpAny_bind (wpAny_attempt (wpAny_holding ?_))
  show wpAny _ _ (bindSpecial (.builtin "super.__getattribute__") (.ref so) >>= _) _ _ _
  refine wpAny_bind (wpAny_of_eq (F.ks_slot_super_ga.bind _) ?_)
  refine wpAny_mono (Q := fun v s' => v = .ref h.objs.size ∧ s' = ⟨h.push (mwObj x), g, d, t + 1, os⟩) (E := fun _ _ => False)
    (wpAny_call_entry F.ks_slot_super_ga (hT _) F.ks_entry_super_ga (super_ga_init hso hno hL hl X hf hC hbm hx hxc hxC ⟨_, rfl, rfl, rfl⟩) (F.ks_gaArgs_super _ _)) (fun v s' hv => ?_) fun _ _ z => z.elim
  obtain ⟨rfl, rfl⟩ := hv
  exact wpAny_pure (wpAny_pure hq)
theorem callWith_mw {s : Shared} {pos : Pos} {u : Addr} {first : List Value} {args : List (Bool × Sem Value)} {Q : Value → Shared → Prop} (hplain : args.any (·.1) = false)
    (hw : wpAny (model prog w) A (evalArgs (.ref u) true args []) (fun z s₁ => s₁.heap.get? u = some (mwObj x) ∧ wpAny (model prog w) A (call (.ref u) (first ++ z.pos) z.kw) Q E s₁) E s) : wpAny (model prog w) A (callWith pos (.ref u) first args []) Q E s := by
  unfold callWith
  refine wpAny_bind (wpAny_holding (wpAny_mono hw (fun z s₁ h₁ => wpAny_bind (wpAny_standAt ?_)) fun _ _ e => e))
  obtain ⟨ho, hcall⟩ := h₁
  simp only [hplain, List.any_nil, Bool.or_false]
  refine wpAny_bind (m := keeperOf (.ref u)) ?_
  unfold keeperOf
  refine wpAny_bind (wpAny_load ho ?_)
  simp only [show (Value.type "method-wrapper" != Value.type "method") = true by decide, show (Value.type "method-wrapper" == Value.type "builtin_function_or_method" || Value.type "method-wrapper" == Value.type "method-wrapper") = true by decide, if_true]
  refine wpAny_pure ?_
  exact wpAny_bind (wpAny_mono hcall (fun r s₂ hr => wpAny_bind (wpAny_holding (wpAny_point (wpAny_pure hr)))) fun _ _ e => e)
theorem call_mw {u ta : Addr} {v a1 a2 a3 a4 a5 : Value} {Q : Value → Shared → Prop} (T : OwnTail h [.type "ValueError", .type "Exception", .type "BaseException", .type "object"] bm) (hu : h.get? u = some (mwObj x)) (hC : h.get? C = some (excClassObj nm q C N bs bm hdct sn sub ab col dd k0 k1 k2 k3 k5 newId))
    (hx : h.get? x = some { cls := .ref C, data := .fields #[.ref ta, a1, a2, a3, a4, a5] })
    (hq : ∀ h', (∀ b o, b ≠ x → h.get? b = some o → h'.get? b = some o) → h'.get? x = some { cls := .ref C, data := .fields #[.ref h.objs.size, a1, a2, a3, a4, a5] } → h.objs.size ≤ h'.objs.size → Q .none ⟨h', g, d, t, os⟩) :
    wpAny (model prog w) A (call (.ref u) [v]) Q E ⟨h, g, d, t, os⟩ := by
  have F := PySem.F.excBase_ValueError
  refine wpAny_call (codeAny_of_tree ?_)
  show wpAny _ _ (callAny (.ref u) _) _ _ _
  unfold callAny
  refine wpAny_bind (wpAny_load hu ?_)
  dsimp only
  rw [if_pos (by decide)]
  show wpAny _ _ (do checkBoundCall "ValueError.__init__" ⟨[.ref x, v], []⟩; again (.builtin "ValueError.__init__" ⟨[.ref x, v], []⟩)) _ _ _
  have hcB : (Value.ref C :: bm).contains (.type "ValueError") = true := by rw [List.contains_cons, T.hasType F.hasB, Bool.or_true]
  have hshort := F.noStar
  refine wpAny_bind ?_
  unfold checkBoundCall
  rw [F.initRow]
  simp only [F.initKind]
  unfold Bind.checkArgs
  repeat (first | (with_reducible refine wpAny_loadPart_at hx ?_) | with_reducible refine wpAny_loadPart_at hC ?_ | (with_reducible refine wpAny_isSubtype_exc hC ?_; rw [hcB]) | wp_step)
  refine ⟨plainId_quiet F.init.plain _, codeAny_builtin F.initEntry ?_⟩
  wp_walk
  refine hq _ (fun b o hb e => ?_) ?_ ?_
  · rw [Heap.get?_update_other _ _ (Ne.symm hb)]; exact Heap.get?_push_of_some _ e
  · rw [Heap.get?_update_self _ (Heap.get?_push_of_some _ hx) rfl]; rfl
  · rw [Heap.size_update, Heap.size_push]; exact Nat.le_succ _
end
end DL
namespace DL
open PySem PySem.Spec PyProof.Rows L2
open Builtin Builtin.ObjectAttr
section
variable {prog : Program} {w : World} {A : Around} {E : Value → Shared → Prop} {h : Heap} {g : Array GenState} {d : Drawn} {t : Nat} {os : OsState}
variable {nm q : Str} {C N x : Addr} {bs bm : List Value} {sn : List Str} {sub : List Value} {ab : Bool} {col : Option Bool} {dd : Option Addr} {k0 k1 k2 k3 k5 : Option Value} {newId : String} {name : Str} {v : Value} {fs : Array Value}
abbrev excObj (C : Addr) (fs : Array Value) : Obj := { cls := .ref C, data := .fields fs }
abbrev excObjD (C dx : Addr) (fs : Array Value) : Obj := { cls := .ref C, dict := some dx, data := .fields fs }
theorem exc_entry {tk : Tok} {Q : Fin → Shared → Prop}
    (hC : h.get? C = some (excClassObj nm q C N bs bm true sn sub ab col dd k0 k1 k2 k3 k5 newId))
    (L2 : PySem.W.Looks (model prog w) h (typeLookup (.ref C) name) none) (hpass : refuseLoop (.ref x) "__setattr__" bm = pure ())
    (hx : h.get? x = some (excObj C fs)) (hxC : x ≠ C)
    (hq : ∀ h' tk', (∀ b o, b ≠ x → h.get? b = some o → h'.get? b = some o) → h'.get? x = some (excObjD C h.objs.size fs) → h'.Ns1 h.objs.size (fun y => if y = name then some v else none) → h.objs.size < h'.objs.size → Q (.done (.ret .none)) ⟨h', g, d, tk', os⟩) :
    wpAny (model prog w) A (Builtin.«object.__setattr__» ⟨[.ref x, .str name tk, v], []⟩) Q E ⟨h, g, d, t, os⟩ := by
  unfold Builtin.«object.__setattr__»
  repeat (first | rw [refuse_eq] | (rw [refuseLoop_ref, hpass]) | (with_reducible refine wpAny_loadPart_at hx ?_) | with_reducible refine wpAny_mroOf_exc hC ?_ | wp_step)
  show wpAny _ _ (typeLookup (.ref C) name) _ _ _
  refine PySem.W.Looks.at L2 ?_
  have hx₁ : (h.push { cls := .type "dict", data := .dict #[] }).get? x = some (excObj C fs) := Heap.get?_push_of_some _ hx
  have hxs : x ≠ h.objs.size := Nat.ne_of_lt (Heap.lt_size hx)
  have hgd : ((h.push { cls := .type "dict", data := .dict #[] }).update x fun o => { cls := o.cls, dict := some h.objs.size, data := o.data, slots := o.slots }).get? h.objs.size
      = some { cls := .type "dict", data := .dict #[] } := (Heap.get?_update_ne _ _ _ _ hxs.symm).trans (Heap.get?_push_at rfl rfl)
  have hnd : ((h.push { cls := .type "dict", data := .dict #[] }).update x fun o => { cls := o.cls, dict := some h.objs.size, data := o.data, slots := o.slots }).Ns h.objs.size (fun _ => none) :=
    ⟨_, #[], _, hgd, rfl, fun e he => absurd he (by simp), fun _ => rfl⟩
  have hst : wpAny (model prog w) A (storeInDict h.objs.size (.str name tk) name v) Q E ⟨(h.push { cls := .type "dict", data := .dict #[] }).update x fun o => { cls := o.cls, dict := some h.objs.size, data := o.data, slots := o.slots }, g, d, t, os⟩ := by
    unfold storeInDict newKeyGuard
    refine wpAny_bind (wpAny_pure (wpAny_bind (wpAny_nsSet1 (Heap.Ns1.of_empty hnd) fun h' hn' hs => ?_)))
    obtain ⟨oD, esD, epD, hoD, hdD, hcD⟩ := hn'.count (Within.cons name v Within.nil)
    refine wpAny_bind (wpAny_lookBehind hoD (by rw [hdD]; exact pastItsLine_dict (Nat.le_trans hcD (by rw [List.length_cons, List.length_nil, sizeLine_eq]; omega))) ?_)
    wp_walk
    refine hq h' _ (fun b o hb e => ?_) ?_ hn' ?_
    · exact (hs.2 b (Nat.ne_of_lt (Heap.lt_size e))).trans ((Heap.get?_update_ne _ _ _ _ hb).trans (Heap.get?_push_of_some _ e))
    · exact (hs.2 x hxs).trans (Heap.get?_update_self _ hx₁ rfl)
    · exact Heap.lt_size hoD
  refine wpAny_bind (wpAny_pure ?_)
  show wpAny _ _ (storeInOwnDict (.ref x) (.ref C) (.str name tk) name v false) _ _ _
  unfold storeInOwnDict
  repeat (first | with_reducible exact hst | (with_reducible refine wpAny_loadPart_at hx ?_) | (with_reducible refine wpAny_loadPart_at hC ?_) | wp_step)
theorem exc_check {M : Model} {nameV : Value} {Q : Unit → Shared → Prop} 
    (hC : h.get? C = some (excClassObj nm q C N bs bm true sn sub ab col dd k0 k1 k2 k3 k5 newId)) (hob : bm.contains (.type "object") = true) (hx : h.get? x = some (excObj C fs)) (hq : Q () ⟨h, g, d, t, os⟩) :
    wpAny M A (checkBuiltinCall "object.__setattr__" ⟨[.ref x, nameV, v], []⟩) Q E ⟨h, g, d, t, os⟩ := by
  have SF := PySem.F.store_ValueError
  have hcB : (Value.ref C :: bm).contains (.type "object") = true := by rw [List.contains_cons, hob, Bool.or_true]
  have ha := SF.args (.ref x) nameV v
  simp only [checkBuiltinCall, SF.kind, SF.split]
  refine wpAny_bind ?_
  unfold isInstance
  repeat (first | (with_reducible refine wpAny_loadPart_at hx ?_) | (with_reducible refine wpAny_isSubtype_exc hC ?_; rw [hcB]) | wp_step)
  exact hq
theorem exc_set {Q : Unit → Shared → Prop}
    (hC : h.get? C = some (excClassObj nm q C N bs bm true sn sub ab col dd k0 k1 k2 k3 k5 newId)) (hob : bm.contains (.type "object") = true)
    (L1 : PySem.W.Looks (model prog w) h (typeLookup (.ref C) "__setattr__") (some (.builtin "object.__setattr__")))
    (L2 : PySem.W.Looks (model prog w) h (typeLookup (.ref C) name) none) (hpass : refuseLoop (.ref x) "__setattr__" bm = pure ())
    (hx : h.get? x = some (excObj C fs)) (hxC : x ≠ C)
    (hq : ∀ h' tk', (∀ b o, b ≠ x → h.get? b = some o → h'.get? b = some o) → h'.get? x = some (excObjD C h.objs.size fs) → h'.Ns1 h.objs.size (fun y => if y = name then some v else none) → h.objs.size < h'.objs.size → Q () ⟨h', g, d, tk', os⟩) :
    wpAny (model prog w) A (setAttr (.ref x) name v) Q E ⟨h, g, d, t, os⟩ := by
  have SF := PySem.F.store_ValueError
  have f3 := SF.slot.bind (.ref x)
  have hst : ∀ t' tk (R : Result → Shared → Prop), (∀ h' tk', (∀ b o, b ≠ x → h.get? b = some o → h'.get? b = some o) → h'.get? x = some (excObjD C h.objs.size fs) → h'.Ns1 h.objs.size (fun y => if y = name then some v else none) → h.objs.size < h'.objs.size → R (.ok (.ret .none)) ⟨h', g, d, tk', os⟩) →
      codeAny (model prog w) A (.call (.builtin "object.__setattr__") ⟨[.ref x, .str name tk, v], []⟩) R ⟨h, g, d, t', os⟩ := fun t' tk R hR =>
    codeAny_call_builtin SF.slot.plain SF.entry (exc_check hC hob hx (exc_entry hC L2 hpass hx hxC fun h' tk' k1 k2 k3 k4 => hR h' tk' k1 k2 k3 k4))
  unfold setAttr callSpecial? specialOf
  repeat (any_goals (first | assumption | (with_reducible refine wpAny_loadPart_at hx ?_; show wpAny _ _ (_ >>= _) _ _ _) | with_reducible refine PySem.W.Looks.at L1 ?_ | wp_step))
  exact hst _ _ _ fun h' tk' k1 k2 k3 k4 => wpAny_pure (wpAny_pure (hq h' tk' k1 k2 k3 k4))
end
end DL
namespace DL
open PySem PySem.Spec PyProof.Rows L2
section
variable {prog : Program} {w : World} {A : Around} {E : Value → Shared → Prop} {s : Shared} {env : Env}
theorem fstr_num {pre : Str} {j : Nat} {p3 p4 p5 p6 : Pos} {y : Str} {n : Int} {tk : Tok} {m : Str → Option Value} {Q : Value → Shared → Prop} (hd : n.natAbs.log2 < 1920) (hpre : pre.length ≤ 1000)
    (hk : env.scope.kind = .function) (hl : env.kindOf y = some .local) (ns : s.heap.Ns env.locals m) (hm : m y = some (.int n tk)) (h : ∀ x t tk', Q (.str x t) { s with toks := tk' }) (hdb : (y == ("__debug__" : Str)) = false := by decide) :
    wpAny (model prog w) A (eval (.JoinedStr [.Constant (.str pre) j p3, .FormattedValue (.Name y p4) (-1) none p5] p6) env) Q E s := by
  have e0 := int_text_length_le (k := 1920) (by decide) hd
  have hz : (Str.empty ++ pre).length ≤ 1000 := by rw [strLen_append, show Str.empty.length = 0 from rfl, Nat.zero_add]; exact hpre
  have hz2 : (Str.empty ++ pre ++ Str.ofString (toString n)).length ≤ sizeLine := by rw [strLen_append, PySem.ofString_length, sizeLine_eq]; omega
  refine JoinedStr_many (joinParts_cons (wpAny_Constant_str ⟨by rw [sizeLine_eq]; omega, joinParts_cons (FormattedValue_plain (wpAny_Name (wpAny_loadName_local hk hl ns hm (formatField_int_small hd ?_)) hdb))⟩))
  exact ⟨hz2, joinParts_nil (h _ _ _) hz2⟩
end
section
variable {prog : Program} {w : World} {A : Around} {E : Value → Shared → Prop} {h : Heap} {g : Array GenState} {d : Drawn} {t : Nat} {os : OsState} {env : Env}
variable {nm q : Str} {C N x f cc cda ta : Addr} {bs bm l : List Value} {sn : List Str} {sub : List Value} {ab : Bool} {col : Option Bool} {dd : Option Addr} {k0 k1 k2 k3 k5 : Option Value} {newId : String} {a1 a2 a3 a4 a5 : Value}
abbrev initBody (pre : Str) (j : Nat) (p0 p1 p2 p3 p4 p5 p6 p7 p8 p9 p10 p11 p12 : Pos) : List Stmt :=
  [.Expr (.Call (.Attribute (.Call (.Name "super" p0) [] [] p1) "__init__" p2) [.JoinedStr [.Constant (.str pre) j p3, .FormattedValue (.Name "number" p4) (-1) none p5] p6] [] p7) p8,
   .Assign [.Attribute (.Name "self" p9) "number" p10] (.Name "number" p11) p12]
theorem init_body {pre : Str} {j : Nat} {p0 p1 p2 p3 p4 p5 p6 p7 p8 p9 p10 p11 p12 : Pos} {body : List Stmt} {n : Int} {tk : Tok} {m : Str → Option Value} {K : PySem.W.Frag} {of oc : Obj} {fd : FuncData} {ar : Arg} {vs : Array Value} {file : Str} {tf : Tok} {Q : Flow → Shared → Prop}
    {pl : Sem Bool} (he : eval (.Call (.Attribute (.Call (.Name "super" p0) [] [] p1) "__init__" p2) [.JoinedStr [.Constant (.str pre) j p3, .FormattedValue (.Name "number" p4) (-1) none p5] p6] [] p7) env = (do
      let ov ← attributeBase (.Call (.Name "super" p0) [] [] p1) "__init__" env (eval (.Call (.Name "super" p0) [] [] p1) env)
      standAt p2.atName
      let (f, first) ← holding [ov] (getMethod ov "__init__" pl)
      callWith p7 f first (backTo p7 (starEach [.JoinedStr [.Constant (.str pre) j p3, .FormattedValue (.Name "number" p4) (-1) none p5] p6] env)) []))
    (hi : interactive env = false) (hsw : swapsWith (.Call (.Attribute (.Call (.Name "super" p0) [] [] p1) "__init__" p2) [.JoinedStr [.Constant (.str pre) j p3, .FormattedValue (.Name "number" p4) (-1) none p5] p6] [] p7) none p8.line env = pure false)
    (hsw2 : swapsWith (.Name "number" p11) (some (.Attribute (.Name "self" p9) "number" p10)) p12.line env = pure false)
    (hd : n.natAbs.log2 < 1920) (hpre : pre.length ≤ 1000) (hk : env.scope.kind = .function)
    (hks : env.kindOf "super" = some .globalImplicit) (hkc : env.kindOf "__class__" = some .free) (hkn : env.kindOf "number" = some .local) (hke : env.kindOf "self" = some .local)
    (hfu : env.func = some f) (hf : h.get? f = some of) (hfd : of.data = .func fd) (hp : (fd.params.posonlyargs ++ fd.params.args).head? = some ar) (har : ar.arg = "self") (hco : env.code = .ref cda) (hcc : h.get? cda = some oc) (hoc : oc.data = .fields vs) (hvs : vs[2]? = some (.str file tf))
    (hfile : ((prog.main.file : Str) == file) = true) (htop : (prog.main.scope.names.lookup ("super" : Str)).isSome = false)
    (Ls : PySem.W.Looks (model prog w) h (loadName env "super") (.type "super")) (Lc : PySem.W.Looks (model prog w) h (loadName env "__class__") (.ref C))
    (ns : h.Ns env.locals m) (hm1 : m "self" = some (.ref x)) (hm2 : m "number" = some (.int n tk))
    (X : K.In h) (hKx : K.lookup x = none) (hC : K.lookup C = some (excClassObj nm q C N bs bm true sn sub ab col dd k0 k1 k2 k3 k5 newId))
    (T : ∀ h', K.In h' → OwnTail h' [.type "ValueError", .type "Exception", .type "BaseException", .type "object"] bm) (hbm : bm.contains (.type "ValueError") = true) (hob : bm.contains (.type "object") = true)
    (hsub : ∀ h', K.In h' → PySem.W.Looks (model prog w) h' (isSubtype (.ref C) (.ref C)) true) (hno : ∀ h', K.In h' → PySem.W.Looks (model prog w) h' (opaqueClassAbove (.ref C)) none)
    (hL : ∀ h', K.In h' → PySem.W.Looks (model prog w) h' (mroOf (.ref C)) l) (hal : PySem.W.alongIn K "__init__" ((l.dropWhile (· != .ref C)).drop 1) = some (some (.builtin "ValueError.__init__")))
    (L1 : ∀ h', K.In h' → PySem.W.Looks (model prog w) h' (typeLookup (.ref C) "__setattr__") (some (.builtin "object.__setattr__")))
    (L2 : ∀ h', K.In h' → PySem.W.Looks (model prog w) h' (typeLookup (.ref C) "number") none) (hpass : refuseLoop (.ref x) "__setattr__" bm = pure ())
    (hx : h.get? x = some (excObj C #[.ref ta, a1, a2, a3, a4, a5])) (hxC : x ≠ C) (hxl : x ≠ env.locals)
    (hq : ∀ h' tk' dx a0, (∀ b o, b ≠ x → h.get? b = some o → h'.get? b = some o) → h'.get? x = some (excObjD C dx #[.ref a0, a1, a2, a3, a4, a5]) → h'.Ns1 dx (fun y => if y = "number" then some (.int n tk) else none) → h.objs.size ≤ dx → Q .next ⟨h', g, d, tk', os⟩) :
    PySem.wpAt (model prog w) A (.func body env) (execs (initBody pre j p0 p1 p2 p3 p4 p5 p6 p7 p8 p9 p10 p11 p12) env) Q E ⟨h, g, d, t, os⟩ := by
  have hC0 := X _ _ hC
  refine ks_wpAt_execs_cons (ks_wpAt_Expr_any (hi := hi) (hs := hsw) (ks_wpAt_MethodCall (he := he) (ks_wpAt_super_base hks hkc (by decide) hfu hf hfd hp hco hcc hoc hvs hfile htop ?_)))
  refine PySem.W.Looks.at Ls ⟨rfl, PySem.W.Looks.at Lc ?_⟩
  rw [har]
  refine wpAny_loadName_local hk hke ns hm1 ?_
  refine ks_wpAny_isType_cls hC0 rfl ⟨rfl, ?_⟩
  refine ks_wpAny_call_super hC0 rfl hx rfl (fun c e => nomatch e) (hsub _ X) fun h1 hso k1 => ?_
  have X1 : K.In h1 := fun b o e => k1 _ _ (X b o e)
  refine getMethod_init (K := K) hso (hno _ X1) (hL _ X1) rfl X1 hal (X1 _ _ hC) hbm (k1 _ _ hx) rfl hxC ?_
  dsimp only
  refine callWith_mw (x := x) rfl ?_
  have hz1 : h1.objs.size < (h1.push (mwObj x)).objs.size := by rw [Heap.size_push]; exact Nat.lt_succ_self _
  have k2 : ∀ b o, h1.get? b = some o → (h1.push (mwObj x)).get? b = some o := fun b o e => Heap.get?_push_of_some _ e
  have ns1 : (h1.push (mwObj x)).Ns env.locals m := ns.keeps fun b o e => k2 _ _ (k1 _ _ e)
  have X2 : K.In (h1.push (mwObj x)) := fun b o e => k2 _ _ (X1 b o e)
  refine Calls.evalArgs_plain (Calls.spliced_cons (fstr_num (p6 := p6) hd hpre hk hkn ns1 hm2 fun tx tt tk' => Calls.spliced_nil ⟨Heap.get?_push_size _ rfl, ?_⟩))
  show wpAny _ _ (call (.ref h1.objs.size) [.str tx tt]) _ _ _
  refine call_mw (T _ X2) (Heap.get?_push_size _ rfl) (X2 _ _ hC) (k2 _ _ (k1 _ _ hx)) fun h3 k3' hx3 hs3 => ?_
  have kx : ∀ b o, b ≠ x → h.get? b = some o → h3.get? b = some o := fun b o hb e => k3' b o hb (k2 _ _ (k1 _ _ e))
  have X3 : K.In h3 := fun b o e => kx b o (fun z => by rw [z, hKx] at e; cases e) (X b o e)
  have ns3 : h3.Ns env.locals m := by
    obtain ⟨o', es, ep, e1, e2⟩ := ns
    exact ⟨o', es, ep, kx _ _ (Ne.symm hxl) e1, e2⟩
  refine ks_wpAt_execs_cons (ks_wpAt_Assign_Attr (hs := hsw2) (wpAt_of_wpAny (wpAny_Name (wpAny_loadName_local hk hkn ns3 hm2 (wpAny_Name (wpAny_loadName_local hk hke ns3 hm1 ?_) (by decide))) (by decide))))
  refine exc_set (X3 _ _ hC) hob (L1 _ X3) (L2 _ X3) hpass hx3 hxC fun h4 tk4 q1 q2 q3 q4 => ?_
  refine wpAt_of_wpAny (wpAny_execs_nil ?_)
  exact hq h4 tk4 _ _ (fun b o hb e => q1 b o hb (kx b o hb e)) q2 q3 (Nat.le_trans (Nat.le_of_lt (Heap.lt_size hso)) (Nat.le_trans (Nat.le_of_lt hz1) hs3))
end
end DL
namespace DL
open PySem PySem.Spec PyProof.Rows L2
section
variable {prog : Program} {w : World} {A : Around} {h : Heap} {g : Array GenState} {d : Drawn} {t : Nat} {os : OsState}
variable {nm q : Str} {C N x f cda ta : Addr} {bs bm l : List Value} {sn : List Str} {sub : List Value} {ab : Bool} {col : Option Bool} {dd : Option Addr} {k0 k1 k2 k3 k5 : Option Value} {newId : String} {a1 a2 a3 a4 a5 : Value}
theorem init_call {pre : Str} {j : Nat} {p0 p1 p2 p3 p4 p5 p6 p7 p8 p9 p10 p11 p12 : Pos} {n : Int} {tk : Tok} {K : PySem.W.Frag} {of oc : Obj} {fd : FuncData} {ar : Arg} {vs : Array Value} {file : Str} {tf : Tok} {R : Result → Shared → Prop}
    {pl : Sem Bool} (he : ∀ L, eval (.Call (.Attribute (.Call (.Name "super" p0) [] [] p1) "__init__" p2) [.JoinedStr [.Constant (.str pre) j p3, .FormattedValue (.Name "number" p4) (-1) none p5] p6] [] p7) (callEnv fd L f) = (do
      let ov ← attributeBase (.Call (.Name "super" p0) [] [] p1) "__init__" (callEnv fd L f) (eval (.Call (.Name "super" p0) [] [] p1) (callEnv fd L f))
      standAt p2.atName
      let (fv, first) ← holding [ov] (getMethod ov "__init__" pl)
      callWith p7 fv first (backTo p7 (starEach [.JoinedStr [.Constant (.str pre) j p3, .FormattedValue (.Name "number" p4) (-1) none p5] p6] (callEnv fd L f))) []))
    (hi : ∀ L, interactive (callEnv fd L f) = false) (hsw : ∀ L, swapsWith (.Call (.Attribute (.Call (.Name "super" p0) [] [] p1) "__init__" p2) [.JoinedStr [.Constant (.str pre) j p3, .FormattedValue (.Name "number" p4) (-1) none p5] p6] [] p7) none p8.line (callEnv fd L f) = pure false)
    (hsw2 : ∀ L, swapsWith (.Name "number" p11) (some (.Attribute (.Name "self" p9) "number" p10)) p12.line (callEnv fd L f) = pure false)
    (hroom : A.depth < recursionLimit) (hlim : h.NoLimit) (hcd : h.CodeRec fd.code fd.qualname) (hbody : fd.body = .stmts (initBody pre j p0 p1 p2 p3 p4 p5 p6 p7 p8 p9 p10 p11 p12))
    (hbind : ∀ s : Shared, BindsTo s fd ⟨[.ref x, .int n tk], []⟩ [("self", .ref x), ("number", .int n tk)]) (hcell : ∀ x ∈ fd.scope.names, x.2 ≠ .cell)
    (hd : n.natAbs.log2 < 1920) (hpre : pre.length ≤ 1000) (hk : fd.scope.kind = .function)
    (hks : fd.scope.names.lookup ("super" : Str) = some .globalImplicit) (hkc : fd.scope.names.lookup ("__class__" : Str) = some .free) (hkn : fd.scope.names.lookup ("number" : Str) = some .local) (hke : fd.scope.names.lookup ("self" : Str) = some .local)
    (hf : K.lookup f = some of) (hfd : of.data = .func fd) (hp : (fd.params.posonlyargs ++ fd.params.args).head? = some ar) (har : ar.arg = "self") (hco : fd.code = .ref cda) (hcc : K.lookup cda = some oc) (hoc : oc.data = .fields vs) (hvs : vs[2]? = some (.str file tf))
    (hfile : ((prog.main.file : Str) == file) = true) (htop : (prog.main.scope.names.lookup ("super" : Str)).isSome = false)
    (Ls : ∀ h' L, (∀ b o, h.get? b = some o → h'.get? b = some o) → PySem.W.Looks (model prog w) h' (loadName (callEnv fd L f) "super") (.type "super")) (Lc : ∀ h' L, K.In h' → PySem.W.Looks (model prog w) h' (loadName (callEnv fd L f) "__class__") (.ref C))
    (X : K.In h) (hKx : K.lookup x = none) (hC : K.lookup C = some (excClassObj nm q C N bs bm true sn sub ab col dd k0 k1 k2 k3 k5 newId))
    (T : ∀ h', K.In h' → OwnTail h' [.type "ValueError", .type "Exception", .type "BaseException", .type "object"] bm) (hbm : bm.contains (.type "ValueError") = true) (hob : bm.contains (.type "object") = true)
    (hsub : ∀ h', K.In h' → PySem.W.Looks (model prog w) h' (isSubtype (.ref C) (.ref C)) true) (hno : ∀ h', K.In h' → PySem.W.Looks (model prog w) h' (opaqueClassAbove (.ref C)) none)
    (hL : ∀ h', K.In h' → PySem.W.Looks (model prog w) h' (mroOf (.ref C)) l) (hal : PySem.W.alongIn K "__init__" ((l.dropWhile (· != .ref C)).drop 1) = some (some (.builtin "ValueError.__init__")))
    (L1 : ∀ h', K.In h' → PySem.W.Looks (model prog w) h' (typeLookup (.ref C) "__setattr__") (some (.builtin "object.__setattr__")))
    (L2 : ∀ h', K.In h' → PySem.W.Looks (model prog w) h' (typeLookup (.ref C) "number") none) (hpass : refuseLoop (.ref x) "__setattr__" bm = pure ())
    (hx : h.get? x = some (excObj C #[.ref ta, a1, a2, a3, a4, a5])) (hxC : x ≠ C)
    (hq : ∀ h' tk' dx a0, (∀ b o, b ≠ x → h.get? b = some o → h'.get? b = some o) → h'.get? x = some (excObjD C dx #[.ref a0, a1, a2, a3, a4, a5]) → h'.Ns1 dx (fun y => if y = "number" then some (.int n tk) else none) → h.objs.size ≤ dx → R (.ok (.ret .none)) ⟨h', g, d, tk', os⟩)
    (hco2 : fd.scope.isCoroutine = false) (hgen : fd.scope.isGenerator = false) :
    codeAny (model prog w) A (.call (.ref f) ⟨[.ref x, .int n tk], []⟩) R ⟨h, g, d, t, os⟩ := by
  refine ks_codeAny_call_defAt (fd := fd) (hco := hco2) (hgen := hgen) (hk := hk) hroom (X _ _ hf) hfd hlim hcd hbody (hbind _) hcell (by intro y hy; simp only [List.mem_cons, List.not_mem_nil, or_false] at hy; rcases hy with rfl | rfl <;> assumption) fun h0 ns k => ?_
  have X0 : K.In h0 := fun b o e => k _ _ (X b o e)
  have hxl : x ≠ h.objs.size := Nat.ne_of_lt (Heap.lt_size hx)
  have hb1 : ([(("self" : Str), Value.ref x), ("number", .int n tk)] : List (Str × Value)).reverse.lookup ("self" : Str) = some (Value.ref x) := by rfl
  have hb2 : ([(("self" : Str), Value.ref x), ("number", .int n tk)] : List (Str × Value)).reverse.lookup ("number" : Str) = some (Value.int n tk) := by rfl
  have hsz : h.objs.size < h0.objs.size := ns.lt
  refine init_body (K := K) (he _) (hi _) (hsw _) (hsw2 _) hd hpre hk hks hkc hkn hke rfl (X0 _ _ hf) hfd hp har hco (X0 _ _ hcc) hoc hvs hfile htop (Ls _ _ k) (Lc _ _ X0) ns hb1 hb2 X0 hKx hC T hbm hob hsub hno hL hal L1 L2 hpass (k _ _ hx) hxC hxl fun h' tk' dx a0 q1 q2 q3 q4 => ?_
  exact hq h' _ dx a0 (fun b o hb e => q1 b o hb (k _ _ e)) q2 q3 (Nat.le_trans (Nat.le_of_lt hsz) q4)
theorem made_call {E : Value → Shared → Prop} {B newId2 initId : String} {bmB : List Value} {hdct : Bool} {n : Int} {tk : Tok} {mN : Str → Option Value} {of : Obj} {Q : Value → Shared → Prop} (F : ExcBaseFacts B newId2 initId bmB) (T : OwnTail h bmB bm)
    (hC : h.get? C = some (excClassObj nm q C N bs bm hdct sn sub ab col dd k0 k1 k2 k3 k5 newId2)) (hn : h.Ns N mN) (hni : mN "__init__" = some (.ref f)) (hf : h.get? f = some of) (hfc : of.cls = .type "function")
    (hin : ∀ R : Result → Shared → Prop, (∀ h' tk' dx a0, (∀ b o, b ≠ h.objs.size + 1 → (madeHp h C [.int n tk]).get? b = some o → h'.get? b = some o) → h'.get? (h.objs.size + 1) = some (excObjD C dx #[.ref a0, .none, .none, .none, .bool false, .none]) →
        h'.Ns1 dx (fun y => if y = "number" then some (.int n tk) else none) → (madeHp h C [.int n tk]).objs.size ≤ dx → R (.ok (.ret .none)) ⟨h', g, d, tk', os⟩) →
      codeAny (model prog w) (A.under (.builtin "type.__call__" ⟨[.ref C, .int n tk], []⟩)) (.call (.ref f) ⟨[.ref (h.objs.size + 1), .int n tk], []⟩) R ⟨madeHp h C [.int n tk], g, d, t, os⟩)
    (hq : ∀ h' tk' dx a0, (∀ b o, h.get? b = some o → h'.get? b = some o) → h'.get? (h.objs.size + 1) = some (excObjD C dx #[.ref a0, .none, .none, .none, .bool false, .none]) →
      h'.Ns1 dx (fun y => if y = "number" then some (.int n tk) else none) → h.objs.size + 1 < dx → Q (.ref (h.objs.size + 1)) ⟨h', g, d, tk', os⟩) :
    wpAny (model prog w) A (call (.ref C) [.int n tk]) Q E ⟨h, g, d, t, os⟩ := by
  refine call_own F T hC hn hni hf hfc (wpAny_call (hin _ fun h' tk' dx a0 q1 q2 q3 q4 => ?_)) (show 1 ≤ sizeLine by rw [sizeLine_eq]; decide)
  have hs : (madeHp h C [.int n tk]).objs.size = h.objs.size + 1 + 1 := by show (Heap.push _ _).objs.size = _; rw [Heap.size_push, Heap.size_push]
  refine ⟨rfl, hq h' tk' dx a0 (fun b o e => q1 b o (Nat.ne_of_lt (Nat.lt_succ_of_lt (Heap.lt_size e))) (Heap.get?_push_of_some _ (Heap.get?_push_of_some _ e))) q2 q3 (by rw [hs] at q4; exact q4)⟩
end
end DL
namespace DL
open PySem PySem.Spec PyProof.Rows L2
abbrev Desc := Value → Value → Option Obj → Prop
structure FliesE (k : Nat) (H : Hp) (h : Heap) (e : Addr) (c : Value) (dx : Option Addr) (od : Option Obj) (T : Option Addr) : Prop where
  fly : FlyAt h e c dx T
  dict : ∀ d, dx = some d → ∃ o, od = some o ∧ h.get? d = some o
  nod : dx = none → od = none
  ke : k ≤ e
  kd : ∀ d, dx = some d → k ≤ d
  kT : ∀ t, T = some t → k ≤ t
  fe : H e = none
  fd : ∀ d, dx = some d → H d = none
  fT : ∀ t, T = some t → H t = none
  de : ∀ d, dx = some d → d ≠ e
  dT : ∀ d, dx = some d → T ≠ some d
theorem FliesE.mono {j k : Nat} {H : Hp} {h : Heap} {e : Addr} {c : Value} {dx : Option Addr} {od : Option Obj} {T : Option Addr} (x : FliesE k H h e c dx od T) (l : j ≤ k) : FliesE j H h e c dx od T :=
  ⟨x.fly, x.dict, x.nod, Nat.le_trans l x.ke, fun d z => Nat.le_trans l (x.kd d z), fun t z => Nat.le_trans l (x.kT t z), x.fe, x.fd, x.fT, x.de, x.dT⟩
def CXE (Ds : Desc) (P : Program) (w : World) : CXT := fun outer H s E v s' => ∃ e c dx od T H' code, v = .ref e ∧ s'.os = s.os ∧ AllBare s'.gens ∧ Un (frs outer) [] H H' s.heap s'.heap ∧ HOk P w H' s'.heap ∧ FliesE s.heap.objs.size H' s'.heap e c dx od (some T) ∧ Ds code c od ∧ E code none H'
abbrev ZX := Value → Hp → Prop
abbrev XD := Value → M → Prop
abbrev TXd := Dn → M → XD → Prop
abbrev FDX := List Dv → M → XD → Prop
abbrev MoX (t : TXd) : Prop := ∀ δ m (W W' : XD), (∀ c m', W c m' → W' c m') → t δ m W → t δ m W'
abbrev MoAX (F : FDX) : Prop := ∀ ds m (W W' : XD), (∀ c m', W c m' → W' c m') → F ds m W → F ds m W'
def upX (K : PySem.W.Frag) (t : TXd) (Z : ZX) (σ : St) (H : Hp) : Prop := ∃ I δ m, Ok K H I m ∧ Rl K I σ δ ∧ t δ m fun code m' => ∀ H' I', Same I I' → Ok K H' I' m' → Z code H'
def spX (K : PySem.W.Frag) (F : FDX) : Sp := fun vs H _ E => ∃ I ds m, Ok K H I m ∧ IsAll K I vs ds ∧ F ds m fun code m' => ∀ H' I', Same I I' → Ok K H' I' m' → E code none H'
abbrev GX := List (Addr × Obj) → St → Prop
abbrev G1 : GX := fun _ _ => True
def HZ (Ds : Desc) (X : Cx) (G : GX) (Z : ZX) : Prop := ∀ (pins : List (Addr × Obj)) (σ : St) (H : Hp) (s : Shared) (v : Value) (s' : Shared), G pins σ → Inv X pins σ H s → CXE Ds X.prog X.w X.stack H s (fun code _ H' => Z code H') v s' → X.xe v s'
def HN (Ds : Desc) (X : Cx) (G : GX) (Z : ZX) : Prop := ∀ (pins : List (Addr × Obj)) (σ : St) (H : Hp) (s : Shared) (e : Addr) (c : Value) (dx : Option Addr) (od : Option Obj) (code : Value), G pins σ → Inv X pins σ H s → FliesE (X.env.locals + 1) H s.heap e c dx od none → Ds code c od → Z code H → X.xe (.ref e) s
structure RE (X : Cx) (G : GX) (Z : ZX) (e : Expr) (t : TXd) : Prop where
  mono : MoX t
  re : ∀ (pins : List (Addr × Obj)) (s : Shared) (σ : St) (H : Hp), G pins σ → Inv X pins σ H s → upX X.K t Z σ H → wpAny (model X.prog X.w) X.A (eval e X.env) (fun _ _ => False) X.xe s
structure RA (X : Cx) (G : GX) (Z : ZX) (es : List Expr) (t : TXd) : Prop where
  mono : MoX t
  ra : ∀ (pos : Pos) (pins : List (Addr × Obj)) (s : Shared) (σ : St) (H : Hp), G pins σ → Inv X pins σ H s → upX X.K t Z σ H → wpAny (model X.prog X.w) X.A (spliced (backTo pos (starEach es X.env))) (fun _ _ => False) X.xe s
structure RS (X : Cx) (G : GX) (Z : ZX) (st : Stmt) (t : TXd) : Prop where
  mono : MoX t
  rs : ∀ (pins : List (Addr × Obj)) (s : Shared) (σ : St) (H : Hp), G pins σ → Inv X pins σ H s → upX X.K t Z σ H → wpAny (model X.prog X.w) X.A (exec st X.env) (fun _ _ => False) X.xe s
structure RSs (X : Cx) (G : GX) (Z : ZX) (st : List Stmt) (t : TXd) : Prop where
  mono : MoX t
  rs : ∀ (pins : List (Addr × Obj)) (s : Shared) (σ : St) (H : Hp), G pins σ → Inv X pins σ H s → upX X.K t Z σ H → wpAny (model X.prog X.w) X.A (execs st X.env) (fun _ _ => False) X.xe s
section
variable {Ds : Desc} {X : Cx} {G : GX} {Z : ZX} {e : Expr} {es : List Expr} {st : Stmt} {rest a b : List Stmt} {tx ty : TXd} {te : TD} {ta : TAd} {tc : TBd} {ts : TSd} {pos : Pos}
def xCall (F : FDX) (t : TAd) : TXd := fun δ m W => t δ m fun ds m1 => F ds m1 W
theorem re_call {k : Nat} {f : Addr} {fd : FuncData} {ps : List Str} {F : FDX} {x : Str} {p : Pos} (hZ : HZ Ds X G Z) (hF : MoAX F) (Fk : FnOk X.prog X.w X.K X.mg X.base (CXE Ds X.prog X.w) k f fd ps (spX X.K F)) (hr : Room k X.A) (hg : Gl X x) (hm : X.mg x = some (.ref f)) (hk : PySem.W.keepIn X.K (.ref f) = true) (hb : Binds X.K fd ps [])
    (ha : DA X (e :: es) ta) (hdb : (x == ("__debug__" : Str)) = false := by decide) (he : starEach (e :: es) X.env = (false, eval e X.env) :: starEach es X.env := by rfl)
    (hpl : (backTo pos (starEach es X.env)).any (·.1) = false := by rfl) : RE X G Z (.Call (.Name x p) (e :: es) [] pos) (xCall F ta) := by
  refine ⟨fun δ m W W' hw q => ha.mono δ m _ _ (fun ds m1 z => hF ds m1 W W' hw z) q, fun pins s σ H g I ⟨J, δ, m, ok, rl, q⟩ => ?_⟩
  refine wpAny_Call_Name_kw (ld_glob I hg hm ?_ hdb)
  refine PySem.W.callWith_K (h₀ := X.base) I.ok.mod.kin hk (thn (ha.pa pos pins s σ H (fun vs H1 => spX X.K F vs H1 (fun _ _ => False) fun code _ H' => Z code H') I ⟨J, δ, m, ok, rl, ha.mono δ m _ _ (fun ds m1 q1 vs H1 J1 s1 o1 i1 => ?_) q⟩) fun us s1 ⟨vs, H1, I1, r, q⟩ => ⟨I1.kIn, ?_⟩) he hpl
  · exact ⟨J1, ds, m1, o1, i1, hF ds m1 _ _ (fun code m2 q2 H2 J2 s2 o2 => q2 H2 J2 (s1.trans s2) o2) q1⟩
  · have hl : us.length = ps.length := by rw [← r.length]; exact Fk.len _ _ _ _ q
    have hb' := hb s1 us I1.kIn (by rw [List.append_nil]; exact hl)
    rw [List.append_nil] at hb'
    refine wpAny_call (codeAny_mono (Fk.run X.A X.stack s1 H1 ⟨us, []⟩ us vs _ _ hr I1.env0 hb' r q) fun r s' hq => ?_)
    cases r with
    | error e => exact hZ pins σ H1 s1 e s' g I1 hq
    | ok fl =>
      cases fl with
      | ret u => obtain ⟨_, _, _, _, _, _, _, z⟩ := hq; exact z.elim
      | next => exact False.elim hq
      | brk => exact False.elim hq
      | cont => exact False.elim hq
def xThen (te : TD) (tx : TXd) : TXd := fun δ m W => te δ m fun _ m1 => tx δ m1 W
theorem rs_set {x : Str} {pos' : Pos} (he : RE X G Z e tx) (hs : swapsWith e (some (.Name x pos')) pos.line X.env = pure false := by rfl) : RS X G Z (.Assign [.Name x pos'] e pos) tx :=
  ⟨he.mono, fun pins s σ H g I h => wpAny_Assign_Name (thn (he.re pins s σ H g I h) fun _ _ z => z.elim) hs⟩
def xNever : TXd := fun _ _ _ => False
theorem rss_never {sts : List Stmt} : RSs X G Z sts xNever := ⟨fun _ _ _ _ _ z => z, fun _ _ _ _ _ _ ⟨_, _, _, _, _, z⟩ => z.elim⟩
def xIf (tc : TBd) (ta tb : TXd) : TXd := fun δ m W => tc δ m fun c m1 => if c = true then ta δ m1 W else tb δ m1 W
theorem rs_if {c : Expr} (hc : DT X c tc) (ha : RSs X G Z a tx) (hb : RSs X G Z b ty) : RS X G Z (.If c a b pos) (xIf tc tx ty) := by
  refine ⟨fun δ m W W' hw q => hc.mono δ m _ _ (fun d m1 z => ?_) q, fun pins s σ H g I ⟨J, δ, m, ok, rl, q⟩ => ?_⟩
  · cases d with
    | true => exact ha.mono δ m1 W W' hw z
    | false => exact hb.mono δ m1 W W' hw z
  · refine wpAny_If (thn (hc.pt pins s σ H (fun d H1 => if d = true then upX X.K tx Z σ H1 else upX X.K ty Z σ H1) I ⟨J, δ, m, ok, rl, hc.mono δ m _ _ (fun d m1 z H' J' s' o' => ?_) q⟩) fun d s1 ⟨H1, I1, q1⟩ => ?_)
    · cases d with
      | true => exact ⟨J', δ, m1, o', rl.same s', ha.mono δ m1 _ _ (fun c m2 y H2 J2 s2 o2 => y H2 J2 (s'.trans s2) o2) z⟩
      | false => exact ⟨J', δ, m1, o', rl.same s', hb.mono δ m1 _ _ (fun c m2 y H2 J2 s2 o2 => y H2 J2 (s'.trans s2) o2) z⟩
    · cases d with
      | true => exact thn (ha.rs pins s1 σ H1 g I1 q1) fun _ _ z => z.elim
      | false => exact thn (hb.rs pins s1 σ H1 g I1 q1) fun _ _ z => z.elim
theorem rss_here (h : RS X G Z st tx) : RSs X G Z (st :: rest) tx :=
  ⟨h.mono, fun pins s σ H g I q => wpAny_execs_cons (thn (h.rs pins s σ H g I q) fun _ _ z => z.elim)⟩
def xSeq (ts : TSd) (tx : TXd) : TXd := fun δ m W => ts { nx := fun δ' m' => tx δ' m' W, rt := fun _ _ => False } δ m
theorem rss_cons (hG : ∀ pins σ σ', G pins σ → G pins σ') (h1 : DS X st ts) (h2 : RSs X G Z rest tx) : RSs X G Z (st :: rest) (xSeq ts tx) := by
  refine ⟨fun δ m W W' hw q => h1.mono { nx := fun δ' m' => tx δ' m' W, rt := fun _ _ => False } _ δ m ⟨fun δ' m' z => h2.mono δ' m' W W' hw z, fun _ _ z => z, fun _ _ z => z, fun _ _ z => z⟩ q, fun pins s σ H g I ⟨J, δ, m, ok, rl, q⟩ => ?_⟩
  refine wpAny_execs_cons (thn (h1.ps pins s σ H { nx := fun σ' H' => upX X.K tx Z σ' H', rt := fun _ _ => False } I ⟨J, δ, m, ok, rl, h1.mono { nx := fun δ' m' => tx δ' m' (fun code m' => ∀ H' I', Same J I' → Ok X.K H' I' m' → Z code H'), rt := fun _ _ => False } _ δ m ⟨fun δ' m' z σ' H' J' s' o' r' => ?_, fun _ _ z => z.elim, fun _ _ z => z.elim, fun _ _ z => z.elim⟩ q⟩) fun f s1 q1 => ?_)
  · exact ⟨J', δ', m', o', r', h2.mono δ' m' _ _ (fun c m2 y H2 J2 s2 o2 => y H2 J2 (s'.trans s2) o2) z⟩
  · cases f with
    | next =>
      obtain ⟨σ', H', I', q⟩ := q1
      exact thn (h2.rs pins s1 σ' H' (hG _ _ _ g) I' q) fun _ _ z => z.elim
    | ret v => obtain ⟨_, _, _, _, _, z⟩ := q1; exact z.elim
    | brk => obtain ⟨_, _, _, z⟩ := q1; exact z.elim
    | cont => obtain ⟨_, _, _, z⟩ := q1; exact z.elim
end
section
variable {Ds : Desc} {P : Program} {w : World} {K : PySem.W.Frag} {mg : Str → Option Value} {base : Heap} {N : List Str} {qual : Str} {scope : Scope} {f : Addr} {cd : Value} {A : Around} {outer : List Env} {s : Shared} {H : Hp} {E : XK}
theorem leaveE {pins : List (Addr × Obj)} {σ : L2.St} {H1 : Hp} {s1 : Shared} {e : Addr} {dx : Option Addr} {c code : Value} {od : Option Obj} {T : Option Addr} (I : Inv (cxOf (CXE Ds P w) P w K mg base N qual scope f cd A outer s H E) pins σ H1 s1)
    (fl : FliesE (s.heap.objs.size + 1) H1 s1.heap e c dx od T) (hd : Ds code c od) (q : E code none H1) : (cxOf (CXE Ds P w) P w K mg base N qual scope f cd A outer s H E).xe (.ref e) s1 := by
  have hst := I.stack
  have hfr := I.ok.frames
  refine leave_keep (base := base) hfr hst rfl fl.fly fun h' T' hT' fl' kb => ?_
  have sz : s.heap.objs.size ≤ s1.heap.objs.size := I.sz
  have nfs : ∀ b, b ∈ frs (envOfC qual scope s.heap.objs.size f cd :: outer) → b ≤ s.heap.objs.size := fun b hb => by
    rcases List.mem_cons.mp (I.stkSub b hb) with z | z
    · exact Nat.le_of_eq z
    · obtain ⟨_, o, ho, _⟩ := I.ok.funs.mem z
      exact Nat.le_of_lt (Heap.lt_size ho)
  have hb : Un (frs outer) [] H H1 s.heap s1.heap := I.base
  have ke := fl.ke
  have nb : ∀ b o, s.heap.get? b = some o → b ≠ e ∧ T ≠ some b := fun b o g => ⟨Nat.ne_of_lt (Nat.lt_of_lt_of_le (Heap.lt_size g) (Nat.le_of_succ_le ke)), fun z => absurd (Nat.lt_of_lt_of_le (Heap.lt_size g) (Nat.le_of_succ_le (fl.kT b z))) (Nat.lt_irrefl _)⟩
  have trk : ∀ b o, H1 b ≠ none → s1.heap.get? b = some o → h'.get? b = some o := fun b o hn hg => kb.keep b o (fun z => hn (by rw [z]; exact fl.fe)) (fun z => hn (fl.fT b z)) (fun z => hn (I.stkFree b z)) hg
  refine ⟨e, c, dx, od, T', H1, code, rfl, I.os, I.bare, ⟨fun b o g n hc hx => ?_, fun b o g n hc hx => ?_, hb.free, fun b o g hx => ?_, hb.tups, hb.frzs, hb.tbls⟩, fun a o z => ?_, ⟨fl', fun d z => ?_, fl.nod, by omega, fun d z => ?_, fun t ht => ?_, fl.fe, fl.fd, fun t ht => ?_, fl.de, fun d z y => ?_⟩, hd, q⟩
  · refine kb.keep b o (nb b o g).1 (nb b o g).2 (fun z => ?_) (hb.keep b o g n hc hx)
    rcases List.mem_cons.mp (I.stkSub b z) with y | y
    · exact absurd y (Nat.ne_of_lt (Heap.lt_size g))
    · exact hc y
  · obtain ⟨sl, y⟩ := hb.slot b o g n hc hx
    obtain ⟨sl2, y2⟩ := kb.slot b _ (nb b o g).1 (nb b o g).2 y
    exact ⟨sl2, y2⟩
  · obtain ⟨o', y⟩ := hb.there b o g hx
    obtain ⟨sl, y2⟩ := kb.slot b _ (nb b o g).1 (nb b o g).2 y
    exact ⟨_, y2⟩
  · exact (I.hok a o z).stay (fun b u hbu g => trk b u (by rcases hbu with rfl | y <;> simp [*]) g) (fun _ y => y) fun _ _ y => y
  · obtain ⟨o, h1, h2⟩ := fl.dict d z
    exact ⟨o, h1, kb.keep d o (fl.de d z) (fl.dT d z) (fun y => Nat.not_succ_le_self _ (Nat.le_trans (fl.kd d z) (nfs d y))) h2⟩
  · exact Nat.le_of_succ_le (fl.kd d z)
  · cases ht; omega
  · cases ht; exact I.hok.fresh hT'
  · obtain ⟨o, _, h2⟩ := fl.dict d z
    have ey : T' = d := Option.some.inj y
    rw [ey] at hT'
    exact absurd (Nat.lt_of_lt_of_le (Heap.lt_size h2) hT') (Nat.lt_irrefl _)
theorem newE : HN Ds (cxOf (CXE Ds P w) P w K mg base N qual scope f cd A outer s H E) G1 fun code H' => E code none H' :=
  fun pins σ H1 s1 e c dx od code _ I fl hd q => leaveE I fl hd q
theorem Fun.okX {x : Str} {st : Stmt} {fd : FuncData} {ps : List Str} {k : Nat} {F : FDX} (G : Fun K x qual st f fd) (S : FnScope N ps (defScope st)) (len : ∀ ds m W, F ds m W → ds.length = ps.length)
    (hbody : ∀ (cdv : Value) (A : Around) (outer : List Env) (s : Shared) (H : Hp) (E : XK), Room k (A.deeper (envOfC qual (defScope st) s.heap.objs.size f cdv)) →
      ∃ t, RSs (cxOf (CXE Ds P w) P w K mg base N qual (defScope st) f cdv A outer s H E) G1 (fun code H' => E code none H') (defBody st) t ∧ ∀ ds m W, F ds m W → t (startD N ds) m W) : FnOk P w K mg base (CXE Ds P w) (k + 1) f fd ps (spX K F) := by
  obtain ⟨oc, od, kV, doc, pm, an, cdv, ct, osl, rfl, lk, hcd⟩ := G.ex
  refine fn_of lk hcd S (fun vs H Q E h => ?_) fun A outer s H vs Q E hr h => ?_
  · obtain ⟨I, ds, m, ok, is, q⟩ := h
    rw [paired_len is]
    exact len ds m _ q
  · obtain ⟨I, ds, m, ok, is, q⟩ := h
    obtain ⟨t, ht, hq⟩ := hbody cdv A outer s H E hr
    refine ⟨fun _ σ H' => upX K t (fun code H' => E code none H') σ H', fun pins s' σ H' D I' h' => thn (ht.rs pins s' σ H' trivial I' h') fun _ _ z => z.elim, I, startD N ds, m, ok, rl_start is, hq ds m _ q⟩
end
end DL
set_option maxHeartbeats 1000000
namespace DL
open PySem PySem.Spec PyProof.Rows L2
def NumObj (n : Int) (o : Obj) : Prop := ∃ es ep tk, o.data = .dict es ep ∧ StrKeys es ∧ UniqKeys es ∧ ∀ name, nsFind es name = if name = "number" then some (.int n tk) else none
def NumD (C : Addr) : Desc := fun code c od => ∃ n o, code = .int n 0 ∧ c = .ref C ∧ od = some o ∧ NumObj n o
structure Num (P : Program) (w : World) (K : PySem.W.Frag) (mg : Str → Option Value) (base : Heap) (C : Addr) : Prop where
  kp : PySem.W.keepIn K (.ref C) = true
  cls : ∃ nm q N bs bm hdct sn sub ab col dd k0 k1 k2 k3 k5 newId, K.lookup C = some (excClassObj nm q C N bs bm hdct sn sub ab col dd k0 k1 k2 k3 k5 newId) ∧ bm.contains (.type "BaseException") = true
  make : ∀ (A : Around) (h : Heap) (g : Array GenState) (d : Drawn) (t : Nat) (os : OsState) (n : Int) (tk : Tok) (Q : Value → Shared → Prop) (E : Value → Shared → Prop), Room 1 A → Mod K mg base → (∀ b o, base.get? b = some o → h.get? b = some o) → n.natAbs.log2 < 1920 →
    (∀ h' tk' dx a0, (∀ b o, h.get? b = some o → h'.get? b = some o) → h'.get? (h.objs.size + 1) = some (excObjD C dx #[.ref a0, .none, .none, .none, .bool false, .none]) →
      h'.Ns1 dx (fun y => if y = "number" then some (.int n tk) else none) → h.objs.size + 1 < dx → Q (.ref (h.objs.size + 1)) ⟨h', g, d, tk', os⟩) →
    wpAny (model P w) A (call (.ref C) [.int n tk]) Q E ⟨h, g, d, t, os⟩
section
variable {M : Model} {A : Around} {E : Value → Shared → Prop} {env : Env} {nm q : Str} {C N : Addr} {bs bm : List Value} {hdct : Bool} {sn : List Str} {sub : List Value} {ab : Bool} {col : Option Bool} {dd : Option Addr} {k0 k1 k2 k3 k5 : Option Value} {newId : String}
theorem raise_made {s : Shared} {x : Sem Value} {Q : Flow → Shared → Prop} (hbase : bm.contains (.type "BaseException") = true) (hh : A.handled = none)
    (h : wpAny M A x (fun v s₁ => ∃ (e t : Addr) (dx : Option Addr), v = .ref e ∧ s₁.heap.get? C = some (excClassObj nm q C N bs bm hdct sn sub ab col dd k0 k1 k2 k3 k5 newId) ∧ s₁.heap.get? e = some { cls := .ref C, dict := dx, data := .fields #[.ref t, .none, .none, .none, .bool false, .none] } ∧ E (.ref e) s₁) E s) :
    wpAny M A (raiseStmt env (some x) none) Q E s := by
  have hcB : (Value.ref C :: bm).contains (.type "BaseException") = true := by rw [List.contains_cons, hbase, Bool.or_true]
  unfold raiseStmt
  refine wpAny_bind (wpAny_mono h (fun v s₁ h₁ => ?_) fun _ _ x => x)
  obtain ⟨e, t, dx, rfl, hC, he, hE⟩ := h₁
  obtain ⟨hp, g, d, tk, os⟩ := s₁
  repeat (first | with_reducible refine wpAny_loadPart_at he ?_ | with_reducible refine wpAny_loadPart_at hC ?_ | (with_reducible refine wpAny_isSubtype_exc hC ?_; rw [hcB]) | wp_step)
  exact wpAny_raiseNew_none hh hE
end
section
variable {Ds : Desc} {X : Cx} {G : GX} {Z : ZX} {e : Expr} {te : TD} {C : Addr} {x : Str} {p cpos pos : Pos}
def xRaise (te : TD) : TXd := fun δ m W => te δ m fun y m1 => ∃ n : Int, y = .d (.int n) ∧ n.natAbs.log2 < 1920 ∧ W (.int n 0) m1
end
end DL
set_option maxHeartbeats 1000000
namespace DL
open PySem PySem.Spec PyProof.Rows L2
def At (a : Addr) (o : Obj) : Heap → Prop := fun h => h.get? a = some o
theorem at_ok {P : Program} {w : World} {H : Hp} {h : Heap} {a : Addr} {o : Obj} (e : h.get? a = some o) : ObjOk P w H h a (.ext (At a o)) := ⟨e, ⟨o, e⟩, fun _ _ q k => k o q⟩
def ExcR (C : Addr) (n : Int) (p : Addr) (I : Hp) (o : HO) : Prop := ∃ ox dx od, o = .ext (At p ox) ∧ ox.cls = .ref C ∧ PySem.W.notCls ox = true ∧ ox.dict = some dx ∧ I dx = some (.ext (At dx od)) ∧ NumObj n od
def mExc (C : Addr) (n : Int) (p : Addr) : MO := .gen (ExcR C n p) fun _ _ _ e ⟨ox, dx, od, h1, h2, h3, h4, h5, h6⟩ => ⟨ox, dx, od, h1, h2, h3, h4, e _ _ h5, h6⟩
theorem mExc_inv {K : PySem.W.Frag} {I : Hp} {C p : Addr} {n : Int} {o : HO} (h : MRel K I o (mExc C n p)) : ExcR C n p I o := by cases o <;> exact h
section
variable {X : Cx} {pins : List (Addr × Obj)} {σ : L2.St} {H : Hp} {s : Shared}
theorem Inv.track {a : Addr} {o : HO} (I : Inv X pins σ H s) (f : FpOk X pins H a) (new : ObjOk X.prog X.w (upd H a o) s.heap a o) : Inv X pins σ (upd H a o) s := by
  obtain ⟨hn, f1, f2, f3, f4, f5⟩ := f
  have hne : ∀ b u, H b = some u → b ≠ a := fun b u e z => by rw [z, hn] at e; cases e
  have := I.step (g' := s.gens) (d' := s.drawn) (t' := s.toks) (h' := s.heap) (H' := upd H a o) (ch := [a]) (fun b hb => by
      have e : b = a := by simpa using hb
      subst e; exact ⟨f3, f1, f4, f5⟩) (fun b u _ _ _ e _ => e) (fun b u _ _ _ e _ => ⟨u.slots, e⟩) (fun b u hc e n => by rw [upd_ne (fun z => hc (by simp [z]))]; exact n) (fun b u _ e => ⟨u, e⟩)
    (fun b xs e => by rw [upd_ne (hne b _ e)]; exact e) (fun b u v e => by rw [upd_ne (hne b _ e)]; exact e) (fun b ps e => ⟨#[], by rw [upd_ne (hne b _ e), e]; simp⟩) (fun m hm => hm) (fun b u e => ?_) I.bare
  · exact this
  · by_cases h : b = a
    · subst h; rw [upd_same] at e; cases e; exact new
    · rw [upd_ne h] at e
      exact (I.hok b u e).stay (fun _ _ _ q => q) (fun c q => by rw [upd_ne (hne c _ q)]; exact q) fun c xs q => by rw [upd_ne (hne c _ q)]; exact q
theorem Inv.keptBut {e : Addr} {T : Option Addr} {fs : List Addr} {h' : Heap} (I : Inv X pins σ H s) (f : FpOk X pins H e) (ft : ∀ t, T = some t → FpOk X pins H t) (hfs : ∀ b, b ∈ fs → b ∈ frs X.stack) (kb : KeepBut fs e T s.heap h') : Inv X pins σ H { s with heap := h' } := by
  have nin : ∀ b, b ∉ (e :: T.toList) → b ≠ e ∧ T ≠ some b := fun b hb => ⟨fun z => hb (by simp [z]), fun z => hb (by simp [z])⟩
  refine I.call (g' := s.gens) (t' := s.toks) (d' := s.drawn) (ch := e :: T.toList) ⟨fun b o g n hc hx => ?_, fun b o g n hc hx => ?_, fun b o g n hx => n, fun b o g hx => ?_, fun _ _ z => z, fun _ _ _ z => z, fun b ps z => ⟨#[], by rw [z]; simp⟩⟩ (fun a o z => ?_) I.bare fun b hb => ?_
  · exact kb.keep b o (nin b hx).1 (nin b hx).2 (fun z => hc (hfs b z)) g
  · exact kb.slot b o (nin b hx).1 (nin b hx).2 g
  · obtain ⟨sl, y⟩ := kb.slot b o (nin b hx).1 (nin b hx).2 g
    exact ⟨_, y⟩
  · refine (I.hok a o z).stay (fun b u hbu g => kb.keep b u (fun y => ?_) (fun y => ?_) (fun y => ?_) g) (fun _ y => y) fun _ _ y => y
    · rcases hbu with r | r
      · rw [← r, y, f.1] at z; cases z
      · rw [y, f.1] at r; cases r
    · rcases hbu with r | r
      · rw [← r, (ft b y).1] at z; cases z
      · rw [(ft b y).1] at r; cases r
    · have := I.stkFree b (hfs b y)
      rcases hbu with r | r
      · rw [← r, this] at z; cases z
      · rw [this] at r; cases r
  · rcases List.mem_cons.mp hb with r | r
    · subst r; exact ⟨f.2.2.2.1, f.2.1, f.2.2.2.2.1, f.2.2.2.2.2⟩
    · have ft := ft b (by cases T with | none => simp at r | some t => simp at r; rw [r])
      exact ⟨ft.2.2.2.1, ft.2.1, ft.2.2.2.2.1, ft.2.2.2.2.2⟩
theorem name_gone {M : Model} {A : Around} {E : Value → Shared → Prop} {i : Nat} {x : Str} {pos : Pos} {Q : Unit → Shared → Prop} (I : Inv X pins σ H s) (hN : X.N.Nodup) (hi : X.N[i]? = some x) (hk : X.env.scope.names.lookup x = some .local)
    (h : ∀ s', Inv X pins (σ.set i none) H s' → Q () s') : wpAny M A (do bindName X.env x .none; unbindBehindTheSuite X.env x pos) Q E s := by
  obtain ⟨m, hn, hl⟩ := id I.loc
  have hcls : (X.env.scope.kind == .class || (X.env.scope.kind == .module && X.env.locals != X.env.globals)) = false := by rw [I.ok.kind]; rfl
  have hiσ : i < σ.length := by rw [I.len]; exact (List.getElem?_eq_some_iff.mp hi).1
  have cne := I.cne
  refine wpAny_nameGoes_keeps hk hn hcls fun h' v hn' hs => ?_
  obtain ⟨oL, _, _, hoL, _⟩ := id hn
  have tracked : HOk X.prog X.w H h' := fun b ob e => by
    refine (I.hok b ob e).stay (fun c w' hc q => (hs.2 c ?_).trans q) (fun _ q => q) fun _ _ q => q
    intro z
    rcases hc with y | y
    · rw [← y, z, I.free] at e; cases e
    · rw [z, I.free] at y; cases y
  refine h { s with heap := h', toks := s.toks + 1 } ⟨I.ok, I.os, I.bare, ⟨fun b o e n hb hx => ?_, fun b o e n hb hx => ?_, I.base.free, fun b o e hx => ?_, I.base.tups, I.base.frzs, I.base.tbls⟩, ⟨_, hn', fun j y v' e1 e2 e3 => ?_⟩, fun y c e => ?_, I.free, I.freeC, fun p hp => ?_, tracked, by simpa using I.len⟩
  · exact (hs.2 b (Nat.ne_of_lt (Nat.lt_of_lt_of_le (Heap.lt_size e) I.ok.above))).trans (I.base.keep b o e n hb hx)
  · obtain ⟨sl, e1⟩ := I.base.slot b o e n hb hx
    exact ⟨sl, (hs.2 b (Nat.ne_of_lt (Nat.lt_of_lt_of_le (Heap.lt_size e) I.ok.above))).trans e1⟩
  · obtain ⟨o', e1⟩ := I.base.there b o e hx
    exact ⟨o', (hs.2 b (Nat.ne_of_lt (Nat.lt_of_lt_of_le (Heap.lt_size e) I.ok.above))).trans e1⟩
  · by_cases hj : j = i
    · subst hj
      rw [List.getElem?_set_self hiσ] at e2
      cases e2
    · rw [List.getElem?_set_ne (Ne.symm hj)] at e2
      obtain ⟨u', r', q⟩ := hl j y v' e1 e2 e3
      refine ⟨u', r', ?_⟩
      rcases q with ⟨k, e⟩ | ⟨k, c, e, z⟩
      · refine .inl ⟨k, ?_⟩
        have : y ≠ x := fun e => hj (nodup_ix hN e1 (e ▸ hi))
        simp [this, e]
      · exact .inr ⟨k, c, e, z.sameBut hs (cne y c e)⟩
  · obtain ⟨w', z⟩ := I.cell y c e
    exact ⟨w', z.sameBut hs (cne y c e)⟩
  · obtain ⟨e, n, ne, nf, d⟩ := I.pin p hp
    exact ⟨(hs.2 p.1 ne).trans e, n, ne, nf, d⟩
end
section
variable {M : Model} {A : Around} {E : Value → Shared → Prop} {nm q nm' q' : Str} {C N L N' : Addr} {bs bm bs' bm' : List Value} {hdct hdct' : Bool} {sn sn' : List Str} {sub sub' : List Value} {ab ab' : Bool} {col col' : Option Bool} {dd dd' : Option Addr} {k0 k1 k2 k3 k5 k0' k1' k2' k3' k5' : Option Value} {newId newId' : String}
theorem matches_above {h : Heap} {g : Array GenState} {d : Drawn} {t : Nat} {os : OsState} {e : Addr} {oe : Obj} {Q : Bool → Shared → Prop}
    (hC : h.get? C = some (excClassObj nm q C N bs bm hdct sn sub ab col dd k0 k1 k2 k3 k5 newId)) (hL : h.get? L = some (excClassObj nm' q' L N' bs' bm' hdct' sn' sub' ab' col' dd' k0' k1' k2' k3' k5' newId')) (he : h.get? e = some oe) (hcls : oe.cls = .ref C)
    (hcC : (Value.ref C :: bm).contains (.ref L) = true) (hbase : bm'.contains (.type "BaseException") = true) (hq : Q true ⟨h, g, d, t, os⟩) : wpAny M A (excMatches (.ref e) (.ref L)) Q E ⟨h, g, d, t, os⟩ := by
  have hcB : (Value.ref L :: bm').contains (.type "BaseException") = true := by rw [List.contains_cons, hbase, Bool.or_true]
  have f := tc_notTuple
  unfold excMatches
  repeat (first | (with_reducible refine wpAny_loadPart_at he ?_; rw [hcls]) | with_reducible refine wpAny_loadPart_at hL ?_ | with_reducible refine wpAny_loadPart_at hC ?_ | (with_reducible refine wpAny_isSubtype_exc hL ?_; rw [hcB]) | (with_reducible refine wpAny_isSubtype_exc hC ?_; rw [hcC]) | wp_step)
  exact hq
end
end DL
set_option maxHeartbeats 1000000
namespace DL
open PySem PySem.Spec PyProof.Rows L2
structure Under (K : PySem.W.Frag) (C L : Addr) : Prop where
  sub : ∃ nm q N bs bm hdct sn sub ab col dd k0 k1 k2 k3 k5 newId, K.lookup C = some (excClassObj nm q C N bs bm hdct sn sub ab col dd k0 k1 k2 k3 k5 newId) ∧ (Value.ref C :: bm).contains (.ref L) = true
  top : ∃ nm q N bs bm hdct sn sub ab col dd k0 k1 k2 k3 k5 newId, K.lookup L = some (excClassObj nm q L N bs bm hdct sn sub ab col dd k0 k1 k2 k3 k5 newId) ∧ bm.contains (.type "BaseException") = true
section
variable {X : Cx} {body : List Stmt} {tx : TXd} {C L : Addr} {cN eN fN : Str} {np q1 q2 q3 hpos pos : Pos} {iF iE : Nat}
def sTry (C : Addr) (iF iE : Nat) (tx : TXd) : TSd := fun D δ m => tx δ m fun code m' => ∃ n, code = .int n 0 ∧ ∀ p, m' p = none → D.nx ((δ.set iF (some (.r p))).set iE none) (setM m' p (mExc C n p))
theorem Rl.setNone {K : PySem.W.Frag} {I : Hp} {σ : St} {δ : Dn} (h : Rl K I σ δ) (i : Nat) : Rl K I (σ.set i none) (δ.set i none) := paired_set (fun y e => nomatch e) i h
theorem ds_try (hst : X.stack = X.env :: X.outer) (hfr : X.env.frame = some X.env.locals) (hN : X.N.Nodup) (hi : X.N[iF]? = some fN) (hj : X.N[iE]? = some eN) (lF : X.env.scope.names.lookup fN = some .local) (lE : X.env.scope.names.lookup eN = some .local) (hg : Gl X cN) (hm : X.mg cN = some (.ref L)) (U : Under X.K C L)
    (hbody : ∀ (E' : Value → Shared → Prop) (G : GX) (Z : ZX), HZ (NumD C) (X.wish E') G Z → RSs (X.wish E') G Z body tx)
    (hdb : (cN == ("__debug__" : Str)) = false := by decide) (hde : (eN == ("__debug__" : Str)) = false := by decide) (hs : swapsWith (.Name eN q2) (some (.Name fN q1)) q3.line X.env = pure false := by rfl) :
    DS X (.Try body [.ExceptHandler (some (.Name cN np)) (some eN) [.Assign [.Name fN q1] (.Name eN q2) q3] hpos] [] [] pos) (sTry C iF iE tx) := by
  have mo : MoX tx := (hbody (fun _ _ => True) (fun _ _ => True) (fun _ _ => True) (fun _ _ _ _ _ _ _ _ _ => trivial)).mono
  refine ⟨fun D D' δ m le q => mo δ m _ _ (fun code m' ⟨n, e, z⟩ => ⟨n, e, fun p hp => le.nx _ _ (z p hp)⟩) q, fun pins s σ H D I ⟨J, δ, m, ok, rl, q⟩ => ?_⟩
  refine wpAny_Try_except ?_
  have key : ∀ (E' : Value → Shared → Prop), E' = (fun v s1 => wpAny (model X.prog X.w) X.A (noteFrame v X.env) (fun _ s2 => wpAny (model X.prog X.w) X.A (setFlight v none) (fun _ s3 =>
      wpAny (model X.prog X.w) X.A (handleBy v X.env [.ExceptHandler (some (.Name cN np)) (some eN) [.Assign [.Name fN q1] (.Name eN q2) q3] hpos]) (SP X pins D) X.xe s3) X.xe s2) X.xe s1) →
      wpAny (model X.prog X.w) X.A (execs body X.env) (fun _ _ => False) E' s := by
    intro E' eE
    have hZ : HZ (NumD C) (X.wish E') (fun p σ' => p = pins ∧ σ' = σ) (fun code H' => ∃ J' m', Same J J' ∧ Ok X.K H' J' m' ∧ ∃ n, code = .int n 0 ∧ ∀ p, m' p = none → (low X.K J D).nx ((δ.set iF (some (.r p))).set iE none) (setM m' p (mExc C n p))) := by
      rintro pins' σ' H0 s0 v s' ⟨rfl, rfl⟩ I0 ⟨e, c, dx, od, T, H', code, rfl, os, bare, un, hok, fl, ⟨n, o, rfl, rfl, rfl, hnum⟩, J', m', sJ, o', n', en, hw⟩
      obtain rfl : n' = n := by injection en with h; exact h.symm
      have I0' := I0.unwish
      have I1 : Inv X pins' σ' H' s' := I0'.call' os un hok bare (fun b hb => absurd hb (by simp))
      have fe : FpOk X pins' H' e := I0'.fpOk fl.ke fl.fe
      have fT : ∀ t, some T = some t → FpOk X pins' H' t := fun t z => I0'.fpOk (fl.kT t z) (fl.fT t z)
      show E' (.ref e) s'
      rw [eE]
      have hstk := I1.stack
      rw [hst] at hstk
      refine note_keep (base := X.base) (outer := X.outer) (by rw [I1.ok.frames, hst]) hstk hfr fl.fly fun h2 T2 hT2 fl2 kb => ?_
      have I2 : Inv X pins' σ' H' { s' with heap := h2 } := Inv.keptBut I1 fe fT (fun b hb => by rw [hst]; exact hb) kb
      have fT2 : ∀ t, some T2 = some t → FpOk X pins' H' t := fun t z => by cases z; exact I1.fpOk hT2 (I1.hok.fresh hT2)
      refine wpAny_handleBy_cons (codeAny_handlers_test ?_) (fun z => nomatch z)
      refine Calls.Name_function_global I2.ok.kind hg (Calls.loadGlobal_global (by rw [I2.ok.glob]; exact I2.mod.glob.keeps I2.bk) hm ?_) hdb
      obtain ⟨oe, vs, hoe, hcl, hdc, hda, _⟩ := id fl2
      obtain ⟨_, _, _, _, bm, _, _, _, _, _, _, _, _, _, _, _, _, hC, hcC⟩ := U.sub
      obtain ⟨_, _, _, _, bm', _, _, _, _, _, _, _, _, _, _, _, _, hL, hbB⟩ := U.top
      refine matches_above (I2.kIn _ _ hC) (I2.kIn _ _ hL) hoe hcl hcC hbB ?_
      simp only [if_true]
      refine codeAny_handlers_suite_as (land_keep fl2 fun h3 fl3 kb3 => ?_)
      have I3 : Inv X pins' σ' H' { s' with heap := h3 } := Inv.keptBut (s := { s' with heap := h2 }) I2 fe fT2 (fun b hb => absurd hb (by simp)) kb3
      obtain ⟨ox, vs3, hox, hcl3, hdc3, hda3, _⟩ := id fl3
      -- the dict is where it was
      cases dx with
      | none => exact absurd (fl.nod rfl) (by simp)
      | some dx =>
        obtain ⟨od', e1, hod⟩ := fl.dict dx rfl
        cases e1
        have fd : FpOk X pins' H' dx := I0'.fpOk (fl.kd dx rfl) (fl.fd dx rfl)
        have hod2 : h2.get? dx = some o := kb.keep dx o (fl.de dx rfl) (fl.dT dx rfl) (fun z => by
          have z' : dx ∈ frs X.stack := by rw [hst]; exact z
          rcases List.mem_cons.mp (I1.stkSub dx z') with y | y
          · exact fd.2.1 y
          · exact fd.2.2.1 y) hod
        have hdT2 : some T2 ≠ some dx := fun z => by
          have : T2 = dx := Option.some.inj z
          rw [this] at hT2
          exact absurd (Nat.lt_of_lt_of_le (Heap.lt_size hod) hT2) (Nat.lt_irrefl _)
        have hod3 : h3.get? dx = some o := kb3.keep dx o (fl.de dx rfl) hdT2 (by simp) hod2
        have hde' : e ≠ dx := Ne.symm (fl.de dx rfl)
        have I4 : Inv X pins' σ' (upd H' dx (.ext (At dx o))) { s' with heap := h3 } := Inv.track I3 fd (at_ok hod3)
        have fe4 : FpOk X pins' (upd H' dx (.ext (At dx o))) e := ⟨by rw [upd_ne hde']; exact fe.1, fe.2⟩
        have I5 : Inv X pins' σ' (upd (upd H' dx (.ext (At dx o))) e (.ext (At e ox))) { s' with heap := h3 } := Inv.track I4 fe4 (at_ok hox)
        have o4 := o'.new (o := .ext (At dx o)) fd.1
        have o5 := o4.newM (o := .ext (At e ox)) (q := mExc C n' e) fe4.1 ⟨ox, dx, o, rfl, hcl3, by unfold PySem.W.notCls; rw [hda3], hdc3, upd_same, hnum⟩
        have sJ4 : Same J' (upd J' dx (.ext (At dx o))) := same_new (H := H') (o'.free fd.1)
        have hnx := hw e (o'.freeM fe.1)
        refine store_ok I5 hN hj (.inl lE) (v := .ref e) rfl (fun s6 I6 => ?_) (.inr lE)
        refine wpAny_execs_cons (wpAny_Assign_Name ?_ hs)
        obtain ⟨m6, hn6, hl6⟩ := id I6.loc
        obtain ⟨u6, r6, l6⟩ := hl6 iE eN (.ref e) hj (List.getElem?_set_self (by rw [I5.len]; exact (List.getElem?_eq_some_iff.mp hj).1)) (.inl lE)
        have hm6 : m6 eN = some u6 := by
          rcases l6 with ⟨_, z⟩ | ⟨k6, _⟩
          · exact z
          · rcases k6 with k6 | k6 <;> (have : X.env.kindOf eN = some .local := lE; rw [this] at k6; cases k6)
        cases (show u6 = Value.ref e from r6)
        refine wpAny_Name (wpAny_loadName_local I6.ok.kind lE hn6 hm6 ?_) hde
        refine store_ok I6 hN hi (.inl lF) (v := .ref e) rfl (fun s7 I7 => wpAny_execs_nil ?_) (.inr lF)
        refine name_gone I7 hN hj lE fun s8 I8 => ?_
        refine ⟨_, _, I8, hnx _ _ _ (sJ.trans sJ4) o5 ?_⟩
        have rl8 := Rl.setNone (Rl.set (v := .ref e) (x := .r e) (rl.same (sJ.trans sJ4)) iF rfl) iE
        have e8 : ((σ'.set iE (some (.ref e))).set iF (some (.ref e))).set iE none = (σ'.set iF (some (.ref e))).set iE none := by
          by_cases h : iE = iF
          · subst h; simp only [List.set_set]
          · rw [List.set_comm _ _ h, List.set_set]
        rw [e8]
        exact rl8
    have R := hbody E' _ _ hZ
    exact wpAny_mono (R.rs pins s σ H ⟨rfl, rfl⟩ (I.wish E') ⟨J, δ, m, ok, rl, mo δ m _ _ (fun code m' z H' I' s1 o1 => ⟨I', m', s1, o1, z⟩) q⟩) (fun _ _ z => z) fun _ _ z => z
  refine wpAny_mono (key _ rfl) (fun _ _ z => z.elim) fun _ _ z => z
end
end DL
set_option maxHeartbeats 1000000
namespace DL
open PySem PySem.Spec PyProof.Rows L2
open PySem.W (InstAt Looks looks_findIn looks_find looks_mroIn looks_hook handedOut_of)
structure ExcK (K : PySem.W.Frag) (C : Addr) : Prop where
  g : PySem.W.findIn K (.ref C) "__getattribute__" = some (some (.builtin "BaseException.__getattribute__"))
  h : PySem.W.findIn K (.ref C) "__getattr__" = some none
  b : PySem.W.mroIn K C (.type "BaseException") = some true
  d : PySem.W.hasDictIn K C = true
  a : PySem.W.findIn K (.ref C) "__class__" = some (some (.builtin "object.__class__"))
  n : PySem.W.specialIn K (.builtin "object.__class__") "__get__" = some (some (.builtin "getset_descriptor.__get__"))
  t : PySem.W.takesIn K (.builtin "object.__class__") = some true
  m : PySem.W.mroIn K C (.type "object") = some true
  nu : PySem.W.findIn K (.ref C) "number" = some none
section
variable {prog : Program} {w : World} {A : Around} {E : Value → Shared → Prop} {s : Shared} {K : PySem.W.Frag} {x C : Addr} {ox : Obj} {od : Option Obj} {name : Str} {tk : Tok}
theorem exc_ga_check {nameV : Value} {Q : Unit → Shared → Prop} (X : K.In s.heap) (I : InstAt s.heap x ox C od) (B : ExcK K C) (hq : Q () s) : wpAny (model prog w) A (checkBuiltinCall "BaseException.__getattribute__" ⟨[.ref x, nameV], []⟩) Q E s := by
  have hk : builtinKind "BaseException.__getattribute__" = some .slot := by decide +kernel
  have hsplit : splitId "BaseException.__getattribute__" = some ("BaseException", "__getattribute__") := by decide +kernel
  have ha := F.args_bexc_ga (.ref x) nameV
  have L0 := I.type (M := model prog w)
  have L1 := looks_mroIn (M := model prog w) X B.b
  obtain ⟨hp, g, d, t, os⟩ := s
  simp only [checkBuiltinCall, hk, hsplit]
  refine wpAny_bind ?_
  · unfold isInstance
    refine wpAny_bind (L0.at (L1.at ?_))
    repeat (first | assumption | wp_step)
theorem exc_by {fill expr : Bool} {Q : Value → Shared → Prop} {P : Value → Shared → Prop} (X : K.In s.heap) (I : InstAt s.heap x ox C od) (B : ExcK K C)
    (h : ∀ R : Result → Shared → Prop, (∀ v s', P v s' → R (.ok (.ret v)) s') → wpAny (model prog w) A.in1 (Builtin.«object.__getattribute__» ⟨[.ref x, .str name tk], []⟩)
      (fun fin s' => match fin with | .done f => R (.ok f) s' | .again c' => c'.quiet = true ∧ codeAny (model prog w) A c' R s') (fun e s' => R (.error e) s') s) (hq : ∀ v s', P v s' → wpAny (model prog w) A (handedOut v) Q E s') :
    wpAny (model prog w) A (getAttrBy (.ref x) (.str name tk) fill expr) Q E s := by
  have L0 := I.type (M := model prog w)
  have L1 := looks_findIn (M := model prog w) X B.g
  have L2 : Looks (model prog w) s.heap (hookBefore (.ref C)) none := looks_hook X (by rw [if_pos (show onTheHeap (Value.ref C) = true from rfl)]; exact B.h)
  have f3 := F.attr_ValueError.ga.bind (.ref x)
  unfold getAttrBy
  refine wpAny_holding (wpAny_bind (L0.at (wpAny_bind (L1.at ?_))))
  have hx2 : (Value.builtin "BaseException.__getattribute__" == Value.builtin "object.__getattribute__") = false := by decide +kernel
  dsimp only
  rw [hx2, Bool.and_false, if_neg Bool.false_ne_true]
  unfold getAttrByItsOwn callGetattribute
  refine wpAny_bind (L2.at (wpAny_bind (wpAny_attempt (wpAny_holding ?_))))
  have hx0 : (expr && onTheHeap (Value.builtin "BaseException.__getattribute__")) = false := by cases expr <;> rfl
  rw [hx0, if_neg Bool.false_ne_true]
  unfold boundAndCalled
  refine wpAny_bind (wpAny_of_eq f3 (wpAny_call (codeAny_call_builtin F.attr_ValueError.ga.plain F.entry_bexc_ga (exc_ga_check X I B ?_))))
  show wpAny _ A.in1 (Builtin.«object.__getattribute__» ⟨[.ref x, .str name tk], []⟩) _ _ _
  have fin : ∀ (r : Result) (s' : Shared), (match r with | .ok (.ret v) => P v s' | _ => False) → (match r with
        | Except.ok (Flow.ret v) => wpAny (model prog w) A (handedOut v) Q E s'
        | _ => False) := by
    intro r s' z
    cases r with
    | error e => exact z
    | ok f => cases f <;> first | exact hq _ _ z | exact z
  refine wpAny_mono (h (fun r s' => match r with | .ok (.ret v) => P v s' | _ => False) (fun v s' z => z)) (fun f s' z => ?_) fun e s' z => z.elim
  cases f with
  | done f => cases f <;> first | exact hq _ _ z | exact z.elim
  | again c' =>
    refine ⟨z.1, codeAny_mono z.2 fun r s2 z2 => ?_⟩
    cases r with
    | error e => exact z2.elim
    | ok f => cases f <;> first | exact hq _ _ z2 | exact z2.elim
theorem exc_value {v : Value} {fill expr : Bool} {Q : Value → Shared → Prop} (X : K.In s.heap) (I : InstAt s.heap x ox C od) (B : ExcK K C) (hf : PySem.W.findObj K C od name = some (.value v)) (hh : PySem.W.handedIn v = true) (h : Q v s) :
    wpAny (model prog w) A (getAttrBy (.ref x) (.str name tk) fill expr) Q E s := by
  have L0 := I.type (M := model prog w)
  have L1 := looks_find (M := model prog w) X I hf
  obtain ⟨hp, g, d, t, os⟩ := s
  refine exc_by (P := fun v' s' => v' = v ∧ s' = ⟨hp, g, d, t, os⟩) X I B (fun R hR => ?_) ?_
  · unfold Builtin.«object.__getattribute__»
    repeat (any_goals (first | with_reducible refine L0.at ?_ | with_reducible refine L1.at ?_ | exact hR _ _ ⟨rfl, rfl⟩ | wp_step))
  · rintro v' s' ⟨rfl, rfl⟩
    rw [handedOut_of hh]; exact wpAny_pure h
end
end DL
set_option maxHeartbeats 1000000
namespace DL
open PySem PySem.Spec PyProof.Rows L2
theorem lookIn_num {n : Int} {o : Obj} (h : NumObj n o) : ∃ tk, PySem.W.lookIn "number" o = some (some (.int n tk)) := by
  obtain ⟨es, ep, tk, hd, _, _, hf⟩ := h
  have h1 := hf "number"
  rw [if_pos rfl] at h1
  unfold nsFind findBy at h1
  rw [← Array.find?_toList] at h1
  unfold PySem.W.lookIn
  rw [hd]
  refine ⟨tk, ?_⟩
  cases e : List.find? (fun x => x.key.isStr "number") es.toList with
  | none => rw [e] at h1; cases h1
  | some y =>
    rw [e] at h1
    have h2 : y.val = Value.int n tk := by simpa using h1
    show (match List.find? (fun x => x.key.isStr "number") es.toList with | some e => some (some e.val) | none => _) = _
    rw [e]
    show some (some y.val) = _
    rw [h2]
section
variable {X : Cx} {pins : List (Addr × Obj)} {σ : L2.St} {H : Hp} {s : Shared} {C p : Addr} {n : Int}
theorem exc_inst {I0 : Hp} {o : HO} {m : M} (I : Inv X pins σ H s) (ok : Ok X.K H I0 m) (h : m p = some (mExc C n p)) : ∃ ox od, PySem.W.InstAt s.heap p ox C (some od) ∧ NumObj n od := by
  obtain ⟨o, h1, h2⟩ := ok.mu p _ h
  obtain ⟨ox, dx, od, rfl, e1, e2, e3, e4, e5⟩ := mExc_inv h2
  have a1 : s.heap.get? p = some ox := (show ObjOk X.prog X.w H s.heap p (.ext (At p ox)) from I.hok p _ h1).1
  have a2 : s.heap.get? dx = some od := (show ObjOk X.prog X.w H s.heap dx (.ext (At dx od)) from I.hok dx _ (ok.im _ _ e4)).1
  exact ⟨ox, od, ⟨a1, e1, e2, by rw [e3]; exact a2⟩, e5⟩
end
section
variable {X : Cx} {e : Expr} {te : TD} {pos p p2 tp : Pos} {C : Addr}
def dIsE (C : Addr) (b : Bool) (te : TD) : TD := fun δ m Q => te δ m fun x m1 => ∃ a n, x = .r a ∧ m1 a = some (mExc C n a) ∧ Q (.d (.bool b)) m1
def dNum (C : Addr) (te : TD) : TD := fun δ m Q => te δ m fun x m1 => ∃ a n, x = .r a ∧ m1 a = some (mExc C n a) ∧ Q (.d (.int n)) m1
theorem de_num (E : ExcK X.K C) (he : DE X e te) (hb : attributeBase e "number" X.env (eval e X.env) = eval e X.env := by rfl) : DE X (.Attribute e "number" pos) (dNum C te) := by
  refine ⟨fun δ m Q Q' hq q => he.mono δ m _ _ (fun x m1 ⟨a, n, e1, e2, z⟩ => ⟨a, n, e1, e2, hq _ _ z⟩) q, fun pins s σ H Q I ⟨J, δ, m, ok, rl, q⟩ => ?_⟩
  refine attr_of hb (thn (he.pe pins s σ H (fun v H1 => ∃ a J1 m1 n, v = .ref a ∧ Ok X.K H1 J1 m1 ∧ m1 a = some (mExc C n a) ∧ Q (.int n) H1) I ⟨J, δ, m, ok, rl, he.mono δ m _ _ (fun x m1 ⟨a, n, e1, e2, z⟩ v H1 J1 s1 o1 i1 => ?_) q⟩) fun u s1 ⟨v, H1, I1, rv, a, J1, m1, n, ev, o1, e2, z⟩ => ?_)
  · subst ev
    cases (show u = Value.ref a from rv)
    obtain ⟨ox, od, ia, nu⟩ := exc_inst (o := .own 0) I1 o1 e2
    obtain ⟨tk, hl⟩ := lookIn_num nu
    unfold getAttr
    exact wpAny_bind (wpAny_mkText (exc_value (s := { s1 with toks := s1.toks + 1 }) I1.kIn ia E (PySem.W.findObj_own E.d E.nu rfl hl) rfl ⟨.int n, H1, I1.tok _, ⟨tk, rfl⟩, z⟩))
  · subst e1
    cases (show v = V.ref a from i1)
    exact ⟨a, J1, m1, n, rfl, o1, e2, z _ H1 J1 s1 o1 (isI n)⟩
end
end DL
set_option maxHeartbeats 1000000
namespace DL
open PySem PySem.Spec PyProof.Rows L2
abbrev veTail : List Value := [.type "ValueError", .type "Exception", .type "BaseException", .type "object"]
theorem ns_has {K : PySem.W.Frag} {h : Heap} {N : Addr} {mN : Str → Option Value} {y : Str} {v : Value} (X : K.In h) (G : h.Ns N mN) (q : PySem.W.nsIn K N y = some (some v)) : mN y = some v := by
  obtain ⟨o, es, ep, ho, hd, _, hf⟩ := G
  unfold PySem.W.nsIn at q
  split at q
  · next hk =>
    have z := (X _ _ hk).symm.trans ho
    injection z with z
    subst z
    injection hd with hd1 hd2
    subst hd1
    rw [← hf]
    unfold nsFind findBy
    split at q
    · next hz => cases q; rw [← Array.find?_toList, hz]; rfl
    · split at q <;> cases q
  · cases q
theorem boot_super : bootBuiltins "super" = some (.type "super") := by decide +kernel
theorem num_of {P : Program} {w : World} {K : PySem.W.Frag} {mg : Str → Option Value} {base : Heap} {nm q qual : Str} {C N L f cda cc : Addr} {bs : List Value} {sn : List Str} {sub : List Value} {ab : Bool} {col : Option Bool} {dd od odc odl oda : Option Addr} {k0 k1 k2 k3 k5 : Option Value}
    {c0 occ ocl dV kV doc pm ct : Value} {cd' : ClassData} {sl' osl slc sll : Array (Option Value)} {params : Arguments} {scope : Scope} {an : Option Addr} {vs : Array Value} {file : Str} {tf : Tok} {ar : Arg}
    {pre : Str} {j : Nat} {p0 p1 p2 p3 p4 p5 p6 p7 p8 p9 p10 p11 p12 : Pos} {pl : Sem Bool}
    (hC : K.lookup C = some (excClassObj nm q C N bs (.ref L :: veTail) true sn sub ab col dd k0 k1 k2 k3 k5 "ValueError.__new__")) (hcN : PySem.W.nsOkIn K N = true) (hni : PySem.W.nsIn K N "__init__" = some (some (.ref f)))
    (hL : K.lookup L = some ⟨c0, odl, .cls cd', sl'⟩) (hLN : PySem.W.nsOkIn K cd'.ns = true) (hLi : PySem.W.nsIn K cd'.ns "__init__" = some none)
    (hf : K.lookup f = some ⟨.type "function", od, .func (PySem.W.ksFn "__init__" qual params (initBody pre j p0 p1 p2 p3 p4 p5 p6 p7 p8 p9 p10 p11 p12) scope dV kV doc pm an (.ref cda) ct cc), osl⟩)
    (hcd : PySem.W.codeIn K (.ref cda) qual = true) (hcc : K.lookup cda = some ⟨occ, odc, .fields vs, slc⟩) (hvs : vs[2]? = some (.str file tf)) (hfile : ((P.main.file : Str) == file) = true) (htop : (P.main.scope.names.lookup ("super" : Str)).isSome = false)
    (hcell : K.lookup cc = some ⟨ocl, oda, .cell (some (.ref C)), sll⟩) (hz : PySem.W.nsIn K mainGlobals "super" = some none) (hkp : PySem.W.keepIn K (.ref C) = true) (hsub : PySem.W.mroIn K C (.ref C) = some true) (hop : PySem.W.nsIn K cStatics "thirdparty.any" = some none)
    (hal : PySem.W.ks_superIn K C C "__init__" = some (some (.builtin "ValueError.__init__"))) (h1 : PySem.W.findIn K (.ref C) "__setattr__" = some (some (.builtin "object.__setattr__"))) (h2 : PySem.W.findIn K (.ref C) "number" = some none)
    (he : ∀ M, eval (.Call (.Attribute (.Call (.Name "super" p0) [] [] p1) "__init__" p2) [.JoinedStr [.Constant (.str pre) j p3, .FormattedValue (.Name "number" p4) (-1) none p5] p6] [] p7) (callEnv (PySem.W.ksFn "__init__" qual params (initBody pre j p0 p1 p2 p3 p4 p5 p6 p7 p8 p9 p10 p11 p12) scope dV kV doc pm an (.ref cda) ct cc) M f) = (do
      let ov ← attributeBase (.Call (.Name "super" p0) [] [] p1) "__init__" (callEnv (PySem.W.ksFn "__init__" qual params (initBody pre j p0 p1 p2 p3 p4 p5 p6 p7 p8 p9 p10 p11 p12) scope dV kV doc pm an (.ref cda) ct cc) M f) (eval (.Call (.Name "super" p0) [] [] p1) (callEnv (PySem.W.ksFn "__init__" qual params (initBody pre j p0 p1 p2 p3 p4 p5 p6 p7 p8 p9 p10 p11 p12) scope dV kV doc pm an (.ref cda) ct cc) M f))
      standAt p2.atName
      let (fv, first) ← holding [ov] (getMethod ov "__init__" pl)
      callWith p7 fv first (backTo p7 (starEach [.JoinedStr [.Constant (.str pre) j p3, .FormattedValue (.Name "number" p4) (-1) none p5] p6] (callEnv (PySem.W.ksFn "__init__" qual params (initBody pre j p0 p1 p2 p3 p4 p5 p6 p7 p8 p9 p10 p11 p12) scope dV kV doc pm an (.ref cda) ct cc) M f))) []))
    (hi : ∀ M, interactive (callEnv (PySem.W.ksFn "__init__" qual params (initBody pre j p0 p1 p2 p3 p4 p5 p6 p7 p8 p9 p10 p11 p12) scope dV kV doc pm an (.ref cda) ct cc) M f) = false)
    (hsw : ∀ M, swapsWith (.Call (.Attribute (.Call (.Name "super" p0) [] [] p1) "__init__" p2) [.JoinedStr [.Constant (.str pre) j p3, .FormattedValue (.Name "number" p4) (-1) none p5] p6] [] p7) none p8.line (callEnv (PySem.W.ksFn "__init__" qual params (initBody pre j p0 p1 p2 p3 p4 p5 p6 p7 p8 p9 p10 p11 p12) scope dV kV doc pm an (.ref cda) ct cc) M f) = pure false)
    (hsw2 : ∀ M, swapsWith (.Name "number" p11) (some (.Attribute (.Name "self" p9) "number" p10)) p12.line (callEnv (PySem.W.ksFn "__init__" qual params (initBody pre j p0 p1 p2 p3 p4 p5 p6 p7 p8 p9 p10 p11 p12) scope dV kV doc pm an (.ref cda) ct cc) M f) = pure false)
    (hbind : ∀ (s : Shared) (x : Addr) (n : Int) (tk : Tok), BindsTo s (PySem.W.ksFn "__init__" qual params (initBody pre j p0 p1 p2 p3 p4 p5 p6 p7 p8 p9 p10 p11 p12) scope dV kV doc pm an (.ref cda) ct cc) ⟨[.ref x, .int n tk], []⟩ [("self", .ref x), ("number", .int n tk)])
    (hcells : ∀ x ∈ scope.names, x.2 ≠ .cell) (hpre : pre.length ≤ 1000) (hk : scope.kind = .function)
    (hks : scope.names.lookup ("super" : Str) = some .globalImplicit) (hkc : scope.names.lookup ("__class__" : Str) = some .free) (hkn : scope.names.lookup ("number" : Str) = some .local) (hke : scope.names.lookup ("self" : Str) = some .local)
    (hp : (params.posonlyargs ++ params.args).head? = some ar) (har : ar.arg = "self") (hco2 : scope.isCoroutine = false) (hgen : scope.isGenerator = false) : Num P w K mg base C := by
  have hcl : PySem.W.clsIn K C = some { name := nm, bases := bs, mro := .ref C :: .ref L :: veTail, ns := N, qualname := q, hasDict := true, slotNames := sn, subclasses := sub, abstract := ab, collection := col, hasDel := false } := by unfold PySem.W.clsIn; rw [hC]
  have tail : ∀ h', K.In h' → OwnTail h' veTail (.ref L :: veTail) := fun h' X => .own (X _ _ hL) (.of_isNs (PySem.W.isNs_of_in X hLN)) (PySem.W.nsMap_none_of_in X hLN hLi) .base
  refine ⟨hkp, ⟨_, _, _, _, _, _, _, _, _, _, _, _, _, _, _, _, _, hC, by simp [veTail]⟩, fun A h g d t os n tk Q E hr mo kb hn hq => ?_⟩
  have X : K.In h := mo.kin.keeps kb
  have hcN' : h.Ns N (h.nsMap N) := .of_isNs (PySem.W.isNs_of_in X hcN)
  have hin : h.nsMap N "__init__" = some (.ref f) := ns_has X hcN' hni
  refine made_call (F := PySem.F.excBase_ValueError) (tail h X) (X _ _ hC) hcN' hin (X _ _ hf) rfl (fun R hR => ?_) hq
  have keep : ∀ b o, h.get? b = some o → (madeHp h C [.int n tk]).get? b = some o := fun b o e => Heap.get?_push_of_some _ (Heap.get?_push_of_some _ e)
  have X1 : K.In (madeHp h C [.int n tk]) := fun b o e => keep _ _ (X b o e)
  have hs1 : h.objs.size < (madeHp h C [.int n tk]).objs.size := by show _ < (Heap.push _ _).objs.size; rw [Heap.size_push, Heap.size_push]; exact Nat.lt_succ_of_lt (Nat.lt_succ_self _)
  have hget : (madeHp h C [.int n tk]).get? (h.objs.size + 1) = some (excObj C #[.ref h.objs.size, .none, .none, .none, .bool false, .none]) := by
    have := Heap.get?_push_size (h.push { cls := .type "tuple", data := .seq [.int n tk].toArray }) (o := { cls := .ref C, data := .fields #[.ref h.objs.size, .none, .none, .none, .bool false, .none] }) rfl
    rw [Heap.size_push] at this
    exact this
  have nK : K.lookup (h.objs.size + 1) = none := by
    cases e : K.lookup (h.objs.size + 1) with
    | none => rfl
    | some o => exact absurd (Heap.lt_size (X _ _ e)) (Nat.not_lt_of_le (Nat.le_succ _))
  have hxC : h.objs.size + 1 ≠ C := fun z => by rw [z, hC] at nK; cases nK
  refine init_call (K := K) (l := .ref C :: .ref L :: veTail) (fd := PySem.W.ksFn "__init__" qual params (initBody pre j p0 p1 p2 p3 p4 p5 p6 p7 p8 p9 p10 p11 p12) scope dV kV doc pm an (.ref cda) ct cc) (he) hi hsw hsw2 (hr.make C [.int n tk] [] |>.depth) (mo.nolimit.keeps fun b o e => keep _ _ (kb b o e)) (PySem.W.codeRec_of X1 hcd) rfl (fun s => hbind s _ n tk) hcells hn hpre hk hks hkc hkn hke hf rfl hp har rfl hcc rfl hvs hfile htop ?_ ?_ X1 nK hC tail (by simp [veTail]) (by simp [veTail])
    (fun h' X' => PySem.W.looks_mroIn X' hsub) (fun h' X' => PySem.W.looks_opaque X' hop) (fun h' X' => (PySem.W.looks_clsIn X' hcl).andThen .now) ?_ (fun h' X' => PySem.W.looks_findIn X' h1) (fun h' X' => PySem.W.looks_findIn X' h2) (by rw [refuseLoop_ref]; exact PySem.F.store_ValueError.passes _) hget hxC hR hco2 hgen
  · intro h' L' kp A' Q' E' s' k' q'
    have kk : ∀ b o, base.get? b = some o → s'.heap.get? b = some o := fun b o e => k' _ _ (kp _ _ (keep _ _ (kb b o e)))
    obtain ⟨mb, b1, b2⟩ := mo.blt
    exact PySem.W.ks_loadName_global hk hks (Calls.loadGlobal_builtin (mo.glob.keeps kk) (PySem.W.mg_none_of mo.kin mo.glob hz) (b1.keeps kk) ((b2 "super" (by decide)).trans boot_super) q')
  · intro h' L' X' A' Q' E' s' k' q'
    exact wpAny_loadName_free hk hkc (c := cc) rfl ⟨_, k' _ _ (X' _ _ hcell), rfl⟩ q'
  · unfold PySem.W.ks_superIn at hal
    rw [hcl] at hal
    exact hal
theorem kitOne_of {K : PySem.W.Frag} {t : Value} {D : Addr} {cd : ClassData} {b : Bool} (ne : (t == Value.ref D) = false) (c : PySem.W.clsIn K D = some cd) (ty : PySem.W.typeIn K (.ref D) = some (.type "type")) (su : PySem.W.subIn K t (.ref D) = some b) : PySem.W.kitOne K t (.ref D) = some b := by
  unfold PySem.W.kitOne PySem.W.kitCls
  rw [ne]
  simp [c, ty, su]
theorem kitOne_same {K : PySem.W.Frag} {C : Addr} : PySem.W.kitOne K (.ref C) (.ref C) = some true := by
  unfold PySem.W.kitOne; simp
theorem kitMeta_VE : PySem.W.kitMeta "ValueError" = true := by decide +kernel
theorem kitOne_VE {K : PySem.W.Frag} {C : Addr} {b : Bool} (su : PySem.W.subIn K (.ref C) (.type "ValueError") = some b) : PySem.W.kitOne K (.ref C) (.type "ValueError") = some b := by
  unfold PySem.W.kitOne PySem.W.kitCls
  rw [show ((Value.ref C) == (Value.type "ValueError")) = false from rfl]
  simp [kitMeta_VE, su]
theorem under_of {K : PySem.W.Frag} {nm q nm' q' : Str} {C N L N' : Addr} {bs bm bs' bm' : List Value} {hdct hdct' : Bool} {sn sn' : List Str} {sub sub' : List Value} {ab ab' : Bool} {col col' : Option Bool} {dd dd' : Option Addr} {k0 k1 k2 k3 k5 k0' k1' k2' k3' k5' : Option Value} {newId newId' : String}
    (hC : K.lookup C = some (excClassObj nm q C N bs bm hdct sn sub ab col dd k0 k1 k2 k3 k5 newId)) (h1 : (Value.ref C :: bm).contains (.ref L) = true) (hL : K.lookup L = some (excClassObj nm' q' L N' bs' bm' hdct' sn' sub' ab' col' dd' k0' k1' k2' k3' k5' newId')) (h2 : bm'.contains (.type "BaseException") = true) : Under K C L :=
  ⟨⟨_, _, _, _, _, _, _, _, _, _, _, _, _, _, _, _, _, hC, h1⟩, ⟨_, _, _, _, _, _, _, _, _, _, _, _, _, _, _, _, _, hL, h2⟩⟩
end DL
set_option maxHeartbeats 1000000
namespace DL
open PySem PySem.Spec PyProof.Rows L2
section
variable {X : Cx} {st : Stmt} {body : List Stmt} {t1 t2 tb : TSd} {h0 : ExceptHandler} {hs : List ExceptHandler} {pos : Pos}
def sOr (t1 t2 : TSd) : TSd := fun D δ m => t1 D δ m ∨ t2 D δ m
theorem ds_or (h1 : DS X st t1) (h2 : DS X st t2) : DS X st (sOr t1 t2) := by
  refine ⟨fun D D' δ m le q => ?_, fun pins s σ H D I ⟨J, δ, m, ok, rl, q⟩ => ?_⟩
  · rcases q with q | q
    · exact .inl (h1.mono D D' δ m le q)
    · exact .inr (h2.mono D D' δ m le q)
  · rcases q with q | q
    · exact h1.ps pins s σ H D I ⟨J, δ, m, ok, rl, q⟩
    · exact h2.ps pins s σ H D I ⟨J, δ, m, ok, rl, q⟩
theorem ds_tryN (hb : ∀ E' : Value → Shared → Prop, DSs (X.wish E') body tb) : DS X (.Try body (h0 :: hs) [] [] pos) tb := by
  refine ⟨(hb fun _ _ => True).mono, fun pins s σ H D I q => ?_⟩
  refine wpAny_Try_except ?_
  generalize (fun e s₁ => wpAny (model X.prog X.w) X.A (noteFrame e X.env) (fun _ s₂ => wpAny (model X.prog X.w) X.A (setFlight e none) (fun _ s₃ => wpAny (model X.prog X.w) X.A (handleBy e X.env (h0 :: hs)) (SP X pins D) X.xe s₃) X.xe s₂) X.xe s₁) = E'
  refine wpAny_mono ((hb E').ps pins s σ H D (I.wish E') q) (fun f s1 z => ?_) (fun _ _ z => z)
  cases f with
  | next => exact wpAny_execs_nil (SP.unwish z)
  | brk => exact SP.unwish z
  | cont => exact SP.unwish z
  | ret u => exact SP.unwish z
end
section
variable {Ds : Desc} {X : Cx} {G : GX} {Z : ZX} {o e : Expr} {es : List Expr} {ta : TD} {t : TAd} {C : Addr} {pos apos : Pos} {k : Nat} {g : Addr} {fd : FuncData} {ps : List Str} {F : FDX} {mm : Str}
end
end DL
set_option maxHeartbeats 1000000
namespace DL
open PySem PySem.Spec PyProof.Rows L2
open PySem.W (InstAt Looks looks_findIn looks_find looks_mroIn looks_hook handedOut_of)
structure Pln (K : PySem.W.Frag) (C : Addr) : Prop where
  kp : PySem.W.keepIn K (.ref C) = true
  cls : ∃ nm q N bs hdct sn sub ab col dd k0 k1 k2 k3 k5 L c0 odl cd' sl', K.lookup C = some (excClassObj nm q C N bs (.ref L :: veTail) hdct sn sub ab col dd k0 k1 k2 k3 k5 "ValueError.__new__") ∧ PySem.W.nsOkIn K N = true ∧ PySem.W.nsIn K N "__init__" = some none ∧
    K.lookup L = some ⟨c0, odl, .cls cd', sl'⟩ ∧ PySem.W.nsOkIn K cd'.ns = true ∧ PySem.W.nsIn K cd'.ns "__init__" = some none
section
variable {prog : Program} {w : World} {A : Around} {E : Value → Shared → Prop} {h : Heap} {g : Array GenState} {d : Drawn} {t : Nat} {os : OsState}
variable {nm q : Str} {C N f : Addr} {bs bm bmB : List Value} {hdct : Bool} {sn : List Str} {sub : List Value} {ab : Bool} {col : Option Bool} {dd : Option Addr} {k0 k1 k2 k3 k5 : Option Value} {B newId initId : String}
theorem type_call_pln (F : ExcBaseFacts B newId initId bmB) (T : OwnTail h bmB bm) {mN : Str → Option Value} {rest : List Value} {Q : Fin → Shared → Prop}
    (hC : h.get? C = some (excClassObj nm q C N bs bm hdct sn sub ab col dd k0 k1 k2 k3 k5 newId)) (hn : h.Ns N mN) (hni : mN "__init__" = none)
    (hq : ∀ (h' : Heap) (a0 : Addr), (∀ b o, h.get? b = some o → h'.get? b = some o) → h'.get? (h.objs.size + 1) = some { cls := .ref C, data := .fields #[.ref a0, .none, .none, .none, .bool false, .none] } → Q (.done (.ret (.ref (h.objs.size + 1)))) ⟨h', g, d, t, os⟩) (hrest : rest.length ≤ sizeLine := by size_fits) :
    wpAny (model prog w) A (Builtin.«type.__call__» ⟨.ref C :: rest, []⟩) Q E ⟨h, g, d, t, os⟩ := by
  repeat (first | with_reducible refine wpAny_loadPart_at hC ?_ | with_reducible refine wpAny_madeBy_exc hC ?_ | wp_step)
  refine codeAny_call_builtin_code (Code.quiet_builtin _ F.quiet) (wpAny_check_new_subT F T hC ?_)
  refine codeAny_exc_new_subT F T hC ?_ hrest
  show wpAny _ _ _ _ _ _
  have keep : ∀ b o, h.get? b = some o → (madeHp h C rest).get? b = some o := fun b o e => Heap.get?_push_of_some _ (Heap.get?_push_of_some _ e)
  have hC₁ := keep _ _ hC
  have hn₁ : (madeHp h C rest).Ns N mN := let ⟨o, es, ep, e, r⟩ := hn; ⟨o, es, ep, keep _ _ e, r⟩
  have hget : (madeHp h C rest).get? (h.objs.size + 1) = some { cls := .ref C, data := .fields #[.ref h.objs.size, .none, .none, .none, .bool false, .none] } := by heap_get
  have hcC : (Value.ref C :: bm).contains (.ref C) = true := by simp
  have T₁ := T.keeps (h' := madeHp h C rest) keep
  unfold isInstance
  repeat (first | with_reducible refine wpAny_loadPart_at hget ?_ | (with_reducible refine wpAny_isSubtype_exc hC₁ ?_; rw [hcC]) | wp_step)
  show wpAny _ _ (typeLookup (.ref C) _) _ _ _
  refine wpAny_typeLookup_tail hC₁ hn₁ T₁ F.mroIs F.init.lookup ?_
  rw [hni]
  refine wpAny_holding (wpAny_bind (wpAny_of_eq (F.init.bind _) ?_))
  refine wpAny_bind (wpAny_call (codeAny_call_builtin F.init.plain F.initEntry (wpAny_check_init_subT F T₁ hC₁ hget rfl ?_)))
  wp_walk
  refine hq _ (h.objs.size + 2) (fun b o hb => ?_) ?_
  · rw [Heap.get?_update_other _ _ (Nat.ne_of_gt (Nat.lt_succ_of_lt (Heap.lt_size hb)))]
    exact Heap.get?_push_of_some _ (keep b o hb)
  · rw [Heap.get?_update_self _ (Heap.get?_push_of_some _ hget) rfl]
    simp only [Heap.size_push]
    rfl
theorem call_pln (F : ExcBaseFacts B newId initId bmB) (T : OwnTail h bmB bm) {mN : Str → Option Value} {rest : List Value} {Q : Value → Shared → Prop}
    (hC : h.get? C = some (excClassObj nm q C N bs bm hdct sn sub ab col dd k0 k1 k2 k3 k5 newId)) (hn : h.Ns N mN) (hni : mN "__init__" = none)
    (hq : ∀ (h' : Heap) (a0 : Addr), (∀ b o, h.get? b = some o → h'.get? b = some o) → h'.get? (h.objs.size + 1) = some { cls := .ref C, data := .fields #[.ref a0, .none, .none, .none, .bool false, .none] } → Q (.ref (h.objs.size + 1)) ⟨h', g, d, t, os⟩) (hrest : rest.length ≤ sizeLine := by size_fits) :
    wpAny (model prog w) A (call (.ref C) rest) Q E ⟨h, g, d, t, os⟩ := by
  have f1 := tc_lookup
  have f2 := tc_bind (.ref C)
  have hT : (⟨h, g, d, t, os⟩ : Shared).TypeIs (.ref C) "type" := ⟨_, hC, rfl⟩
  refine wpAny_call (codeAny_of_tree ?_)
  show wpAny _ _ (callAny (.ref C) _) _ _ _
  repeat (any_goals (first | assumption | with_reducible refine wpAny_loadPart_at hC ?_ | wp_step))
  refine ⟨rfl, ?_⟩
  refine codeAny_call_builtin_at (Code.quiet_builtin _ (by decide +kernel)) entry_typeCall (wpAny_check_type_call_sub hC ?_)
  exact type_call_pln (hrest := hrest) F T hC hn hni hq
end
def PlnD (B : Addr) : Desc := fun code c od => code = .none ∧ c = .ref B ∧ od = none
section
variable {Ds : Desc} {X : Cx} {G : GX} {Z : ZX} {e : Expr} {te : TD} {C : Addr} {x : Str} {p cpos pos : Pos}
def xRaiseB (te : TD) : TXd := fun δ m W => te δ m fun y m1 => (∃ z, y = .d (.str z)) ∧ W .none m1
theorem rs_raiseB (hc : X.calm = true) (Pl : Pln X.K C) (hN : HN Ds X G Z) (hD : Ds .none (.ref C) none) (hg : Gl X x) (hm : X.mg x = some (.ref C)) (ha : DE X e te)
    (hdb : (x == ("__debug__" : Str)) = false := by decide) (he : starEach [e] X.env = [(false, eval e X.env)] := by rfl) : RS X G Z (.Raise (some (.Call (.Name x p) [e] [] cpos)) none pos) (xRaiseB te) := by
  refine ⟨fun δ m W W' hw q => ha.mono δ m _ _ (fun y m1 ⟨e1, z⟩ => ⟨e1, hw _ _ z⟩) q, fun pins s σ H g I ⟨J, δ, m, ok, rl, q⟩ => ?_⟩
  obtain ⟨nm, q0, N, bs, hdct, sn, sub, ab, col, dd, k0, k1, k2, k3, k5, L, c0, odl, cd', sl', hC, hcN, hni, hL, hLN, hLi⟩ := Pl.cls
  rw [arm_exec_Raise]
  simp only [evalOpt, Option.map]
  refine wpAny_bind (wpAny_standAt (raise_made (nm := nm) (q := q0) (C := C) (N := N) (bs := bs) (bm := .ref L :: veTail) (hdct := hdct) (sn := sn) (sub := sub) (ab := ab) (col := col) (dd := dd) (k0 := k0) (k1 := k1) (k2 := k2) (k3 := k3) (k5 := k5) (newId := "ValueError.__new__") (by simp [veTail]) (I.ok.hd hc) ?_))
  refine wpAny_bind (wpAny_Call_Name_kw (ld_glob I hg hm ?_ hdb))
  refine PySem.W.callWith_K (h₀ := X.base) I.ok.mod.kin Pl.kp ?_ he rfl
  rw [he]
  show wpAny _ _ (spliced [(false, eval e X.env)]) _ _ s
  refine Calls.spliced_cons (thn (ha.pe pins s σ H (fun v H1 => Z .none H1) I ⟨J, δ, m, ok, rl, ha.mono δ m _ _ (fun y m1 ⟨_, z⟩ v H' J' s' o' i' => z H' J' s' o') q⟩) fun u s1 ⟨v, H1, I1, rv, z⟩ => Calls.spliced_nil ⟨I1.kIn, ?_⟩)
  have XK : X.K.In s1.heap := I1.kIn
  have hlt : X.env.locals < s1.heap.objs.size := I1.lt
  obtain ⟨h, gg, d, t, os⟩ := s1
  have tail : OwnTail h veTail (.ref L :: veTail) := .own (XK _ _ hL) (.of_isNs (PySem.W.isNs_of_in XK hLN)) (PySem.W.nsMap_none_of_in XK hLN hLi) .base
  have hcN' : h.Ns N (h.nsMap N) := .of_isNs (PySem.W.isNs_of_in XK hcN)
  refine call_pln (F := PySem.F.excBase_ValueError) tail (XK _ _ hC) hcN' (PySem.W.nsMap_none_of_in XK hcN hni) (fun h' a0 kp he' => ?_) (by show 1 ≤ sizeLine; decide)
  refine wpAny_bind (wpAny_standAt (wpAny_pure ?_))
  have I2 : Inv X pins σ H1 ⟨h', gg, d, t, os⟩ := I1.kept (t' := t) kp
  refine ⟨h.objs.size + 1, a0, none, rfl, I2.kIn _ _ hC, he', ?_⟩
  exact hN pins σ H1 ⟨h', gg, d, t, os⟩ (h.objs.size + 1) (.ref C) none none .none g I2 ⟨⟨_, _, he', rfl, rfl, rfl, (by show 1 < 6; decide), rfl⟩, fun _ z => (nomatch z), fun _ => rfl, Nat.succ_le_succ (Nat.le_of_lt hlt), fun _ z => (nomatch z), fun _ z => (nomatch z), I1.hok.fresh (Nat.le_succ _), fun _ z => (nomatch z), fun _ z => (nomatch z), fun _ z => (nomatch z), fun _ z => (nomatch z)⟩ hD z
end
end DL
set_option maxHeartbeats 1000000
namespace DL
open PySem PySem.Spec PyProof.Rows L2
open PySem.W (InstAt Looks looks_findIn looks_find looks_mroIn looks_hook handedOut_of)
def PlnR (C p : Addr) (_ : Hp) (o : HO) : Prop := ∃ ox, o = .ext (At p ox) ∧ ox.cls = .ref C ∧ PySem.W.notCls ox = true ∧ ox.dict = none
def mPln (C p : Addr) : MO := .gen (PlnR C p) fun _ _ _ _ h => h
theorem mPln_inv {K : PySem.W.Frag} {I : Hp} {C p : Addr} {o : HO} (h : MRel K I o (mPln C p)) : PlnR C p I o := by cases o <;> exact h
section
variable {X : Cx} {body : List Stmt} {tx : TXd} {C L : Addr} {cN eN fN : Str} {np q1 q2 q3 hpos pos : Pos} {iF iE : Nat}
def sTryP (C : Addr) (iF iE : Nat) (tx : TXd) : TSd := fun D δ m => tx δ m fun _ m' => ∀ p, m' p = none → D.nx ((δ.set iF (some (.r p))).set iE none) (setM m' p (mPln C p))
theorem ds_tryP (hst : X.stack = X.env :: X.outer) (hfr : X.env.frame = some X.env.locals) (hN : X.N.Nodup) (hi : X.N[iF]? = some fN) (hj : X.N[iE]? = some eN) (lF : X.env.scope.names.lookup fN = some .local) (lE : X.env.scope.names.lookup eN = some .local) (hg : Gl X cN) (hm : X.mg cN = some (.ref L)) (U : Under X.K C L)
    (hbody : ∀ (E' : Value → Shared → Prop) (G : GX) (Z : ZX), HZ (PlnD C) (X.wish E') G Z → RSs (X.wish E') G Z body tx)
    (hdb : (cN == ("__debug__" : Str)) = false := by decide) (hde : (eN == ("__debug__" : Str)) = false := by decide) (hs : swapsWith (.Name eN q2) (some (.Name fN q1)) q3.line X.env = pure false := by rfl) :
    DS X (.Try body [.ExceptHandler (some (.Name cN np)) (some eN) [.Assign [.Name fN q1] (.Name eN q2) q3] hpos] [] [] pos) (sTryP C iF iE tx) := by
  have mo : MoX tx := (hbody (fun _ _ => True) (fun _ _ => True) (fun _ _ => True) (fun _ _ _ _ _ _ _ _ _ => trivial)).mono
  refine ⟨fun D D' δ m le q => mo δ m _ _ (fun code m' z p hp => le.nx _ _ (z p hp)) q, fun pins s σ H D I ⟨J, δ, m, ok, rl, q⟩ => ?_⟩
  refine wpAny_Try_except ?_
  have key : ∀ (E' : Value → Shared → Prop), E' = (fun v s1 => wpAny (model X.prog X.w) X.A (noteFrame v X.env) (fun _ s2 => wpAny (model X.prog X.w) X.A (setFlight v none) (fun _ s3 =>
      wpAny (model X.prog X.w) X.A (handleBy v X.env [.ExceptHandler (some (.Name cN np)) (some eN) [.Assign [.Name fN q1] (.Name eN q2) q3] hpos]) (SP X pins D) X.xe s3) X.xe s2) X.xe s1) →
      wpAny (model X.prog X.w) X.A (execs body X.env) (fun _ _ => False) E' s := by
    intro E' eE
    have hZ : HZ (PlnD C) (X.wish E') (fun p σ' => p = pins ∧ σ' = σ) (fun code H' => ∃ J' m', Same J J' ∧ Ok X.K H' J' m' ∧ ∀ p, m' p = none → (low X.K J D).nx ((δ.set iF (some (.r p))).set iE none) (setM m' p (mPln C p))) := by
      rintro pins' σ' H0 s0 v s' ⟨rfl, rfl⟩ I0 ⟨e, c, dx, od, T, H', code, rfl, os, bare, un, hok, fl, ⟨rfl, rfl, rfl⟩, J', m', sJ, o', hw⟩
      have I0' := I0.unwish
      have I1 : Inv X pins' σ' H' s' := I0'.call' os un hok bare (fun b hb => absurd hb (by simp))
      have fe : FpOk X pins' H' e := I0'.fpOk fl.ke fl.fe
      have fT : ∀ t, some T = some t → FpOk X pins' H' t := fun t z => I0'.fpOk (fl.kT t z) (fl.fT t z)
      show E' (.ref e) s'
      rw [eE]
      have hstk := I1.stack
      rw [hst] at hstk
      refine note_keep (base := X.base) (outer := X.outer) (by rw [I1.ok.frames, hst]) hstk hfr fl.fly fun h2 T2 hT2 fl2 kb => ?_
      have I2 : Inv X pins' σ' H' { s' with heap := h2 } := Inv.keptBut I1 fe fT (fun b hb => by rw [hst]; exact hb) kb
      have fT2 : ∀ t, some T2 = some t → FpOk X pins' H' t := fun t z => by cases z; exact I1.fpOk hT2 (I1.hok.fresh hT2)
      refine wpAny_handleBy_cons (codeAny_handlers_test ?_) (fun z => nomatch z)
      refine Calls.Name_function_global I2.ok.kind hg (Calls.loadGlobal_global (by rw [I2.ok.glob]; exact I2.mod.glob.keeps I2.bk) hm ?_) hdb
      obtain ⟨oe, vs, hoe, hcl, hdc, hda, _⟩ := id fl2
      obtain ⟨_, _, _, _, bm, _, _, _, _, _, _, _, _, _, _, _, _, hC, hcC⟩ := U.sub
      obtain ⟨_, _, _, _, bm', _, _, _, _, _, _, _, _, _, _, _, _, hL, hbB⟩ := U.top
      refine matches_above (I2.kIn _ _ hC) (I2.kIn _ _ hL) hoe hcl hcC hbB ?_
      simp only [if_true]
      refine codeAny_handlers_suite_as (land_keep fl2 fun h3 fl3 kb3 => ?_)
      have I3 : Inv X pins' σ' H' { s' with heap := h3 } := Inv.keptBut (s := { s' with heap := h2 }) I2 fe fT2 (fun b hb => absurd hb (by simp)) kb3
      obtain ⟨ox, vs3, hox, hcl3, hdc3, hda3, _⟩ := id fl3
      -- the dict is where it was
      cases dx with
      | some dx => obtain ⟨_, e1, _⟩ := fl.dict dx rfl; cases e1
      | none =>
        have I5 : Inv X pins' σ' (upd H' e (.ext (At e ox))) { s' with heap := h3 } := Inv.track I3 fe (at_ok hox)
        have o5 := o'.newM (o := .ext (At e ox)) (q := mPln C e) fe.1 ⟨ox, rfl, hcl3, by unfold PySem.W.notCls; rw [hda3], hdc3⟩
        have hnx := hw e (o'.freeM fe.1)
        refine store_ok I5 hN hj (.inl lE) (v := .ref e) rfl (fun s6 I6 => ?_) (.inr lE)
        refine wpAny_execs_cons (wpAny_Assign_Name ?_ hs)
        obtain ⟨m6, hn6, hl6⟩ := id I6.loc
        obtain ⟨u6, r6, l6⟩ := hl6 iE eN (.ref e) hj (List.getElem?_set_self (by rw [I5.len]; exact (List.getElem?_eq_some_iff.mp hj).1)) (.inl lE)
        have hm6 : m6 eN = some u6 := by
          rcases l6 with ⟨_, z⟩ | ⟨k6, _⟩
          · exact z
          · rcases k6 with k6 | k6 <;> (have : X.env.kindOf eN = some .local := lE; rw [this] at k6; cases k6)
        cases (show u6 = Value.ref e from r6)
        refine wpAny_Name (wpAny_loadName_local I6.ok.kind lE hn6 hm6 ?_) hde
        refine store_ok I6 hN hi (.inl lF) (v := .ref e) rfl (fun s7 I7 => wpAny_execs_nil ?_) (.inr lF)
        refine name_gone I7 hN hj lE fun s8 I8 => ?_
        refine ⟨_, _, I8, hnx _ _ _ sJ o5 ?_⟩
        have rl8 := Rl.setNone (Rl.set (v := .ref e) (x := .r e) (rl.same sJ) iF rfl) iE
        have e8 : ((σ'.set iE (some (.ref e))).set iF (some (.ref e))).set iE none = (σ'.set iF (some (.ref e))).set iE none := by
          by_cases h : iE = iF
          · subst h; simp only [List.set_set]
          · rw [List.set_comm _ _ h, List.set_set]
        rw [e8]
        exact rl8
    have R := hbody E' _ _ hZ
    exact wpAny_mono (R.rs pins s σ H ⟨rfl, rfl⟩ (I.wish E') ⟨J, δ, m, ok, rl, mo δ m _ _ (fun code m' z H' I' s1 o1 => ⟨I', m', s1, o1, z⟩) q⟩) (fun _ _ z => z) fun _ _ z => z
  refine wpAny_mono (key _ rfl) (fun _ _ z => z.elim) fun _ _ z => z
end
section
variable {prog : Program} {w : World} {A : Around} {E : Value → Shared → Prop} {s : Shared} {K : PySem.W.Frag} {x C : Addr} {ox : Obj} {od : Option Obj} {name : Str} {tk : Tok}
theorem find_data {a g : Value} (hc : (PySem.W.clsIn K C).isSome = true) (ha : PySem.W.findIn K (.ref C) name = some (some a)) (hg : PySem.W.specialIn K a "__get__" = some (some g)) (ht : PySem.W.takesIn K a = some true) : PySem.W.findObj K C od name = some (.bind g a) := by
  obtain ⟨cd, hc⟩ := Option.isSome_iff_exists.mp hc
  unfold PySem.W.findObj
  simp [hc, ha, hg, ht]
theorem exc_classN {fill expr : Bool} {Q : Value → Shared → Prop} (X : K.In s.heap) (I : InstAt s.heap x ox C od) (B : ExcK K C) (h : Q (.ref C) s) :
    wpAny (model prog w) A (getAttrBy (.ref x) (.str "__class__" tk) fill expr) Q E s := by
  have hf : PySem.W.findObj K C od "__class__" = some (.bind (.builtin "getset_descriptor.__get__") (.builtin "object.__class__")) := find_data (by obtain ⟨cd, hc, _⟩ := PySem.W.any_some B.d; rw [hc]; rfl) B.a B.n B.t
  have L0 := I.type (M := model prog w)
  have L1 := looks_find (M := model prog w) X I hf
  obtain ⟨hp, g, d, t, os⟩ := s
  refine exc_by (P := fun v' s' => v' = .ref C ∧ s' = ⟨hp, g, d, t, os⟩) X I B (fun R hR => ?_) ?_
  · unfold Builtin.«object.__getattribute__»
    repeat (any_goals (first | with_reducible refine L0.at ?_ | with_reducible refine L1.at ?_ | (refine wpAny_call (PySem.W.class_get (s := ⟨hp, g, d, t, os⟩) X I B.m ?_)) | wp_step))
    all_goals exact hR _ _ ⟨rfl, rfl⟩
  · rintro v' s' ⟨rfl, rfl⟩
    rw [handedOut_of rfl]; exact wpAny_pure h
theorem kitx_excN (B : ExcK K C) : PySem.W.KitX K (.ref x) (.ref C) (fun h => InstAt h x ox C od) := by
  obtain ⟨cd, hc, _⟩ := PySem.W.any_some B.d
  have look : ∃ c0 d0 sl, K.lookup C = some ⟨c0, d0, .cls cd, sl⟩ := by
    unfold PySem.W.clsIn at hc
    split at hc
    · next ho => cases hc; exact ⟨_, _, _, ho⟩
    · cases hc
  obtain ⟨c0, d0, sl, ho⟩ := look
  refine ⟨fun M h _ I => I.type, fun M h X _ A Q E s k q => ?_, fun h tp dd its n sl' X htp => ?_, fun {prog w A E Q s} X I q => ?_⟩
  · unfold isType loadHead
    exact wpAny_bind (wpAny_loadPart (k _ _ (X _ _ ho)) (wpAny_pure q))
  · cases e : (Value.ref C == Value.ref tp) with
    | false => rfl
    | true =>
      cases Value.ref.inj (beq_iff_eq.mp e)
      have z := (X _ _ ho).symm.trans htp
      cases z
  · unfold getAttr? getAttrBy?
    refine wpAny_bind (wpAny_mkText (wpAny_bind (wpAny_attempt (exc_classN (s := { s with toks := s.toks + 1 }) X I B ?_))))
    exact wpAny_pure q
end
section
variable {X : Cx} {pins : List (Addr × Obj)} {σ : L2.St} {H : Hp} {s : Shared} {C p : Addr}
theorem pln_inst {I0 : Hp} {m : M} (I : Inv X pins σ H s) (ok : Ok X.K H I0 m) (h : m p = some (mPln C p)) : ∃ ox, PySem.W.InstAt s.heap p ox C none := by
  obtain ⟨o, h1, h2⟩ := ok.mu p _ h
  obtain ⟨ox, rfl, e1, e2, e3⟩ := mPln_inv h2
  have a1 : s.heap.get? p = some ox := (show ObjOk X.prog X.w H s.heap p (.ext (At p ox)) from I.hok p _ h1).1
  exact ⟨ox, ⟨a1, e1, e2, by rw [e3]; trivial⟩⟩
end
section
variable {X : Cx} {e : Expr} {te : TD} {t1 t2 : TD} {pos p p2 tp : Pos} {C : Addr}
def dAlt (t1 t2 : TD) : TD := fun δ m Q => t1 δ m Q ∨ t2 δ m Q
end
end DL
namespace DL
open PySem PySem.Spec PyProof.Rows L2
theorem pln_of {K : PySem.W.Frag} {nm q : Str} {C N L : Addr} {bs : List Value} {hdct : Bool} {sn : List Str} {sub : List Value} {ab : Bool} {col : Option Bool} {dd odl : Option Addr} {k0 k1 k2 k3 k5 : Option Value} {c0 : Value} {cd' : ClassData} {sl' : Array (Option Value)}
    (hkp : PySem.W.keepIn K (.ref C) = true) (hC : K.lookup C = some (excClassObj nm q C N bs (.ref L :: veTail) hdct sn sub ab col dd k0 k1 k2 k3 k5 "ValueError.__new__")) (hcN : PySem.W.nsOkIn K N = true) (hni : PySem.W.nsIn K N "__init__" = some none)
    (hL : K.lookup L = some ⟨c0, odl, .cls cd', sl'⟩) (hLN : PySem.W.nsOkIn K cd'.ns = true) (hLi : PySem.W.nsIn K cd'.ns "__init__" = some none) : Pln K C :=
  ⟨hkp, _, _, _, _, _, _, _, _, _, _, _, _, _, _, _, _, _, _, _, _, hC, hcN, hni, hL, hLN, hLi⟩
section
variable {X : Cx} {G : GX} {Z : ZX} {sts : List Stmt} {t1 t2 : TXd}
def xAlt (t1 t2 : TXd) : TXd := fun δ m W => t1 δ m W ∨ t2 δ m W
theorem rss_alt (h1 : RSs X G Z sts t1) (h2 : RSs X G Z sts t2) : RSs X G Z sts (xAlt t1 t2) := by
  refine ⟨fun δ m W W' hw q => ?_, fun pins s σ H g I ⟨J, δ, m, ok, rl, q⟩ => ?_⟩
  · rcases q with q | q
    · exact .inl (h1.mono δ m W W' hw q)
    · exact .inr (h2.mono δ m W W' hw q)
  · rcases q with q | q
    · exact h1.rs pins s σ H g I ⟨J, δ, m, ok, rl, q⟩
    · exact h2.rs pins s σ H g I ⟨J, δ, m, ok, rl, q⟩
end
end DL
namespace DL
open PySem PySem.Spec PyProof.Rows L2
section
variable {X : Cx} {body : List Stmt} {t1 t2 : TXd} {t3 : TSd} {C B L : Addr} {cN eN fN : Str} {np q1 q2 q3 hpos pos : Pos} {iF iE : Nat}
theorem ds_try3 (hst : X.stack = X.env :: X.outer) (hfr : X.env.frame = some X.env.locals) (hN : X.N.Nodup) (hi : X.N[iF]? = some fN) (hj : X.N[iE]? = some eN) (lF : X.env.scope.names.lookup fN = some .local) (lE : X.env.scope.names.lookup eN = some .local) (hg : Gl X cN) (hm : X.mg cN = some (.ref L)) (U : Under X.K C L) (UB : Under X.K B L)
    (hb3 : ∀ (E' : Value → Shared → Prop), DSs (X.wish E') body t3)
    (hb1 : ∀ (E' : Value → Shared → Prop) (G : GX) (Z : ZX), HZ (NumD C) (X.wish E') G Z → RSs (X.wish E') G Z body t1)
    (hb2 : ∀ (E' : Value → Shared → Prop) (G : GX) (Z : ZX), HZ (PlnD B) (X.wish E') G Z → RSs (X.wish E') G Z body t2)
    (hdb : (cN == ("__debug__" : Str)) = false := by decide) (hde : (eN == ("__debug__" : Str)) = false := by decide) (hs : swapsWith (.Name eN q2) (some (.Name fN q1)) q3.line X.env = pure false := by rfl) :
    DS X (.Try body [.ExceptHandler (some (.Name cN np)) (some eN) [.Assign [.Name fN q1] (.Name eN q2) q3] hpos] [] [] pos) (sOr (sTry C iF iE t1) (sOr (sTryP B iF iE t2) t3)) :=
  ds_or (ds_try hst hfr hN hi hj lF lE hg hm U hb1 hdb hde hs) (ds_or (ds_tryP hst hfr hN hi hj lF lE hg hm UB hb2 hdb hde hs) (ds_tryN hb3))
end
end DL
namespace DL
open PySem PySem.Spec PyProof.Rows L2
section
variable {Ds : Desc} {X : Cx} {Kf : PySem.W.Frag} {G : GX} {Z : ZX} {o e : Expr} {es : List Expr} {ta : TD} {t : TAd} {C : Addr} {pos apos : Pos} {k : Nat} {g : Addr} {fd : FuncData} {ps : List Str} {mm : Str}
end
end DL
namespace DL
open PySem PySem.Spec PyProof.Rows L2
section
variable {X : Cx} {es : List Expr} {t : TAd} {pos : Pos}
end
end DL
namespace DL
open PySem PySem.Spec PyProof.Rows L2
open AutoSeq1 (wpAny_loadPart')
section
variable {X : Cx} {pos : Pos}
end
end DL
set_option maxHeartbeats 1000000
namespace DL
open PySem PySem.Spec PyProof.Rows L2
section
variable {X : Cx} {a b o e e1 e2 tg : Expr} {es : List Expr} {ta tb to te te1 te2 : TD} {t : TAd} {pos apos p : Pos} {k : Nat}
def gSplitM : R2D
  | .d (.str a), .d (.str b), m, Q => (b.length == 0) = false ∧ a.length + 2 ≤ 16777216 ∧ ∀ p, m p = none → Q (.r p) (setM m p (.lst ((Txt.split a b).map fun y => .d (.str y))))
  | _, _, _, _ => False
theorem de_splitM (ho : DE X o to) (he : DE X e te)
    (hs : starEach [e] X.env = [(false, eval e X.env)] := by rfl) (hbase : attributeBase o "split" X.env (eval o X.env) = eval o X.env := by rfl) (hline : (apos.endLine == pos.line) = true := by rfl) :
    DE X (.Call (.Attribute o "split" apos) [e] [] pos) (dM1 gSplitM to te) := by
  have inv : ∀ {x y m Q}, gSplitM x y m Q → ∃ a b, x = .d (.str a) ∧ y = .d (.str b) ∧ (b.length == 0) = false ∧ a.length + 2 ≤ 16777216 ∧ ∀ p, m p = none → Q (.r p) (setM m p (.lst ((Txt.split a b).map fun y => .d (.str y)))) := fun {x y m Q} q => by
    unfold gSplitM at q; split at q
    · exact ⟨_, _, rfl, rfl, q⟩
    · exact q.elim
  refine lift_m1 PySem.F.slot_str_split PySem.F.type_str_split mt_split (fun x y m Q Q' h q => ?_) (fun x y m Q q => ?_) (fun H I0 I m x y v w Q ok s hx hy q => ?_) ho he hs hbase hline
  · obtain ⟨a, b, rfl, rfl, h1, h2, q⟩ := inv q; exact ⟨h1, h2, fun p hp => h _ _ (q p hp)⟩
  · obtain ⟨a, b, rfl, _⟩ := inv q; exact ⟨a, rfl⟩
  · obtain ⟨a, b, rfl, rfl, h1, h2, q⟩ := inv q
    refine ⟨a, b, hx.str, by rw [hy.str], h1, by rw [sizeLine_eq]; exact h2, fun p hp => ?_⟩
    have al : IsAll X.K I ((Txt.split a b).map V.str) ((Txt.split a b).map fun y => Dv.d (.str y)) := by
      have := isAll_of (strs_dp (K := X.K) (I := I) (Txt.split a b))
      rw [List.map_map] at this
      exact this
    exact ⟨I, .r p, _, s, ok.newM (q := .lst ((Txt.split a b).map fun y => .d (.str y))) hp (show IsAll X.K I _ _ from al), rfl, q p (ok.freeM hp)⟩
def gJoinM : R2D := fun x y m Q => ∃ a, ∃ ys : List Str, x = .d (.str a) ∧ datM m y (.list (ys.map .str)) ∧ (ys.map (·.length)).sum + ys.length * a.length ≤ 16777216 ∧ Q (.d (.str (Txt.join a ys))) m
theorem de_joinM (ho : DE X o to) (he : DE X e te)
    (hs : starEach [e] X.env = [(false, eval e X.env)] := by rfl) (hbase : attributeBase o "join" X.env (eval o X.env) = eval o X.env := by rfl) (hline : (apos.endLine == pos.line) = true := by rfl) :
    DE X (.Call (.Attribute o "join" apos) [e] [] pos) (dM1 gJoinM to te) := by
  refine lift_m1 PySem.F.slot_str_join PySem.F.type_str_join mt_join (fun x y m Q Q' h q => ?_) (fun x y m Q q => ?_) (fun H I0 I m x y v w Q ok s hx hy q => ?_) ho he hs hbase hline
  · obtain ⟨a, ys, e1, e2, h1, q⟩ := q; exact ⟨a, ys, e1, e2, h1, h _ _ q⟩
  · obtain ⟨a, ys, e1, _⟩ := q; exact ⟨a, e1⟩
  · obtain ⟨a, ys, rfl, e2, h1, q⟩ := q
    obtain ⟨c, vs, rfl, sq, al⟩ := datM_L ok hy e2
    obtain rfl := strs_dpv al
    exact ⟨a, c, ys, hx.str, rfl, .inl sq, h1, qd_same ok s (isS _) q⟩
def gNotInS : R2D
  | .d (.str i), .d (.str j), m, Q => Q (.d (.bool (!occ i j))) m
  | _, _, _, _ => False
theorem o2_notinS {K : PySem.W.Frag} : Op2 K (fun x y H Q => ∃ i j, x = .str i ∧ y = .str j ∧ Q (.bl (!(!(Builtin.Str.occurrences j i 0 j.length 1).isEmpty))) H) gNotInS := by
  have inv : ∀ {x y m Q}, gNotInS x y m Q → ∃ i j, x = .d (.str i) ∧ y = .d (.str j) ∧ Q (.d (.bool (!occ i j))) m := fun {x y m Q} q => by
    unfold gNotInS at q; split at q
    · exact ⟨_, _, rfl, rfl, q⟩
    · exact q.elim
  refine ⟨fun x y m Q Q' h q => ?_, fun H I0 I m x y v w Q ok s hx hy q => ?_⟩
  · obtain ⟨i, j, rfl, rfl, q⟩ := inv q
    exact h _ _ q
  · obtain ⟨i, j, rfl, rfl, q⟩ := inv q
    exact ⟨i, j, hx.str, hy.str, qd_same ok s (isB _) q⟩
theorem dt_notinS (ha : DE X a ta) (hb : DE X b tb) (hm : behindInMarks .NotIn b = false := by rfl) : DT X (.Compare a [.NotIn] [b] pos) (dTest (dOp gNotInS ta tb)) := dt_cmp op_notin_str o2_notinS ha hb hm
def gStrI : RAD
  | [.d (.int n)], m, Q => n.natAbs.log2 < 1920 ∧ Q (.d (.str (Str.ofString (toString n)))) m
  | _, _, _ => False
theorem boot_str0 : bootBuiltins "str" = some (.type "str") := by decide +kernel
theorem de_strI (hg : Gl X "str") (hm : X.mg "str" = none) (ha : DA X [e] t) (he : starEach [e] X.env = [(false, eval e X.env)] := by rfl) : DE X (.Call (.Name "str" p) [e] [] pos) (dCB gStrI t) := by
  refine de_callTy call_str_int ⟨fun xs m Q Q' h q => ?_, fun H I0 I m xs vs Q ok s hx q => ?_⟩ hg hm boot_str0 ha (he := he)
  · unfold gStrI at q ⊢
    split at q
    · exact ⟨q.1, h _ _ q.2⟩
    · exact q.elim
  · unfold gStrI at q
    split at q
    · obtain ⟨v, rfl, hv⟩ := isAll1 hx
      exact ⟨_, by rw [hv.int], q.1, qd_same ok s (isS _) q.2⟩
    · exact q.elim
def repS (x : Str) (n : Nat) : Str := ⟨(List.replicate n x.cps).foldl (· ++ ·) #[]⟩
theorem foldl_app : ∀ (l : List (Array Nat)) (z : Array Nat), (l.foldl (· ++ ·) z).toList = z.toList ++ (l.map (·.toList)).flatten
  | [], z => by simp
  | y :: l, z => by rw [List.foldl_cons, foldl_app l]; simp
theorem repS_cps (x : Str) (n : Nat) : (repS x n).cps.toList = (List.replicate n x.cps.toList).flatten := by
  unfold repS
  show ((List.replicate n x.cps).foldl (· ++ ·) #[]).toList = _
  rw [foldl_app]
  simp
theorem repS_len (x : Str) (n : Nat) : (repS x n).length = n * x.length := by
  have h1 : (repS x n).length = (repS x n).cps.toList.length := by simp [Str.length]
  have h2 : x.length = x.cps.toList.length := by simp [Str.length]
  rw [h1, repS_cps, h2, List.length_flatten, List.map_replicate, List.sum_replicate_nat]
theorem op_mulN : OpR X (binaryOp .Mult) (fun x y H Q => ∃ a n, x = .str a ∧ y = .int n ∧ 2 ≤ n ∧ n ≤ 1000 ∧ (0 < a.length ∧ a.length ≤ 1000) ∧ Q (.str (repS a n.toNat)) H) := by
  intro pins s σ H x y v u Q I rx ry h
  obtain ⟨a, n, rfl, rfl, h2, h3, h4, q⟩ := h
  obtain ⟨t, rfl⟩ := rx
  obtain ⟨t', rfl⟩ := ry
  have hm : a.length * n.toNat ≤ 1000 * 1000 := Nat.mul_le_mul h4.2 (by omega)
  have hsl := sizeLine_eq
  refine PySem.P.mul_str (by rw [decide_eq_false (by omega), decide_eq_false (by omega)]; rfl) (fun _ _ h => ?_) (fun _ _ => ?_) ?_
  · have : (1001 : Int) ≤ (2 ^ 63 - 1) / n := (Int.le_ediv_iff_mul_le (by omega)).mpr (by omega)
    omega
  · unfold Builtin.Str.tooLong
    rw [decide_eq_false]
    omega
  · rw [if_neg (by omega), if_neg (by simp; omega)]
    refine ⟨?_, ⟨.str _, H, I.tok _, ⟨_, rfl⟩, q⟩⟩
    rw [show (⟨(List.replicate n.toNat a.cps).foldl (· ++ ·) #[]⟩ : Str).length = n.toNat * a.length from repS_len a n.toNat, hsl]
    rw [Nat.mul_comm]; omega
def gMulN : R2D
  | .d (.str a), .d (.int n), m, Q => 2 ≤ n ∧ n ≤ 1000 ∧ (0 < a.length ∧ a.length ≤ 1000) ∧ Q (.d (.str (repS a n.toNat))) m
  | _, _, _, _ => False
theorem o2_mulN {K : PySem.W.Frag} : Op2 K (fun x y H Q => ∃ a n, x = .str a ∧ y = .int n ∧ 2 ≤ n ∧ n ≤ 1000 ∧ (0 < a.length ∧ a.length ≤ 1000) ∧ Q (.str (repS a n.toNat)) H) gMulN := by
  have inv : ∀ {x y m Q}, gMulN x y m Q → ∃ a n, x = .d (.str a) ∧ y = .d (.int n) ∧ 2 ≤ n ∧ n ≤ 1000 ∧ (0 < a.length ∧ a.length ≤ 1000) ∧ Q (.d (.str (repS a n.toNat))) m := fun {x y m Q} q => by
    unfold gMulN at q; split at q
    · exact ⟨_, _, rfl, rfl, q⟩
    · exact q.elim
  refine ⟨fun x y m Q Q' h q => ?_, fun H I0 I m x y v w Q ok s hx hy q => ?_⟩
  · obtain ⟨a, n, rfl, rfl, h1, h2, h3, q⟩ := inv q
    exact ⟨h1, h2, h3, h _ _ q⟩
  · obtain ⟨a, n, rfl, rfl, h1, h2, h3, q⟩ := inv q
    exact ⟨a, n, hx.str, hy.int, h1, h2, h3, qd_same ok s (isS _) q⟩
theorem de_mulN (ha : DE X a ta) (hb : DE X b tb) : DE X (.BinOp a .Mult b pos) (dOp gMulN ta tb) := de_op op_mulN o2_mulN ha hb
end
end DL
set_option maxHeartbeats 1000000
namespace DL
open PySem PySem.Spec PyProof.Rows L2
section
variable {X : Cx} {o e1 e2 : Expr} {to : TD} {t : TAd} {pos apos : Pos}
def rIns : V → List V → Hp → VK → Prop := fun x vs H Q => ∃ l xs, ∃ j : Int, ∃ i : Nat, ∃ y, x = .ref l ∧ vs = [.int j, y] ∧ j = (i : Nat) ∧ H l = some (.lst xs) ∧ i ≤ xs.length ∧ xs.length < 1000000 ∧ Q .non (upd H l (.lst (xs.take i ++ y :: xs.drop i)))
theorem paired_take {α β : Type} {F : α → β → Prop} : ∀ {l₁ : List α} {l₂ : List β} (k : Nat), Paired F l₁ l₂ → Paired F (l₁.take k) (l₂.take k)
  | _, _, 0, _ => .nil
  | _, _, _ + 1, .nil => .nil
  | _, _, k + 1, .cons r t => .cons r (paired_take k t)
theorem paired_drop {α β : Type} {F : α → β → Prop} : ∀ {l₁ : List α} {l₂ : List β} (k : Nat), Paired F l₁ l₂ → Paired F (l₁.drop k) (l₂.drop k)
  | _, _, 0, h => h
  | _, _, _ + 1, .nil => .nil
  | _, _, k + 1, .cons r t => paired_drop k t
theorem mt_insert : MtM X "list.insert" rIns := by
  intro pins s σ H x vs v us Q I rx rv h
  obtain ⟨l, xs, j, i, y, rfl, rfl, hj, hH, hi, hl1, q⟩ := h
  cases rx
  cases rv with
  | cons r1 rr =>
    cases rr with
    | @cons _ u2 _ _ r2 rr =>
      cases rr
      obtain ⟨t, rfl⟩ := r1
      obtain ⟨z, its, n, r, hl, e⟩ := I.lstM hH
      have hv : Vals (xs.take i ++ y :: xs.drop i) (its.take i ++ u2 :: its.drop i) := paired_app (paired_take i r) (.cons r2 (paired_drop i r))
      have hsl := sizeLine_eq
      have hfit : ¬ (!Builtin.List.listFitsIndex j) = true := by
        have h1 : -(2 ^ 63) ≤ j := by omega
        have h2 : j < 2 ^ 63 := by omega
        rw [fitsIndex_both h1 h2]
        exact Bool.false_ne_true
      have hsz : its.toArray.size ≤ sizeLine := by rw [List.size_toArray, ← hl]; exact z
      have hT : s.TypeIs (.ref l) "list" := ⟨_, e, rfl⟩
      refine call_meets PySem.F.slot_list_insert hT PySem.F.entry_list_insert (PySem.F.args_list_insert_3 _ _ _) (PySem.AutoSeq1.list_insert_list_int_val_1 l its.toArray n j t u2 hfit hsz) ⟨e, ?_⟩
      refine ⟨.non, _, I.lset (its' := its.take i ++ u2 :: its.drop i) hH e ?_ hv ?_, rfl, q⟩
      · show (its.toArray.extract 0 (if j < 0 then (j + (its.toArray.size : Int)).toNat else min j.toNat its.toArray.size)).push _ ++ its.toArray.extract (if j < 0 then (j + (its.toArray.size : Int)).toNat else min j.toNat its.toArray.size) = _
        have hle : i ≤ its.length := by omega
        have ek : (if j < 0 then (j + (its.toArray.size : Int)).toNat else min j.toNat its.toArray.size) = i := by
          rw [if_neg (by omega), List.size_toArray]
          clear e hH q I
          omega
        rw [ek]
        exact PySem.W.kl_ins_eq its i _
      · rw [List.length_append, List.length_cons, List.length_take, List.length_drop]; omega
def dIns (to : TD) (t : TAd) : TD := fun δ m Q => to δ m fun x m1 => (∃ a xs, x = .r a ∧ m1 a = some (.lst xs)) ∧ t δ m1 fun ds m2 => ∃ a xs, ∃ i : Nat, ∃ y, x = .r a ∧ ds = [.d (.int (i : Nat)), y] ∧ m2 a = some (.lst xs) ∧ i ≤ xs.length ∧ xs.length < 1000000 ∧ Q (.d .none) (setM m2 a (.lst (xs.take i ++ y :: xs.drop i)))
theorem de_ins (ho : DE X o to) (ha : DA X [e1, e2] t)
    (hbase : attributeBase o "insert" X.env (eval o X.env) = eval o X.env := by rfl)
    (hfew : ((backTo pos (starEach [e1, e2] X.env)).all (fun x => !x.1) && (backToKw pos (keywordEach [] X.env)).all (fun x => x.1.isSome)
      && decide (([e1, e2] : List Expr).length + ([] : List Keyword).length + (if ([] : List Keyword).isEmpty then 0 else 1) < 30)) = true := by rfl)
    (hline : (apos.endLine == pos.line) = true := by rfl) (hs : starEach [e1, e2] X.env = (false, eval e1 X.env) :: starEach [e2] X.env := by rfl) (hplain : (backTo pos (starEach [e2] X.env)).any (·.1) = false := by rfl) :
    DE X (.Call (.Attribute o "insert" apos) [e1, e2] [] pos) (dIns to t) := by
  have mo : Mo (dIns to t) := fun δ m Q Q' hq q => ho.mono δ m _ _ (fun x m1 ⟨z1, z2⟩ => ⟨z1, ha.mono δ m1 _ _ (fun ds m2 ⟨a, xs, i, y, g1, g2, g3, g4, g5, z⟩ => ⟨a, xs, i, y, g1, g2, g3, g4, g5, hq _ _ z⟩) z2⟩) q
  refine de_of (pe_bm (hbase := hbase) (hfew := hfew) (hline := hline) (hs := hs) (hplain := hplain) PySem.F.plainAttrs_list PySem.F.slot_list_insert PySem.F.type_list_insert mt_insert ho.pe ha.pa) mo fun σ H I δ m Q ok rl q => ?_
  refine ⟨I, δ, m, ok, rl, ho.mono δ m _ _ (fun x m1 ⟨⟨a, xs, ex, exs⟩, z⟩ v1 H1 I1 s1 o1 i1 => ?_) q⟩
  subst ex
  have i1 : v1 = .ref a := i1
  subst i1
  obtain ⟨vs, hv, al⟩ := o1.lst exs
  refine ⟨.inl ⟨rfl, vs, SqL.of hv⟩, I1, δ, m1, o1, rl.same s1, ha.mono δ m1 _ _ (fun ds m2 q2 v2 H2 I2 s2 o2 i2 => ?_) z⟩
  obtain ⟨a', xs', i, y, ea, rfl, ey, hi, hl, q2⟩ := q2
  cases ea
  cases i2 with
  | cons j1 jj =>
    cases jj with
    | cons j2 jj =>
      cases jj
      have j1 := j1.int
      subst j1
      obtain ⟨ws, hw, bl⟩ := o2.lst ey
      have hlen := paired_len bl
      refine ⟨a, ws, _, i, _, rfl, rfl, rfl, hw, by rw [hlen]; exact hi, by rw [hlen]; exact hl, ?_⟩
      have bl' : IsAll X.K I2 (ws.take i ++ _ :: ws.drop i) (xs'.take i ++ y :: xs'.drop i) := paired_app (paired_take i bl) (.cons j2 (paired_drop i bl))
      exact ⟨I2, .d .none, setM m2 a (.lst (xs'.take i ++ y :: xs'.drop i)), s1.trans s2, o2.put ey (o := .lst _) (q := .lst (xs'.take i ++ y :: xs'.drop i)) (show MRel X.K I2 (.lst _) (.lst _) from bl'), isN, q2⟩
end
end DL
set_option maxHeartbeats 1000000
namespace DL
open PySem PySem.Spec PyProof.Rows L2
open Builtin Builtin.Str
def RepOk (x z r : Str) : Prop := r.length ≤ x.length + (x.length + 1) * z.length ∧ ∀ c ∈ r.cps.toList, c ∈ x.cps.toList ∨ c ∈ z.cps.toList
theorem rep_same (x z : Str) : RepOk x z x := ⟨Nat.le_add_right _ _, fun c h => .inl h⟩
theorem strSub_mem {x : Str} {i j : Nat} {c : Nat} (h : c ∈ (strSub x i j).cps.toList) : c ∈ x.cps.toList := by
  unfold strSub at h
  simp only [Array.toList_extract] at h
  exact List.mem_of_mem_drop (List.mem_of_mem_take h)
theorem parts_mem {x : Str} {w : Nat} : ∀ (cuts : List Nat) (a : Nat), ∀ p ∈ StrLaws.partsFrom x w a cuts, ∀ c ∈ p.cps.toList, c ∈ x.cps.toList
  | [], a, p, hp, c, hc => by
    simp only [StrLaws.partsFrom, List.mem_cons, List.not_mem_nil, or_false] at hp
    subst hp; exact strSub_mem hc
  | d :: r, a, p, hp, c, hc => by
    rcases List.mem_cons.mp hp with rfl | hp
    · exact strSub_mem hc
    · exact parts_mem r _ p hp c hc
theorem join_mem {z : Str} {S : Nat → Prop} : ∀ (l : List Str), (∀ p ∈ l, ∀ c ∈ p.cps.toList, S c) → ∀ c ∈ (Str.join z l).cps.toList, S c ∨ c ∈ z.cps.toList
  | [], _, c, hc => by simp [Str.join, Str.empty] at hc
  | [p], h, c, hc => .inl (h p (by simp) c hc)
  | p :: q :: r, h, c, hc => by
    have hc : c ∈ (p ++ z ++ Str.join z (q :: r)).cps.toList := hc
    rw [cps_app, cps_app] at hc
    rcases List.mem_append.mp hc with hc | hc
    · rcases List.mem_append.mp hc with hc | hc
      · exact .inl (h p (by simp) c hc)
      · exact .inr hc
    · exact join_mem (q :: r) (fun p' hp' => h p' (List.mem_cons_of_mem _ hp')) c hc
theorem gives_replace1 (x y z : Str) (t u v tk : Tok) (h0 : (u == 0 || v == 0) = false) (huv : (u == v) = false) (hyz : (y == z) = false) (hl : tooLong (x.length + (occurrences x y 0 x.length 1).length * z.length) = false) :
    Gives («str.replace» ⟨[.str x t, .str y u, .str z v, .int 1 tk], []⟩) (if ((occurrences x y 0 x.length 1).isEmpty || (y.length == 0 && z.length == 0)) = true then .val (.str x t) else .str (glued z (partsBetween x (occurrences x y 0 x.length 1) y.length))) := by
  show Gives ((do let i ← asSsize "str.replace" (.int 1 tk); pure (if i < 0 then x.length + 1 else i.toNat)) >>= fun limit => (if ((occurrences x y 0 x.length limit).isEmpty || (y.length == 0 && z.length == 0)) = true then (do rule "str.replace.nothing"; ret (.str x t)) else
          (do let same ← isSame (.str y u) (.str z v)
              if same = true then (do rule "str.replace.old-is-new"; ret (.str x t)) else
              if tooLong (x.length + (occurrences x y 0 x.length limit).length * z.length) = true then unsupported "str.replace:memory" else
              retStr (glued z (partsBetween x (occurrences x y 0 x.length limit) y.length))))) _
  rw [asSsize_int "str.replace" 1 tk rfl]
  show Gives (if ((occurrences x y 0 x.length 1).isEmpty || (y.length == 0 && z.length == 0)) = true then (do rule "str.replace.nothing"; ret (.str x t)) else
          (do let same ← isSame (.str y u) (.str z v)
              if same = true then (do rule "str.replace.old-is-new"; ret (.str x t)) else
              if tooLong (x.length + (occurrences x y 0 x.length 1).length * z.length) = true then unsupported "str.replace:memory" else
              retStr (glued z (partsBetween x (occurrences x y 0 x.length 1) y.length)))) _
  cases hc : ((occurrences x y 0 x.length 1).isEmpty || (y.length == 0 && z.length == 0))
  · rw [isSame_str_other y z u v h0 huv hyz, hl]
    exact .of_eq rfl
  · exact .rule (.of_eq rfl)
section
variable {prog : Program} {w : World} {A : Around} {E : Value → Shared → Prop} {s : Shared} {x y z : Str} {t u v tk : Tok} {Q : Value → Shared → Prop}
theorem call_replace1 (hu : u ≠ 0) (hv : v ≠ 0) (huv : u ≠ v) (hyz : (y == z) = false) (hb : x.length + (x.length + 1) * z.length ≤ 16777216)
    (hq : ∀ r t' k, RepOk x z r → Q (.str r t') { s with toks := k }) : wpAny (model prog w) A (call (.builtin "str.replace") [.str x t, .str y u, .str z v, .int 1 tk]) Q E s := by
  have h0 : (u == 0 || v == 0) = false := by simp [hu, hv]
  have huv' : (u == v) = false := by simp [huv]
  have h1 := StrLaws.occ_length_le x y 0 x.length 1
  have h2 : (occurrences x y 0 x.length 1).length * z.length ≤ 1 * z.length := Nat.mul_le_mul_right _ h1
  have h3 : 1 * z.length ≤ (x.length + 1) * z.length := Nat.mul_le_mul_right _ (by omega)
  have hl : tooLong (x.length + (occurrences x y 0 x.length 1).length * z.length) = false := by
    unfold tooLong sizeLine
    exact decide_eq_false (by omega)
  refine call_gives PySem.F.slot_str_replace (typeIs_str _ _ _) PySem.F.entry_str_replace (PySem.F.args_str_replace_4 _ _ _ _) (gives_replace1 x y z t u v tk h0 huv' hyz hl) ?_
  cases hc : ((occurrences x y 0 x.length 1).isEmpty || (y.length == 0 && z.length == 0))
  · simp only [Bool.false_eq_true, if_false]
    have hg : RepOk x z (glued z (partsBetween x (occurrences x y 0 x.length 1) y.length)) := by
      refine ⟨?_, fun c hc => ?_⟩
      · have hy : (glued y (partsBetween x (occurrences x y 0 x.length 1) y.length)).length = x.length := by rw [StrLaws.glued_between_self]
        rw [size_glued, length_partsBetween, Nat.add_sub_cancel] at hy
        rw [size_glued, length_partsBetween, Nat.add_sub_cancel]
        omega
      · rw [StrLaws.glued_eq_join, StrLaws.partsBetween_eq] at hc
        exact join_mem _ (parts_mem _ _) c hc
    refine ⟨?_, hq _ _ _ hg⟩
    have := hg.1
    show _ ≤ sizeLine
    rw [sizeLine_eq]
    omega
  · simp only [if_true]
    exact hq x t s.toks (rep_same x z)
end
section
variable {X : Cx} {pins : List (Addr × Obj)} {σ : L2.St} {H : Hp} {s : Shared} {i : Nat} {x : Str} {v : V} {pos : Pos} {Q : Value → Shared → Prop}
theorem ld_var (I : Inv X pins σ H s) (hN : X.N[i]? = some x) (hv : Vis X.env.scope x) (e : σ[i]? = some (some v)) (h : ∀ u, RelV v u → Q u s) (hd : (x == ("__debug__" : Str)) = false := by decide) (hcd : (x == ("__classdict__" : Str)) = false := by decide) :
    wpAny (model X.prog X.w) X.A (eval (.Name x pos) X.env) Q X.xe s := by
  obtain ⟨m, hn, hl⟩ := I.loc
  obtain ⟨u, r, l⟩ := hl i x v hN e hv
  rcases l with ⟨hk, hm⟩ | ⟨hk, c, hc, hcell⟩
  · exact wpAny_Name (wpAny_loadName_local I.ok.kind hk hn hm (h u r)) hd
  · rcases hk with hk | hk
    · exact wpAny_Name (wpAny_loadName_cell I.ok.kind hk hc hcell (h u r)) hd
    · exact wpAny_Name (wpAny_loadName_free I.ok.kind hk hc hcell (h u r) hcd) hd
end
section
variable {X : Cx} {es : List Expr} {tr : TAd} {i : Nat} {x c1 y z : Str} {j1 j2 j3 j4 : Nat} {p1 p2 p3 p4 p5 p6 p7 apos cpos : Pos}
def daAddRep (i : Nat) (c1 z : Str) (tr : TAd) : TAd := fun δ m Q => ∃ s : Str, δ[i]? = some (some (.d (.str s))) ∧ s.length ≤ 1000 ∧ ∀ r, RepOk s z r → tr δ m fun ds m1 => Q (.d (.str (c1 ++ s)) :: .d (.str r) :: ds) m1
theorem da_addRep (hN : X.N[i]? = some x) (hv : Vis X.env.scope x) (hc1 : (c1.length == 0) = false) (hc2 : c1.length ≤ 1000) (hyz : (y == z) = false) (hz : z.length ≤ 14) (hr : DA X es tr)
    (hs1 : starEach (.BinOp (.Constant (.str c1) j1 p1) .Add (.Name x p2) p3 :: .Call (.Attribute (.Name x p4) "replace" apos) [.Constant (.str y) j2 p5, .Constant (.str z) j3 p6, .Constant (.int 1) j4 p7] [] cpos :: es) X.env = (false, eval (.BinOp (.Constant (.str c1) j1 p1) .Add (.Name x p2) p3) X.env) :: starEach (.Call (.Attribute (.Name x p4) "replace" apos) [.Constant (.str y) j2 p5, .Constant (.str z) j3 p6, .Constant (.int 1) j4 p7] [] cpos :: es) X.env := by rfl)
    (hs2 : starEach (.Call (.Attribute (.Name x p4) "replace" apos) [.Constant (.str y) j2 p5, .Constant (.str z) j3 p6, .Constant (.int 1) j4 p7] [] cpos :: es) X.env = (false, eval (.Call (.Attribute (.Name x p4) "replace" apos) [.Constant (.str y) j2 p5, .Constant (.str z) j3 p6, .Constant (.int 1) j4 p7] [] cpos) X.env) :: starEach es X.env := by rfl)
    (hbase : attributeBase (.Name x p4) "replace" X.env (eval (.Name x p4) X.env) = eval (.Name x p4) X.env := by rfl)
    (hfew : ((backTo cpos (starEach [.Constant (.str y) j2 p5, .Constant (.str z) j3 p6, .Constant (.int 1) j4 p7] X.env)).all (fun x => !x.1) && (backToKw cpos (keywordEach [] X.env)).all (fun x => x.1.isSome)
      && decide (([.Constant (.str y) j2 p5, .Constant (.str z) j3 p6, .Constant (.int 1) j4 p7] : List Expr).length + ([] : List Keyword).length + (if ([] : List Keyword).isEmpty then 0 else 1) < 30)) = true := by rfl)
    (hline : (apos.endLine == cpos.line) = true := by rfl)
    (hd : (x == ("__debug__" : Str)) = false := by decide) (hcd : (x == ("__classdict__" : Str)) = false := by decide) :
    DA X (.BinOp (.Constant (.str c1) j1 p1) .Add (.Name x p2) p3 :: .Call (.Attribute (.Name x p4) "replace" apos) [.Constant (.str y) j2 p5, .Constant (.str z) j3 p6, .Constant (.int 1) j4 p7] [] cpos :: es) (daAddRep i c1 z tr) := by
  refine ⟨fun δ m Q Q' hq ⟨s, e1, e2, k⟩ => ⟨s, e1, e2, fun r hr' => hr.mono δ m _ _ (fun ds m1 q => hq _ _ q) (k r hr')⟩, fun pos pins s σ H Q I ⟨J, δ, m, ok, rl, w, e1, e2, k⟩ => ?_⟩
  obtain ⟨v0, hv0, iv0⟩ : ∃ v0, σ[i]? = some (some v0) ∧ Is X.K J v0 (.d (.str w)) := by
    obtain ⟨y0, h1, h2⟩ := rl.get e1
    exact ⟨y0, h1, h2⟩
  have ev0 := iv0.str
  subst ev0
  have hsl := sizeLine_eq
  rw [hs1]
  show wpAny _ _ (spliced ((false, eval (.BinOp (.Constant (.str c1) j1 p1) .Add (.Name x p2) p3) X.env) :: backTo pos (starEach (.Call (.Attribute (.Name x p4) "replace" apos) [.Constant (.str y) j2 p5, .Constant (.str z) j3 p6, .Constant (.int 1) j4 p7] [] cpos :: es) X.env))) _ _ s
  -- the second item, at a state whose tokens are begun
  have second : ∀ (k0 : Nat) (tk1 : Tok), k0 ≠ 0 → wpAny (model X.prog X.w) X.A (spliced (backTo pos (starEach (.Call (.Attribute (.Name x p4) "replace" apos) [.Constant (.str y) j2 p5, .Constant (.str z) j3 p6, .Constant (.int 1) j4 p7] [] cpos :: es) X.env)))
      (fun us s2 => ∃ vs H2, Inv X pins σ H2 s2 ∧ Vals vs (.str (c1 ++ w) tk1 :: us) ∧ Q vs H2) X.xe { s with toks := k0 } := by
    intro k0 tk1 hk0
    have I1 : Inv X pins σ H { s with toks := k0 } := I.tok k0
    rw [hs2]
    show wpAny _ _ (spliced ((false, eval (.Call (.Attribute (.Name x p4) "replace" apos) [.Constant (.str y) j2 p5, .Constant (.str z) j3 p6, .Constant (.int 1) j4 p7] [] cpos) X.env) :: backTo pos (starEach es X.env))) _ _ _
    refine Calls.spliced_cons ?_
    refine wpAny_Call_method_late hbase hfew hline rfl (ld_var I1 hN hv hv0 (fun u ru => ?_) hd hcd)
    obtain ⟨tw, rfl⟩ := ru
    refine ⟨"str", "str.replace", PySem.F.plainAttrs_str, PySem.F.slot_str_replace, PySem.F.type_str_replace, typeIs_str _ _ _, (fun b e => nomatch e), ?_⟩
    refine Calls.callWith_builtin (by rfl) (Calls.evalArgs_plain ?_)
    show wpAny _ _ (spliced [(false, eval (.Constant (.str y) j2 p5) X.env), (false, eval (.Constant (.str z) j3 p6) X.env), (false, eval (.Constant (.int 1) j4 p7) X.env)]) _ _ _
    refine Calls.spliced_cons (Calls.Constant_str (Calls.spliced_cons (Calls.Constant_str (Calls.spliced_cons (wpAny_Constant_int (Calls.spliced_nil ?_))))))
    have hm1 : (w.length + 1) * z.length ≤ 1001 * 14 := Nat.mul_le_mul (by omega) hz
    refine call_replace1 (u := k0) (v := k0 + 1) hk0 (Nat.succ_ne_zero _) (Nat.ne_of_lt (Nat.lt_succ_self _)) hyz (by omega) fun r t' k' hr' => ?_
    refine thn (hr.pa pos pins { s with toks := k' } σ H (fun xs H3 => Q (.str (c1 ++ w) :: .str r :: xs) H3) (I.tok k') ⟨J, δ, m, ok, rl, hr.mono δ m _ _ (fun ds m1 q1 vs H' I' s' o' i' => q1 _ H' I' s' o' (.cons (isS _) (.cons (isS _) i'))) (k r hr')⟩) fun us s3 ⟨xs, H3, I3, r3, q3⟩ => ?_
    exact ⟨.str (c1 ++ w) :: .str r :: xs, H3, I3, .cons ⟨_, rfl⟩ (.cons ⟨_, rfl⟩ r3), q3⟩
  refine Calls.spliced_cons (wpAny_BinOp (Calls.Constant_str (ld_var (I.tok _) hN hv hv0 (fun u ru => ?_) hd hcd)))
  obtain ⟨tw, rfl⟩ := ru
  refine PySem.P.add_str ?_
  rw [hc1, if_neg Bool.false_ne_true]
  by_cases hw : (w.length == 0) = true
  · rw [if_pos hw]
    have ew : c1 ++ w = c1 := str_ext (by
      have h0 : w.cps.toList = [] := by
        have : w.cps.toList.length = 0 := by simpa [Str.length] using hw
        exact List.eq_nil_of_length_eq_zero this
      rw [cps_app, h0, List.append_nil])
    have S := second (s.toks + 1) s.toks (Nat.succ_ne_zero _)
    rw [ew] at S
    exact S
  · rw [if_neg hw]
    refine ⟨?_, second (s.toks + 1 + 1) (s.toks + 1) (Nat.succ_ne_zero _)⟩
    rw [PySem.strLen_append, hsl]
    omega
end
end DL
set_option maxHeartbeats 1000000
namespace DL
open PySem PySem.Spec PyProof.Rows L2
open PySem.W (InstAt Looks looks_findIn looks_find looks_mroIn looks_hook handedOut_of)
def tupObj (vs : List Value) : Obj := { cls := .type "tuple", data := .seq vs.toArray }
section
variable {prog : Program} {w : World} {A : Around} {E : Value → Shared → Prop} {h : Heap} {g : Array GenState} {d : Drawn} {t : Nat} {os : OsState}
variable {nm q : Str} {C N f : Addr} {bs bm bmB : List Value} {hdct : Bool} {sn : List Str} {sub : List Value} {ab : Bool} {col : Option Bool} {dd : Option Addr} {k0 k1 k2 k3 k5 : Option Value} {B newId initId : String}
theorem type_call_plnA (F : ExcBaseFacts B newId initId bmB) (T : OwnTail h bmB bm) {mN : Str → Option Value} {rest : List Value} {Q : Fin → Shared → Prop}
    (hC : h.get? C = some (excClassObj nm q C N bs bm hdct sn sub ab col dd k0 k1 k2 k3 k5 newId)) (hn : h.Ns N mN) (hni : mN "__init__" = none)
    (hq : ∀ (h' : Heap), (∀ b o, h.get? b = some o → h'.get? b = some o) → h'.get? (h.objs.size + 1) = some { cls := .ref C, data := .fields #[.ref (h.objs.size + 2), .none, .none, .none, .bool false, .none] } → h'.get? (h.objs.size + 2) = some (tupObj rest) → Q (.done (.ret (.ref (h.objs.size + 1)))) ⟨h', g, d, t, os⟩) (hrest : rest.length ≤ sizeLine := by size_fits) :
    wpAny (model prog w) A (Builtin.«type.__call__» ⟨.ref C :: rest, []⟩) Q E ⟨h, g, d, t, os⟩ := by
  repeat (first | with_reducible refine wpAny_loadPart_at hC ?_ | with_reducible refine wpAny_madeBy_exc hC ?_ | wp_step)
  refine codeAny_call_builtin_code (Code.quiet_builtin _ F.quiet) (wpAny_check_new_subT F T hC ?_)
  refine codeAny_exc_new_subT F T hC ?_ hrest
  show wpAny _ _ _ _ _ _
  have keep : ∀ b o, h.get? b = some o → (madeHp h C rest).get? b = some o := fun b o e => Heap.get?_push_of_some _ (Heap.get?_push_of_some _ e)
  have hC₁ := keep _ _ hC
  have hn₁ : (madeHp h C rest).Ns N mN := let ⟨o, es, ep, e, r⟩ := hn; ⟨o, es, ep, keep _ _ e, r⟩
  have hget : (madeHp h C rest).get? (h.objs.size + 1) = some { cls := .ref C, data := .fields #[.ref h.objs.size, .none, .none, .none, .bool false, .none] } := by heap_get
  have hcC : (Value.ref C :: bm).contains (.ref C) = true := by simp
  have T₁ := T.keeps (h' := madeHp h C rest) keep
  have hsz : (madeHp h C rest).objs.size = h.objs.size + 2 := by show (Heap.push _ _).objs.size = _; rw [Heap.size_push, Heap.size_push]
  unfold isInstance
  repeat (first | with_reducible refine wpAny_loadPart_at hget ?_ | (with_reducible refine wpAny_isSubtype_exc hC₁ ?_; rw [hcC]) | wp_step)
  show wpAny _ _ (typeLookup (.ref C) _) _ _ _
  refine wpAny_typeLookup_tail hC₁ hn₁ T₁ F.mroIs F.init.lookup ?_
  rw [hni]
  refine wpAny_holding (wpAny_bind (wpAny_of_eq (F.init.bind _) ?_))
  refine wpAny_bind (wpAny_call (codeAny_call_builtin F.init.plain F.initEntry (wpAny_check_init_subT F T₁ hC₁ hget rfl ?_)))
  wp_walk
  refine hq _ (fun b o hb => ?_) ?_ ?_
  · rw [Heap.get?_update_other _ _ (Nat.ne_of_gt (Nat.lt_succ_of_lt (Heap.lt_size hb)))]
    exact Heap.get?_push_of_some _ (keep b o hb)
  · rw [Heap.get?_update_self _ (Heap.get?_push_of_some _ hget) rfl]
    simp only [Heap.size_push]
    rfl
  · rw [Heap.get?_update_other _ _ (show ¬ ((h.objs.size + 1 : Nat) = h.objs.size + 2) by omega)]
    have e1 := Heap.get?_push_size (madeHp h C rest) (o := tupObj rest) rfl
    rw [hsz] at e1
    exact e1
theorem call_plnA (F : ExcBaseFacts B newId initId bmB) (T : OwnTail h bmB bm) {mN : Str → Option Value} {rest : List Value} {Q : Value → Shared → Prop}
    (hC : h.get? C = some (excClassObj nm q C N bs bm hdct sn sub ab col dd k0 k1 k2 k3 k5 newId)) (hn : h.Ns N mN) (hni : mN "__init__" = none)
    (hq : ∀ (h' : Heap), (∀ b o, h.get? b = some o → h'.get? b = some o) → h'.get? (h.objs.size + 1) = some { cls := .ref C, data := .fields #[.ref (h.objs.size + 2), .none, .none, .none, .bool false, .none] } → h'.get? (h.objs.size + 2) = some (tupObj rest) → Q (.ref (h.objs.size + 1)) ⟨h', g, d, t, os⟩) (hrest : rest.length ≤ sizeLine := by size_fits) :
    wpAny (model prog w) A (call (.ref C) rest) Q E ⟨h, g, d, t, os⟩ := by
  have f1 := tc_lookup
  have f2 := tc_bind (.ref C)
  have hT : (⟨h, g, d, t, os⟩ : Shared).TypeIs (.ref C) "type" := ⟨_, hC, rfl⟩
  refine wpAny_call (codeAny_of_tree ?_)
  show wpAny _ _ (callAny (.ref C) _) _ _ _
  repeat (any_goals (first | assumption | with_reducible refine wpAny_loadPart_at hC ?_ | wp_step))
  refine ⟨rfl, ?_⟩
  refine codeAny_call_builtin_at (Code.quiet_builtin _ (by decide +kernel)) entry_typeCall (wpAny_check_type_call_sub hC ?_)
  exact type_call_plnA (hrest := hrest) F T hC hn hni hq
end
def PlnSR (C : Addr) (z : Str) (p : Addr) (I : Hp) (o : HO) : Prop := ∃ ox a0 vs tk, o = .ext (At p ox) ∧ ox.cls = .ref C ∧ PySem.W.notCls ox = true ∧ ox.dict = none ∧ ox.data = .fields vs ∧ vs[0]? = some (.ref a0) ∧ I a0 = some (.ext (At a0 (tupObj [.str z tk])))
def mPlnS (C : Addr) (z : Str) (p : Addr) : MO := .gen (PlnSR C z p) fun _ _ _ e ⟨ox, a0, vs, tk, h1, h2, h3, h4, h5, h6, h7⟩ => ⟨ox, a0, vs, tk, h1, h2, h3, h4, h5, h6, e _ _ h7⟩
theorem mPlnS_inv {K : PySem.W.Frag} {I : Hp} {C p : Addr} {z : Str} {o : HO} (h : MRel K I o (mPlnS C z p)) : PlnSR C z p I o := by cases o <;> exact h
def ExcM (C a : Addr) (o : Option MO) : Prop := o = some (mPln C a) ∨ (∃ z, o = some (mPlnS C z a)) ∨ ∃ n, o = some (mExc C n a)
section
variable {X : Cx} {pins : List (Addr × Obj)} {σ : L2.St} {H : Hp} {s : Shared} {C p : Addr} {z : Str}
theorem plnS_inst {I0 : Hp} {m : M} (I : Inv X pins σ H s) (ok : Ok X.K H I0 m) (h : m p = some (mPlnS C z p)) :
    ∃ ox vs a0 tk, PySem.W.InstAt s.heap p ox C none ∧ ox.data = .fields vs ∧ vs[0]? = some (.ref a0) ∧ s.heap.get? p = some ox ∧ s.heap.get? a0 = some (tupObj [.str z tk]) := by
  obtain ⟨o, h1, h2⟩ := ok.mu p _ h
  obtain ⟨ox, a0, vs, tk, rfl, e1, e2, e3, e4, e5, e6⟩ := mPlnS_inv h2
  have a1 : s.heap.get? p = some ox := (show ObjOk X.prog X.w H s.heap p (.ext (At p ox)) from I.hok p _ h1).1
  have a2 : s.heap.get? a0 = some (tupObj [.str z tk]) := (show ObjOk X.prog X.w H s.heap a0 (.ext (At a0 _)) from I.hok a0 _ (ok.im _ _ e6)).1
  exact ⟨ox, vs, a0, tk, ⟨a1, e1, e2, by rw [e3]; trivial⟩, e4, e5, a1, a2⟩
theorem excM_inst {I0 : Hp} {m : M} (I : Inv X pins σ H s) (ok : Ok X.K H I0 m) (h : ExcM C p (m p)) : ∃ ox od, PySem.W.InstAt s.heap p ox C od := by
  rcases h with h | ⟨z, h⟩ | ⟨n, h⟩
  · obtain ⟨ox, i⟩ := pln_inst I ok h; exact ⟨ox, none, i⟩
  · obtain ⟨ox, _, _, _, i, _⟩ := plnS_inst I ok h; exact ⟨ox, none, i⟩
  · obtain ⟨ox, od, i, _⟩ := exc_inst (o := .own 0) I ok h; exact ⟨ox, some od, i⟩
end
section
variable {X : Cx} {e : Expr} {te : TD} {pos p p2 cpos : Pos} {tb : List (Addr × Bool)}
def rIsX (tb : List (Addr × Bool)) (K : PySem.W.Frag) (c : V) : List V → Hp → VK → Prop := fun vs H Q => ∃ a C b I m, vs = [.ref a, c] ∧ Ok K H I m ∧ ExcM C a (m a) ∧ (C, b) ∈ tb ∧ Q (.bl b) H
theorem cr_isX {c : V} {u : Value} (hu : ∀ u', RelV c u' → u' = u) (k : ∀ C b, (C, b) ∈ tb → ExcK X.K C ∧ PySem.W.kitOne X.K (.ref C) u = some b) : CallR X (.builtin "isinstance") (rIsX tb X.K c) := by
  intro pins s σ H vs us Q I r h
  obtain ⟨a, C, b, J, m, rfl, ok, hm, hb, q⟩ := h
  cases r with
  | cons r1 rr =>
    cases rr with
    | cons r2 rr =>
      cases rr
      cases (show _ = Value.ref a from r1)
      rw [hu _ r2]
      obtain ⟨ox, od, ia⟩ := excM_inst I ok hm
      obtain ⟨E, k⟩ := k C b hb
      exact PySem.W.kia_one (kitx_excN E) I.kIn ia k (fun z => nomatch z) fun tk => ⟨.bl b, H, I.tok tk, rfl, q⟩
def dIsX (tb : List (Addr × Bool)) (te : TD) : TD := fun δ m Q => te δ m fun x m1 => ∃ a C b, x = .r a ∧ ExcM C a (m1 a) ∧ (C, b) ∈ tb ∧ Q (.d (.bool b)) m1
theorem de_isX0 {c : V} {x : Str} {u : Value} (hu : ∀ u', RelV c u' → u' = u) (k : ∀ C b, (C, b) ∈ tb → ExcK X.K C ∧ PySem.W.kitOne X.K (.ref C) u = some b) (hg : Gl X "isinstance") (hm : X.mg "isinstance" = none) (hc : PE X (.Name x p2) (tC c)) (he : DE X e te)
    (hs : starEach [e, .Name x p2] X.env = (false, eval e X.env) :: starEach [.Name x p2] X.env := by rfl) (hs2 : starEach [.Name x p2] X.env = (false, eval (.Name x p2) X.env) :: starEach [] X.env := by rfl) (hpl : (backTo pos (starEach [.Name x p2] X.env)).any (·.1) = false := by rfl) :
    DE X (.Call (.Name "isinstance" p) [e, .Name x p2] [] pos) (dIsX tb te) := by
  refine de_of (pe_callB (cr_isX hu k) hg hm boot_isi (pa_cons he.pe (pa_cons hc pa_nil hs2) hs) (he := hs) (hpl := hpl)) (fun δ m Q Q' hq q => he.mono δ m _ _ (fun x m1 ⟨a, C, b, e1, e2, e3, z⟩ => ⟨a, C, b, e1, e2, e3, hq _ _ z⟩) q) fun σ H I δ m Q ok rl q => ?_
  refine ⟨I, δ, m, ok, rl, he.mono δ m _ _ (fun x m1 ⟨a, C, b, e1, e2, e3, z⟩ v1 H1 I1 s1 o1 i1 => ?_) q⟩
  subst e1
  cases (show v1 = V.ref a from i1)
  exact ⟨a, C, b, I1, m1, rfl, o1, e2, e3, qd_same o1 s1 (isB _) z⟩
theorem de_isX {x : Str} {D : Addr} (k : ∀ C b, (C, b) ∈ tb → ExcK X.K C ∧ PySem.W.kitOne X.K (.ref C) (.ref D) = some b) (hg : Gl X "isinstance") (hm : X.mg "isinstance" = none) (hg2 : Gl X x) (hm2 : X.mg x = some (.ref D)) (he : DE X e te)
    (hs : starEach [e, .Name x p2] X.env = (false, eval e X.env) :: starEach [.Name x p2] X.env := by rfl) (hs2 : starEach [.Name x p2] X.env = (false, eval (.Name x p2) X.env) :: starEach [] X.env := by rfl) (hpl : (backTo pos (starEach [.Name x p2] X.env)).any (·.1) = false := by rfl)
    (hdb : (x == ("__debug__" : Str)) = false := by decide) : DE X (.Call (.Name "isinstance" p) [e, .Name x p2] [] pos) (dIsX tb te) :=
  de_isX0 (c := .ref D) (fun u' r => r) k hg hm (pe_glob hg2 hm2 rfl hdb) he hs hs2 hpl
theorem de_isXT {x : Str} {T : String} (k : ∀ C b, (C, b) ∈ tb → ExcK X.K C ∧ PySem.W.kitOne X.K (.ref C) (.type T) = some b) (hg : Gl X "isinstance") (hm : X.mg "isinstance" = none) (hg2 : Gl X x) (hm2 : X.mg x = none) (hv : bootBuiltins x = some (.type T)) (he : DE X e te)
    (hs : starEach [e, .Name x p2] X.env = (false, eval e X.env) :: starEach [.Name x p2] X.env := by rfl) (hs2 : starEach [.Name x p2] X.env = (false, eval (.Name x p2) X.env) :: starEach [] X.env := by rfl) (hpl : (backTo pos (starEach [.Name x p2] X.env)).any (·.1) = false := by rfl)
    (hn : x ≠ "__name__" := by decide) (hdb : (x == ("__debug__" : Str)) = false := by decide) : DE X (.Call (.Name "isinstance" p) [e, .Name x p2] [] pos) (dIsX tb te) :=
  de_isX0 (c := .ty T) (fun u' r => r) k hg hm (pe_bltn (v := .ty T) hg2 hm2 hv rfl hn hdb) he hs hs2 hpl
theorem isX4 {K : PySem.W.Frag} {u : Value} {c1 c2 c3 c4 : Addr} {b1 b2 b3 b4 : Bool} (E1 : ExcK K c1) (E2 : ExcK K c2) (E3 : ExcK K c3) (E4 : ExcK K c4)
    (k1 : PySem.W.kitOne K (.ref c1) u = some b1) (k2 : PySem.W.kitOne K (.ref c2) u = some b2) (k3 : PySem.W.kitOne K (.ref c3) u = some b3) (k4 : PySem.W.kitOne K (.ref c4) u = some b4) :
    ∀ C b, (C, b) ∈ [(c1, b1), (c2, b2), (c3, b3), (c4, b4)] → ExcK K C ∧ PySem.W.kitOne K (.ref C) u = some b := by
  intro C b h
  simp only [List.mem_cons, Prod.mk.injEq, List.not_mem_nil, or_false] at h
  rcases h with ⟨rfl, rfl⟩ | ⟨rfl, rfl⟩ | ⟨rfl, rfl⟩ | ⟨rfl, rfl⟩
  · exact ⟨E1, k1⟩
  · exact ⟨E2, k2⟩
  · exact ⟨E3, k3⟩
  · exact ⟨E4, k4⟩
def dMadeP (C : Addr) (te : TD) : TD := fun δ m Q => te δ m fun y m1 => ∃ z, y = .d (.str z) ∧ ∀ p, m1 p = none → Q (.r p) (setM m1 p (mPlnS C z p))
theorem de_madeP {C : Addr} {x : Str} (Pl : Pln X.K C) (hg : Gl X x) (hm : X.mg x = some (.ref C)) (ha : DE X e te)
    (hdb : (x == ("__debug__" : Str)) = false := by decide) (he : starEach [e] X.env = [(false, eval e X.env)] := by rfl) : DE X (.Call (.Name x p) [e] [] cpos) (dMadeP C te) := by
  refine ⟨fun δ m Q Q' hq q => ha.mono δ m _ _ (fun y m1 ⟨z, e1, k⟩ => ⟨z, e1, fun p hp => hq _ _ (k p hp)⟩) q, fun pins s σ H Q I ⟨J, δ, m, ok, rl, q⟩ => ?_⟩
  obtain ⟨nm, q0, N, bs, hdct, sn, sub, ab, col, dd, k0, k1, k2, k3, k5, L, c0, odl, cd', sl', hC, hcN, hni, hL, hLN, hLi⟩ := Pl.cls
  refine wpAny_Call_Name_kw (ld_glob I hg hm ?_ hdb)
  refine PySem.W.callWith_K (h₀ := X.base) I.ok.mod.kin Pl.kp ?_ he rfl
  rw [he]
  show wpAny _ _ (spliced [(false, eval e X.env)]) _ _ s
  refine Calls.spliced_cons (thn (ha.pe pins s σ H (fun v H1 => ∃ z J1 m1, v = .str z ∧ Ok X.K H1 J1 m1 ∧ ∀ p, m1 p = none → ∀ v' H' I', Same J1 I' → Ok X.K H' I' (setM m1 p (mPlnS C z p)) → Is X.K I' v' (.r p) → Q v' H') I ⟨J, δ, m, ok, rl, ha.mono δ m _ _ (fun y m1 ⟨z, e1, k⟩ v H' J' s' o' i' => ?_) q⟩) fun u s1 ⟨v, H1, I1, rv, z, J1, m1, ev, o1, k⟩ => Calls.spliced_nil ⟨I1.kIn, ?_⟩)
  · subst ev
    obtain ⟨tk, rfl⟩ := rv
    have XK : X.K.In s1.heap := I1.kIn
    obtain ⟨h, gg, d, t, os⟩ := s1
    have tail : OwnTail h veTail (.ref L :: veTail) := .own (XK _ _ hL) (.of_isNs (PySem.W.isNs_of_in XK hLN)) (PySem.W.nsMap_none_of_in XK hLN hLi) .base
    have hcN' : h.Ns N (h.nsMap N) := .of_isNs (PySem.W.isNs_of_in XK hcN)
    refine call_plnA (F := PySem.F.excBase_ValueError) tail (XK _ _ hC) hcN' (PySem.W.nsMap_none_of_in XK hcN hni) (fun h' kp he' ht' => ?_) (by show 1 ≤ sizeLine; decide)
    have I2 : Inv X pins σ H1 ⟨h', gg, d, t, os⟩ := I1.kept (t' := t) kp
    have l1 : h.objs.size ≤ h.objs.size + 1 := Nat.le_succ _
    have l2 : h.objs.size ≤ h.objs.size + 2 := Nat.le_add_right _ _
    have f2 : FpOk X pins H1 (h.objs.size + 2) := I1.fpOk l2 (I1.hok.fresh l2)
    have I3 : Inv X pins σ (upd H1 (h.objs.size + 2) (.ext (At (h.objs.size + 2) (tupObj [.str z tk])))) ⟨h', gg, d, t, os⟩ := Inv.track I2 f2 (at_ok ht')
    have o3 := o1.new (o := .ext (At (h.objs.size + 2) (tupObj [.str z tk]))) f2.1
    have n1 : upd H1 (h.objs.size + 2) (.ext (At (h.objs.size + 2) (tupObj [.str z tk]))) (h.objs.size + 1) = none := by rw [upd_ne (show ¬ ((h.objs.size + 1 : Nat) = h.objs.size + 2) by omega)]; exact I1.hok.fresh l1
    have f1 : FpOk X pins (upd H1 (h.objs.size + 2) (.ext (At (h.objs.size + 2) (tupObj [.str z tk])))) (h.objs.size + 1) := I1.fpOk l1 n1
    have I4 := Inv.track I3 f1 (o := .ext (At (h.objs.size + 1) _)) (at_ok he')
    have o4 := o3.newM (o := .ext (At (h.objs.size + 1) { cls := .ref C, data := .fields #[.ref (h.objs.size + 2), .none, .none, .none, .bool false, .none] })) (q := mPlnS C z (h.objs.size + 1)) f1.1 ⟨_, h.objs.size + 2, _, tk, rfl, rfl, rfl, rfl, rfl, rfl, upd_same⟩
    exact ⟨.ref (h.objs.size + 1), _, I4, rfl, k _ (o1.freeM (I1.hok.fresh l1)) _ _ _ (same_new (H := H1) (o1.free f2.1)) o4 rfl⟩
  · subst e1
    exact ⟨z, J', m1, i'.str, o', fun p hp v' H2 I2 sm o2 i2 => k p hp v' H2 I2 (s'.trans sm) o2 i2⟩
def dMadeN (C : Addr) (te : TD) : TD := fun δ m Q => te δ m fun y m1 => ∃ n, y = .d (.int n) ∧ n.natAbs.log2 < 1920 ∧ ∀ p, m1 p = none → Q (.r p) (setM m1 p (mExc C n p))
theorem de_madeN {C : Addr} {x : Str} (Nu : Num X.prog X.w X.K X.mg X.base C) (hr : Room 1 X.A) (hg : Gl X x) (hm : X.mg x = some (.ref C)) (ha : DE X e te)
    (hdb : (x == ("__debug__" : Str)) = false := by decide) (he : starEach [e] X.env = [(false, eval e X.env)] := by rfl) : DE X (.Call (.Name x p) [e] [] cpos) (dMadeN C te) := by
  refine ⟨fun δ m Q Q' hq q => ha.mono δ m _ _ (fun y m1 ⟨n, e1, e2, k⟩ => ⟨n, e1, e2, fun p hp => hq _ _ (k p hp)⟩) q, fun pins s σ H Q I ⟨J, δ, m, ok, rl, q⟩ => ?_⟩
  refine wpAny_Call_Name_kw (ld_glob I hg hm ?_ hdb)
  refine PySem.W.callWith_K (h₀ := X.base) I.ok.mod.kin Nu.kp ?_ he rfl
  rw [he]
  show wpAny _ _ (spliced [(false, eval e X.env)]) _ _ s
  refine Calls.spliced_cons (thn (ha.pe pins s σ H (fun v H1 => ∃ n J1 m1, v = .int n ∧ n.natAbs.log2 < 1920 ∧ Ok X.K H1 J1 m1 ∧ ∀ p, m1 p = none → ∀ v' H' I', Same J1 I' → Ok X.K H' I' (setM m1 p (mExc C n p)) → Is X.K I' v' (.r p) → Q v' H') I ⟨J, δ, m, ok, rl, ha.mono δ m _ _ (fun y m1 ⟨n, e1, e2, k⟩ v H' J' s' o' i' => ?_) q⟩) fun u s1 ⟨v, H1, I1, rv, n, J1, m1, ev, hn, o1, k⟩ => Calls.spliced_nil ⟨I1.kIn, ?_⟩)
  · subst ev
    obtain ⟨tk, rfl⟩ := rv
    obtain ⟨h, gg, d, t, os⟩ := s1
    refine Nu.make X.A h gg d t os n tk _ _ hr I1.ok.mod I1.bk hn fun h' tk' dx a0 kp he' hns hdx => ?_
    obtain ⟨od, es, ep, hod, hdd, hsk, huk, hf⟩ := id hns
    have I2 : Inv X pins σ H1 ⟨h', gg, d, tk', os⟩ := I1.kept (t' := tk') kp
    have l1 : h.objs.size ≤ h.objs.size + 1 := Nat.le_succ _
    have l2 : h.objs.size ≤ dx := Nat.le_of_lt (Nat.lt_of_succ_lt hdx)
    have f2 : FpOk X pins H1 dx := I1.fpOk l2 (I1.hok.fresh l2)
    have I3 : Inv X pins σ (upd H1 dx (.ext (At dx od))) ⟨h', gg, d, tk', os⟩ := Inv.track I2 f2 (at_ok hod)
    have o3 := o1.new (o := .ext (At dx od)) f2.1
    have n1 : upd H1 dx (.ext (At dx od)) (h.objs.size + 1) = none := by rw [upd_ne (Nat.ne_of_lt hdx)]; exact I1.hok.fresh l1
    have f1 : FpOk X pins (upd H1 dx (.ext (At dx od))) (h.objs.size + 1) := I1.fpOk l1 n1
    have I4 := Inv.track I3 f1 (o := .ext (At (h.objs.size + 1) _)) (at_ok he')
    have o4 := o3.newM (o := .ext (At (h.objs.size + 1) (excObjD C dx #[.ref a0, .none, .none, .none, .bool false, .none]))) (q := mExc C n (h.objs.size + 1)) f1.1 ⟨_, dx, od, rfl, rfl, rfl, rfl, upd_same, ⟨es, ep, tk, hdd, hsk, huk, hf⟩⟩
    exact ⟨.ref (h.objs.size + 1), _, I4, rfl, k _ (o1.freeM (I1.hok.fresh l1)) _ _ _ (same_new (H := H1) (o1.free f2.1)) o4 rfl⟩
  · subst e1
    exact ⟨n, J', m1, i'.int, e2, o', fun p hp v' H2 I2 sm o2 i2 => k p hp v' H2 I2 (s'.trans sm) o2 i2⟩
end
section
variable {prog : Program} {w : World} {A : Around} {E : Value → Shared → Prop} {s : Shared} {K : PySem.W.Frag} {x C t0 : Addr} {ox : Obj} {od : Option Obj} {vs : Array Value} {z : Str} {tk : Tok}
theorem bexcArgs_own {M : Model} {Q : Value × List Value → Shared → Prop} (ho : s.heap.get? x = some ox) (hd : ox.data = .fields vs) (h0 : vs[0]? = some (.ref t0)) (ht : s.heap.get? t0 = some (tupObj [.str z tk])) (hq : Q (.ref t0, [.str z tk]) s) :
    wpAny M A (Builtin.BaseException.bexcArgs (.ref x)) Q E s := by
  unfold Builtin.BaseException.bexcArgs
  exact wpAny_bind (wpAny_field ho hd h0 (wpAny_bind (wpAny_seqItems ht rfl (wpAny_pure hq))))
theorem exc_str_check {Q : Unit → Shared → Prop} (X : K.In s.heap) (I : InstAt s.heap x ox C od) (B : ExcK K C) (hq : Q () s) : wpAny (model prog w) A (checkBuiltinCall "BaseException.__str__" ⟨[.ref x], []⟩) Q E s := by
  have hk : builtinKind "BaseException.__str__" = some .slot := by decide +kernel
  have hsplit : splitId "BaseException.__str__" = some ("BaseException", "__str__") := by decide +kernel
  have ha := F.args_bexc_str (.ref x)
  have L0 := I.type (M := model prog w)
  have L1 := looks_mroIn (M := model prog w) X B.b
  obtain ⟨hp, g, d, t, os⟩ := s
  simp only [checkBuiltinCall, hk, hsplit]
  refine wpAny_bind ?_
  · unfold isInstance
    refine wpAny_bind (L0.at (L1.at ?_))
    repeat (first | assumption | wp_step)
theorem callSpecial_own {Q : Option Value → Shared → Prop} (X : K.In s.heap) (I : InstAt s.heap x ox C od) (B : ExcK K C) (hS : PySem.W.findIn K (.ref C) "__str__" = some (some (.builtin "BaseException.__str__")))
    (ho : s.heap.get? x = some ox) (hd : ox.data = .fields vs) (h0 : vs[0]? = some (.ref t0)) (ht : s.heap.get? t0 = some (tupObj [.str z tk])) (hq : Q (some (.str z tk)) s) : wpAny (model prog w) A (callSpecial? (.ref x) "__str__") Q E s := by
  have L0 := I.type (M := model prog w)
  have L1 := looks_findIn (M := model prog w) X hS
  have f3 := PySem.F.excStr_ValueError.str.bind (.ref x)
  simp only [callSpecial?, specialOf]
  refine wpAny_bind (wpAny_bind (L0.at (L1.at ?_)))
  refine wpAny_holding (wpAny_bind (wpAny_of_eq f3 ?_))
  refine wpAny_bind (wpAny_call (codeAny_call_builtin PySem.F.excStr_ValueError.str.plain F.entry_bexc_str (exc_str_check X I B ?_)))
  unfold Builtin.«BaseException.__str__»
  repeat (first | with_reducible refine bexcArgs_own ho hd h0 ht ?_ | wp_step)
  exact hq
theorem strOf_own {Q : Value → Shared → Prop} (hu : A.units < cLine) (X : K.In s.heap) (I : InstAt s.heap x ox C od) (B : ExcK K C) (hS : PySem.W.findIn K (.ref C) "__str__" = some (some (.builtin "BaseException.__str__")))
    (ho : s.heap.get? x = some ox) (hd : ox.data = .fields vs) (h0 : vs[0]? = some (.ref t0)) (ht : s.heap.get? t0 = some (tupObj [.str z tk])) (hq : Q (.str z tk) s) : wpAny (model prog w) A (Builtin.Str.strOf (.ref x)) Q E s := by
  unfold Builtin.Str.strOf
  repeat (first | with_reducible refine wpAny_cRoomFor hu ?_ | with_reducible refine callSpecial_own X I B hS ho hd h0 ht ?_ | wp_step)
  exact hq
theorem str_own {Q : Value → Shared → Prop} (hu : A.units + 2 < cLine) (X : K.In s.heap) (I : InstAt s.heap x ox C od) (B : ExcK K C) (hS : PySem.W.findIn K (.ref C) "__str__" = some (some (.builtin "BaseException.__str__")))
    (ho : s.heap.get? x = some ox) (hd : ox.data = .fields vs) (h0 : vs[0]? = some (.ref t0)) (ht : s.heap.get? t0 = some (tupObj [.str z tk])) (hq : Q (.str z tk) s) : wpAny (model prog w) A (call (.type "str") [.ref x]) Q E s :=
  callType_new F.called_str (by decide) (F.typeCall_str_1 _) (F.newCall_str_1 _) (fun obj => F.args_object_init_2 obj _) F.entry_str_new
    (meets_str_new (S := fun A' R s' => A'.units + 1 < cLine ∧ K.In s'.heap ∧ InstAt s'.heap x ox C od ∧ s'.heap.get? x = some ox ∧ s'.heap.get? t0 = some (tupObj [.str z tk]) ∧ R (.ok (.ret (.str z tk))) s')
      fun _ _ A' _ _ hq => strOf_own (A := A'.in1) hq.1 hq.2.1 hq.2.2.1 B hS hq.2.2.2.1 hd h0 hq.2.2.2.2.1 hq.2.2.2.2.2)
    ⟨(show A.units + 1 + 1 < cLine from hu), X, I, ho, ht, typeIs_str _ _ _, hq⟩
end
section
variable {X : Cx} {e : Expr} {te : TD} {t : TAd} {pos p : Pos}
structure StrK (K : PySem.W.Frag) (C : Addr) : Prop where
  E : ExcK K C
  s : PySem.W.findIn K (.ref C) "__str__" = some (some (.builtin "BaseException.__str__"))
def rStrX (tb : List Addr) (K : PySem.W.Frag) : List V → Hp → VK → Prop := fun vs H Q => ∃ a C z I m, vs = [.ref a] ∧ Ok K H I m ∧ m a = some (mPlnS C z a) ∧ C ∈ tb ∧ Q (.str z) H
theorem cr_strX {tb : List Addr} {k : Nat} (hr : Room k X.A) (hk : ∀ C, C ∈ tb → StrK X.K C) : CallR X (.type "str") (rStrX tb X.K) := by
  intro pins s σ H vs us Q I r h
  obtain ⟨a, C, z, J, m, rfl, ok, hm, hb, q⟩ := h
  cases r with
  | cons r1 rr =>
    cases rr
    cases (show _ = Value.ref a from r1)
    obtain ⟨ox, vs, a0, tk, ia, h1, h2, h3, h4⟩ := plnS_inst I ok hm
    obtain ⟨E, hS⟩ := hk C hb
    refine str_own (by have := hr.un; omega) I.kIn ia E hS h3 h1 h2 h4 ⟨.str z, H, I, ⟨tk, rfl⟩, q⟩
def dStrX (tb : List Addr) (te : TD) : TD := fun δ m Q => te δ m fun x m1 => ∃ a C z, x = .r a ∧ m1 a = some (mPlnS C z a) ∧ C ∈ tb ∧ Q (.d (.str z)) m1
theorem boot_str : bootBuiltins "str" = some (.type "str") := by decide +kernel
theorem de_strX {tb : List Addr} {k : Nat} (hr : Room k X.A) (hk : ∀ C, C ∈ tb → StrK X.K C) (hg : Gl X "str") (hm : X.mg "str" = none) (he : DE X e te)
    (hs : starEach [e] X.env = (false, eval e X.env) :: starEach [] X.env := by rfl) (hpl : (backTo pos (starEach [] X.env)).any (·.1) = false := by rfl) : DE X (.Call (.Name "str" p) [e] [] pos) (dStrX tb te) := by
  refine de_of (pe_callTy (cr_strX hr hk) hg hm boot_str (pa_cons he.pe pa_nil hs) (he := hs) (hpl := hpl)) (fun δ m Q Q' hq q => he.mono δ m _ _ (fun x m1 ⟨a, C, z, e1, e2, e3, k⟩ => ⟨a, C, z, e1, e2, e3, hq _ _ k⟩) q) fun σ H I δ m Q ok rl q => ?_
  refine ⟨I, δ, m, ok, rl, he.mono δ m _ _ (fun x m1 ⟨a, C, z, e1, e2, e3, k⟩ v1 H1 I1 s1 o1 i1 => ?_) q⟩
  subst e1
  cases (show v1 = V.ref a from i1)
  exact ⟨a, C, z, I1, m1, rfl, o1, e2, e3, qd_same o1 s1 (isS _) k⟩
theorem strX3 {K : PySem.W.Frag} {c1 c2 c3 : Addr} (h1 : StrK K c1) (h2 : StrK K c2) (h3 : StrK K c3) : ∀ C, C ∈ [c1, c2, c3] → StrK K C := by
  intro C h
  simp only [List.mem_cons, List.not_mem_nil, or_false] at h
  rcases h with rfl | rfl | rfl <;> assumption
end
section
variable {X : Cx} {pos : Pos}
end
end DL
namespace DL
open PySem PySem.W PySem.Spec PyProof.Rows L2 Att
def bitsOf : List Int → Nat
  | [] => 0
  | n :: r => Builtin.Int.intBits n + 1 + bitsOf r
end DL
set_option maxHeartbeats 1000000
namespace Sp
def co (k : Int) : Int := (k + 1) * (k + 1) / 4
theorem co_step {k : Int} (hk : 0 ≤ k) : co (k + 1) = co k + (k + 2) / 2 := by
  have h := corner_gap (k + 1) (by omega)
  unfold co
  split at h <;> omega
theorem co_nn (k : Int) : 0 ≤ co k := by
  unfold co
  have : 0 ≤ (k + 1) * (k + 1) := by
    rcases Int.le_total 0 (k + 1) with h | h
    · exact Int.mul_nonneg h h
    · exact Int.mul_nonneg_of_nonpos_of_nonpos h h
  omega
def sx (h : Nat) : Int := if h = 0 then 1 else if h = 2 then -1 else 0
def sy (h : Nat) : Int := if h = 1 then 1 else if h = 3 then -1 else 0
def hq (q : Nat) (r : Bool) (k : Int) : Nat := (((q : Int) + (if r then -k else k)) % 4).toNat
theorem co4 (j c : Int) (hc : c = 0 ∨ c = 1 ∨ c = 2 ∨ c = 3) : co (4 * j + c) = 4 * (j * j) + (2 + 2 * c) * j + (if c = 0 then 0 else if c = 1 then 1 else if c = 2 then 2 else 4) := by
  unfold co
  have e : (4 * j + c + 1) * (4 * j + c + 1) = 16 * (j * j) + 8 * (c + 1) * j + (c + 1) * (c + 1) := by grind
  rw [e]
  rcases hc with rfl | rfl | rfl | rfl <;> simp <;> omega
theorem plain_run {u v k i : Int} (hk : 0 ≤ k) (h : po u v = co k) (h0 : 0 ≤ i) (h1 : i ≤ (k + 2) / 2) :
    po (u + sx (k % 4).toNat * i) (v + sy (k % 4).toNat * i) = co k + i := by
  obtain ⟨j, hj, hc⟩ : ∃ j : Int, 0 ≤ j ∧ (k = 4 * j + 0 ∨ k = 4 * j + 1 ∨ k = 4 * j + 2 ∨ k = 4 * j + 3) := ⟨k / 4, by omega, by omega⟩
  have sq : 4 * j * j = 4 * (j * j) := by grind
  have sq1 : 4 * (j + 1) * (j + 1) = 4 * (j * j) + 8 * j + 4 := by grind
  rcases hc with rfl | rfl | rfl | rfl
  · have e : ((4 * j + 0) % 4).toNat = 0 := by omega
    rw [e, co4 j 0 (by simp)] at *
    obtain ⟨_, p⟩ := po_of (x := -j) (y := -j) (k := j) hj (.inl ⟨rfl, by omega, by omega⟩)
    rw [if_pos rfl] at p
    obtain ⟨rfl, rfl⟩ := po_inj (h.trans (show _ = po (-j) (-j) by rw [p]; simp; omega))
    simp only [sx, sy]
    simp
    rcases Int.lt_or_le i (2 * j + 1) with l | l
    · obtain ⟨_, p⟩ := po_of (x := -j + i) (y := -j) (k := j) hj (.inl ⟨rfl, by omega, by omega⟩)
      rw [p, if_pos rfl]; omega
    · obtain ⟨_, p⟩ := po_of (x := -j + i) (y := -j) (k := j + 1) (by omega) (.inr (.inr (.inr ⟨by omega, by omega, by omega⟩)))
      rw [p, if_neg (by omega), if_neg (by omega), if_neg (by omega)]; omega
  · have e : ((4 * j + 1) % 4).toNat = 1 := by omega
    rw [e, co4 j 1 (by simp)] at *
    obtain ⟨_, p⟩ := po_of (x := j + 1) (y := -j) (k := j + 1) (by omega) (.inr (.inr (.inr ⟨rfl, by omega, by omega⟩)))
    rw [if_neg (by omega), if_neg (by omega), if_neg (by omega)] at p
    obtain ⟨rfl, rfl⟩ := po_inj (h.trans (show _ = po (j + 1) (-j) by rw [p]; simp; omega))
    simp only [sx, sy]
    simp
    rcases Int.lt_or_le (-j + i) (j + 1) with l | l
    · obtain ⟨_, p⟩ := po_of (x := j + 1) (y := -j + i) (k := j + 1) (by omega) (.inr (.inr (.inr ⟨rfl, by omega, by omega⟩)))
      rw [p, if_neg (by omega), if_neg (by omega), if_neg (by omega)]; omega
    · obtain ⟨_, p⟩ := po_of (x := j + 1) (y := -j + i) (k := j + 1) (by omega) (.inr (.inr (.inl ⟨by omega, by omega, by omega⟩)))
      rw [p, if_neg (by omega), if_neg (by omega), if_pos (by omega)]; omega
  · have e : ((4 * j + 2) % 4).toNat = 2 := by omega
    rw [e, co4 j 2 (by simp)] at *
    obtain ⟨_, p⟩ := po_of (x := j + 1) (y := j + 1) (k := j + 1) (by omega) (.inr (.inr (.inl ⟨rfl, by omega, by omega⟩)))
    rw [if_neg (by omega), if_neg (by omega), if_pos (by omega)] at p
    obtain ⟨rfl, rfl⟩ := po_inj (h.trans (show _ = po (j + 1) (j + 1) by rw [p]; simp; omega))
    simp only [sx, sy]
    simp
    rcases Int.lt_or_le (-(j + 1)) (j + 1 + -i) with l | l
    · obtain ⟨_, p⟩ := po_of (x := j + 1 + -i) (y := j + 1) (k := j + 1) (by omega) (.inr (.inr (.inl ⟨rfl, by omega, by omega⟩)))
      rw [p, if_neg (by omega), if_neg (by omega), if_pos (by omega)]; omega
    · obtain ⟨_, p⟩ := po_of (x := j + 1 + -i) (y := j + 1) (k := j + 1) (by omega) (.inr (.inl ⟨by omega, by omega, by omega⟩))
      rw [p, if_neg (by omega), if_pos (by omega)]; omega
  · have e : ((4 * j + 3) % 4).toNat = 3 := by omega
    rw [e, co4 j 3 (by simp)] at *
    obtain ⟨_, p⟩ := po_of (x := -(j + 1)) (y := j + 1) (k := j + 1) (by omega) (.inr (.inl ⟨rfl, by omega, by omega⟩))
    rw [if_neg (by omega), if_pos (by omega)] at p
    obtain ⟨rfl, rfl⟩ := po_inj (h.trans (show _ = po (-(j + 1)) (j + 1) by rw [p]; simp; omega))
    simp only [sx, sy]
    simp
    rcases Int.lt_or_le (-(j + 1)) (j + 1 + -i) with l | l
    · obtain ⟨_, p⟩ := po_of (x := -(j + 1)) (y := j + 1 + -i) (k := j + 1) (by omega) (.inr (.inl ⟨by omega, by omega, by omega⟩))
      rw [p, if_neg (by omega), if_pos (by omega)]; omega
    · obtain ⟨_, p⟩ := po_of (x := -(j + 1)) (y := j + 1 + -i) (k := j + 1) (by omega) (.inl ⟨by omega, by omega, by omega⟩)
      rw [p, if_pos (by omega)]; omega
theorem tp_step {q : Nat} (hq4 : q < 4) (r : Bool) (x y k i : Int) :
    tpx q r (x + sx (hq q r k) * i) (y + sy (hq q r k) * i) = tpx q r x y + sx (k % 4).toNat * i ∧ tpy q r (x + sx (hq q r k) * i) (y + sy (hq q r k) * i) = tpy q r x y + sy (k % 4).toNat * i := by
  obtain ⟨c, hc, h1⟩ : ∃ c : Nat, (k % 4).toNat = c ∧ (c = 0 ∨ c = 1 ∨ c = 2 ∨ c = 3) := ⟨(k % 4).toNat, rfl, by omega⟩
  have h2 : hq q r k = (if r then (q + 4 - c) % 4 else (q + c) % 4) := by
    unfold hq
    cases r <;> simp <;> omega
  rw [h2, hc]
  rcases (show q = 0 ∨ q = 1 ∨ q = 2 ∨ q = 3 by omega) with rfl | rfl | rfl | rfl <;> rcases h1 with rfl | rfl | rfl | rfl <;> cases r <;> simp [tpx, tpy, rotx, roty, mir, sx, sy] <;> omega
theorem at_run {q : Nat} (hq4 : q < 4) {r : Bool} {x y k i : Int} (hk : 0 ≤ k) (h : at' q r x y = co k) (h0 : 0 ≤ i) (h1 : i ≤ (k + 2) / 2) :
    at' q r (x + sx (hq q r k) * i) (y + sy (hq q r k) * i) = co k + i := by
  unfold at' at h ⊢
  obtain ⟨e1, e2⟩ := tp_step hq4 r x y k i
  rw [e1, e2]
  exact plain_run hk h h0 h1
end Sp
namespace K
open PySem L2 DL Sp
def F_law : FD := fun ds m Q => ∃ ns : List Int, ds = [.d (.list (ns.map .int))] ∧ ns.length ≤ 63 ∧ ∀ m', Q (.d (.bool true)) m'
theorem mo_law : MoA F_law := fun _ _ _ _ h ⟨ns, e, l, z⟩ => ⟨ns, e, l, fun m' => h _ _ (z m')⟩
theorem eqv_pr (a b c d : Int) : PyData.eqv (.tuple [.int a, .int b]) (.tuple [.int c, .int d]) = (decide (a = c) && decide (b = d)) := by
  simp only [PyData.eqv, PyData.eqvAll, Bool.and_true]
  by_cases h : a = c <;> by_cases h2 : b = d <;> simp [h, h2]
theorem shaped_pr (a b : Int) : SeqAt.shaped (.tuple [.int a, .int b]) = true := rfl
theorem in4 (x a b c d : Int) : inD (.int x) [.int a, .int b, .int c, .int d] = (decide (a = x) || (decide (b = x) || (decide (c = x) || decide (d = x)))) := by
  simp only [inD, List.any_cons, List.any_nil, eqv_int, Bool.or_false]
theorem flat4 (a b c d : Int) : ([.int a, .int b, .int c, .int d] : List PyData).all flatD = true := rfl
theorem flatI (a : Int) : flatD (.int a) = true := rfl
end K
namespace K
open PySem L2 DL Sp
theorem eqv_tnl (r : Bool) : PyData.eqv (.str (tnS r)) (.str "l") = !r := by cases r <;> decide +kernel
theorem shaped_l : SeqAt.shaped (.str "l") = true := by decide +kernel
end K
namespace K11
open PySem L2 DL Sp K
def DeckB (o : MO) (c : Nat) : Prop := ∃ g x t : Int, o = .lst [I g, I x, I t] ∧ 0 ≤ g ∧ (0 ≤ x ∧ x < 2 ^ 31) ∧ 0 ≤ t ∧ t ≤ c
theorem DeckB.mono {o : MO} {c d : Nat} (h : DeckB o c) (l : c ≤ d) : DeckB o d := by
  obtain ⟨g, x, t, e, h1, h2, h3, h4⟩ := h
  exact ⟨g, x, t, e, h1, h2, h3, by omega⟩
def F__law_deck : FD := fun ds m Q => ∃ ns : List Int, ds = [.d (.list (ns.map .int))] ∧ (ns.length ≤ 63 ∧ bitsOf ns ≤ 2 ^ 20) ∧ ∀ p o, m p = none → DeckB o 0 → Q (.r p) (setM m p o)
def F__law_spiral : FD := fun ds m Q => ∃ a o c, ds = [.r a] ∧ m a = some o ∧ DeckB o c ∧ c < 2 ^ 36 ∧ ∀ s q r o', (-(10 ^ 18) ≤ s ∧ s ≤ 10 ^ 18) → q < 4 → DeckB o' (c + 7) → Q (spi s q r) (setM m a o')
theorem mo__law_deck : MoA F__law_deck := fun _ _ _ _ h ⟨ns, e, l, z⟩ => ⟨ns, e, l, fun p o h1 h2 => h _ _ (z p o h1 h2)⟩
theorem mo__law_spiral : MoA F__law_spiral := fun _ _ _ _ h ⟨a, o, c, e, h1, h2, h3, z⟩ => ⟨a, o, c, e, h1, h2, h3, fun s q r o' a b d => h _ _ (z s q r o' a b d)⟩
def T (b : Bool) : Dv := .d (.bool b)
def F_law : FD := fun ds m Q => ∃ ns : List Int, ds = [.d (.list (ns.map .int))] ∧ (ns.length ≤ 63 ∧ bitsOf ns ≤ 2 ^ 20) ∧ ∀ m', Q (.d (.bool true)) m'
theorem mo_law : MoA F_law := fun _ _ _ _ h ⟨ns, e, l, z⟩ => ⟨ns, e, l, fun m' => h _ _ (z m')⟩
end K11
namespace K11
open PySem L2 DL Sp K
theorem eqv_same {x : PyData} : ∀ (h : SeqAt.shaped x = true), PyData.eqv x x = true := fun h => SeqAt.eqv_refl x (Bool.and_eq_true_iff.mp h).1
end K11
namespace K11
open PySem L2 DL Sp K
end K11
namespace K
open PySem L2 DL Sp
end K
namespace K
open PySem L2 DL Sp
end K
namespace KU
open PySem L2 DL Sp K KT
abbrev Tx0 (z : Str) : Prop := z.length ≤ 1000 ∧ Cp z
def heads : List Str := ["e", "n", "w", "s"]
def turns : List Str := ["l", "r"]
def rd (z : Str) : Option (Str × Str × Str) := match Txt.split z " " with
  | [a, b, c] => if isW a = true ∧ b ∈ heads ∧ c ∈ turns then some (a, b, c) else none
  | _ => none
def dval (l : List Nat) : Nat := l.foldl (fun acc c => acc * 10 + (c - 48)) 0
def neg (a : Str) : Bool := a.cps.toList.head? == some 45
def val (a : Str) : Int := if neg a then -((dval (bare a) : Nat) : Int) else ((dval (bare a) : Nat) : Int)
theorem split_words {z a b c : Str} (h : Txt.split z " " = [a, b, c]) : ∀ p ∈ [a, b, c], p.length ≤ z.length ∧ ∀ d ∈ p.cps.toList, d ∈ z.cps.toList := by
  intro p hp
  have e := StrLaws.join_split z (Str.ofString " ")
  rw [h] at e
  have e : a ++ Str.ofString " " ++ (b ++ Str.ofString " " ++ c) = z := e
  have hc := congrArg (fun s : Str => s.cps.toList) e
  simp only [cps_app] at hc
  have hl : ∀ s : Str, s.length = s.cps.toList.length := fun s => by simp [Str.length]
  have hsub : ∀ d ∈ p.cps.toList, d ∈ z.cps.toList := by
    intro d hd
    rw [← hc]
    simp only [List.mem_cons, List.not_mem_nil, or_false] at hp
    simp only [List.mem_append]
    rcases hp with rfl | rfl | rfl
    · exact .inl (.inl hd)
    · exact .inr (.inl (.inl hd))
    · exact .inr (.inr hd)
  refine ⟨?_, hsub⟩
  rw [hl p, hl z, ← hc]
  simp only [List.length_append]
  simp only [List.mem_cons, List.not_mem_nil, or_false] at hp
  rcases hp with rfl | rfl | rfl <;> omega
theorem bare_neg (a : Str) (h : neg a = true) : a.cps.toList = 45 :: bare a := by
  unfold neg at h
  unfold bare
  cases e : a.cps.toList with
  | nil => rw [e] at h; simp at h
  | cons c l => rw [e] at h; have : c = 45 := by simpa using h
                subst this; rfl
theorem bare_pos (a : Str) (h : neg a = false) : bare a = a.cps.toList := by
  unfold neg at h
  unfold bare
  cases e : a.cps.toList with
  | nil => rfl
  | cons c l =>
    rw [e] at h
    have : c ≠ 45 := by simpa using h
    split
    · next g => cases g; exact absurd rfl this
    · rfl
theorem isW_digits {a : Str} (h : isW a = true) : (∀ c ∈ bare a, 48 ≤ c ∧ c ≤ 57) ∧ bare a ≠ [] := by
  unfold isW at h
  rw [Bool.or_eq_true] at h
  rcases h with h | h
  · have e := eq_of_beq h
    subst e
    have eb : bare (Str.ofString "0") = [48] := by decide +kernel
    rw [eb]
    exact ⟨fun c hc => by simp at hc; omega, by simp⟩
  · rw [Bool.and_eq_true, Bool.and_eq_true] at h
    refine ⟨fun c hc => ?_, fun e => ?_⟩
    · have := List.all_eq_true.mp h.2 c hc
      unfold isFig at this
      simpa using this
    · rw [e] at h; simp at h
theorem int_val {a : Str} (h : isW a = true) (hl : a.length ≤ 4300) : intText? a = some (val a) := by
  obtain ⟨h1, h2⟩ := isW_digits h
  unfold val
  cases hn : neg a with
  | true =>
    rw [intText_neg (bare_neg a hn) h1 h2 hl]
    rfl
  | false =>
    have e := bare_pos a hn
    rw [e] at h1 h2
    rw [intText_digits h1 h2 hl, e]
    rfl
theorem dval_ge : ∀ (l : List Nat) (acc : Nat), acc * 10 ^ l.length ≤ l.foldl (fun acc c => acc * 10 + (c - 48)) acc
  | [], acc => by simp
  | c :: l, acc => by
    have := dval_ge l (acc * 10 + (c - 48))
    rw [List.foldl_cons, List.length_cons, Nat.pow_succ]
    refine Nat.le_trans ?_ this
    rw [Nat.mul_comm (10 ^ l.length) 10, ← Nat.mul_assoc]
    exact Nat.mul_le_mul_right _ (Nat.le_add_right _ _)
theorem val_len {a : Str} (h : isW a = true) (hv : -(10 ^ 18) ≤ val a ∧ val a ≤ 10 ^ 18) : a.length ≤ 100 := by
  have hl : a.length = a.cps.toList.length := by simp [Str.length]
  have hd : dval (bare a) ≤ 10 ^ 18 := by
    unfold val at hv
    split at hv <;> omega
  have hb : (bare a).length ≤ 20 := by
    unfold isW at h
    rw [Bool.or_eq_true] at h
    rcases h with h | h
    · have e := eq_of_beq h
      subst e
      decide +kernel
    · rw [Bool.and_eq_true, Bool.and_eq_true] at h
      obtain ⟨⟨h1, h2⟩, h3⟩ := h
      cases e : bare a with
      | nil => simp
      | cons c l =>
        rw [e] at h2 h3 hd
        have hc : c ≠ 48 := by simpa using h2
        have hf := List.all_eq_true.mp h3 c (by simp)
        unfold isFig at hf
        have hf : 48 ≤ c ∧ c ≤ 57 := by simpa using hf
        unfold dval at hd
        rw [List.foldl_cons] at hd
        have g := dval_ge l (0 * 10 + (c - 48))
        by_cases hl : l.length ≤ 19
        · rw [List.length_cons]; omega
        · have h20 : 10 ^ 20 ≤ 10 ^ l.length := Nat.pow_le_pow_right (by decide) (by omega)
          have : 1 * 10 ^ l.length ≤ (0 * 10 + (c - 48)) * 10 ^ l.length := Nat.mul_le_mul_right _ (by omega)
          omega
  rw [hl]
  cases hn : neg a with
  | true => rw [bare_neg a hn, List.length_cons]; omega
  | false => rw [← bare_pos a hn]; omega
def tri (a b c : Str) : PyData := .tuple [.int (val a), .str b, .str c]
def F__law_due : FD := fun ds m Q => ∃ z, ds = [.d (.str z)] ∧ Tx0 z ∧ Q (match rd z with | none => .d .none | some (a, b, c) => .d (tri a b c)) m
theorem mo__law_due : MoA F__law_due := fun _ _ _ _ h ⟨z, e, h1, q⟩ => ⟨z, e, h1, h _ _ q⟩
def FX_read_spiral (P : Addr) : FDX := fun ds m W => ∃ z, ds = [.d (.str z)] ∧ Tx0 z ∧ m P = some mTbl ∧ rd z = none ∧ W .none m
theorem moX_read_spiral {P : Addr} : MoAX (FX_read_spiral P) := fun _ _ _ _ h ⟨z, e, h1, h2, h3, q⟩ => ⟨z, e, h1, h2, h3, h _ _ q⟩
def F_read_spiral (P : Addr) : FD := fun ds m Q => ∃ z a b c, ds = [.d (.str z)] ∧ Tx0 z ∧ m P = some mTbl ∧ rd z = some (a, b, c) ∧ (-(10 ^ 18) ≤ val a ∧ val a ≤ 10 ^ 18) ∧ Q (.d (tri a b c)) m
theorem mo_read_spiral {P : Addr} : MoA (F_read_spiral P) := fun _ _ _ _ h ⟨z, a, b, c, e, h1, h2, h3, h4, q⟩ => ⟨z, a, b, c, e, h1, h2, h3, h4, h _ _ q⟩
def F__law_right (P : Addr) : FD := fun ds m Q => ∃ z, ds = [.d (.str z)] ∧ Tx0 z ∧ m P = some mTbl ∧ Q (.d (.bool true)) m
theorem mo__law_right {P : Addr} : MoA (F__law_right P) := fun _ _ _ _ h ⟨z, e, h1, h2, q⟩ => ⟨z, e, h1, h2, h _ _ q⟩
def F__law_kind (_b n s _k : Addr) : FD := fun ds m Q => ∃ a, ds = [.r a] ∧ ((m a = some (mPln s a) ∧ Q (.d (.tuple [.str "spiral"])) m) ∨ ∃ i, m a = some (mExc n i a) ∧ Q (.d (.tuple [.str "number", .int i])) m)
theorem mo__law_kind {b n s k : Addr} : MoA (F__law_kind b n s k) := fun _ _ _ _ h ⟨a, e, z⟩ => ⟨a, e, z.imp (fun ⟨h1, q⟩ => ⟨h1, h _ _ q⟩) (fun ⟨i, h1, q⟩ => ⟨i, h1, h _ _ q⟩)⟩
def F__law_sign : FD := fun ds m Q => ∃ a o c, ds = [.r a] ∧ m a = some o ∧ DeckIs o c ∧ c < 2 ^ 36 ∧ ∀ (k : Nat) o', k < 1114112 → DeckIs o' (c + 3) → Q (.d (.str ⟨#[k]⟩)) (setM m a o')
theorem mo__law_sign : MoA F__law_sign := fun _ _ _ _ h ⟨a, o, c, e, h1, h2, h3, q⟩ => ⟨a, o, c, e, h1, h2, h3, fun k o' g1 g2 => h _ _ (q k o' g1 g2)⟩
def F__law_spoilt : FD := fun ds m Q => ∃ a o c z, ds = [.r a, .d (.str z)] ∧ m a = some o ∧ DeckIs o c ∧ c < 2 ^ 35 ∧ (z.length ≤ 100 ∧ Cp z) ∧ ∀ (z' : Str) o', (z'.length ≤ 900 ∧ Cp z') → DeckIs o' (c + 40) → Q (.d (.str z')) (setM m a o')
theorem mo__law_spoilt : MoA F__law_spoilt := fun _ _ _ _ h ⟨a, o, c, z, e, h1, h2, h3, h4, q⟩ => ⟨a, o, c, z, e, h1, h2, h3, h4, fun z' o' g1 g2 => h _ _ (q z' o' g1 g2)⟩
theorem at_get {α : Type} {l : List α} {i : Int} (h0 : 0 ≤ i) (h1 : i < l.length) : ∃ x, atI l i = some x ∧ x ∈ l := by
  obtain ⟨k, rfl⟩ : ∃ k : Nat, i = (k : Int) := ⟨i.toNat, by omega⟩
  have hk : k < l.length := by omega
  exact ⟨l[k], atI_of (k := k) rfl (List.getElem?_eq_getElem hk), List.getElem_mem hk⟩
theorem len_cps (z : Str) : z.length = z.cps.toList.length := by simp [Str.length]
theorem inD_heads (b : Str) (h : Cp b) : inD (.str b) [.str "e", .str "n", .str "w", .str "s"] = decide (b ∈ heads) := by
  have ev : ∀ a b : Str, PyData.eqv (.str a) (.str b) = (a == b) := fun _ _ => rfl
  unfold inD heads
  simp only [List.any_cons, List.any_nil, ev, Bool.or_false, List.mem_cons, List.not_mem_nil, or_false]
  rw [Bool.eq_iff_iff]
  simp only [Bool.or_eq_true, beq_iff_eq, decide_eq_true_eq]
  constructor
  · rintro (h | h | h | h) <;> simp [h]
  · rintro (h | h | h | h) <;> simp [h]
theorem inD_turns (b : Str) (h : Cp b) : inD (.str b) [.str "l", .str "r"] = decide (b ∈ turns) := by
  have ev : ∀ a b : Str, PyData.eqv (.str a) (.str b) = (a == b) := fun _ _ => rfl
  unfold inD turns
  simp only [List.any_cons, List.any_nil, ev, Bool.or_false, List.mem_cons, List.not_mem_nil, or_false]
  rw [Bool.eq_iff_iff]
  simp only [Bool.or_eq_true, beq_iff_eq, decide_eq_true_eq]
  constructor
  · rintro (h | h) <;> simp [h]
  · rintro (h | h) <;> simp [h]
theorem split3 (z : Str) : (∃ a b c, Txt.split z " " = [a, b, c]) ∨ (((Txt.split z " ").map PyData.str).length ≠ 3) := by
  match h : Txt.split z " " with
  | [] => exact .inr (by simp)
  | [_] => exact .inr (by simp)
  | [_, _] => exact .inr (by simp)
  | [a, b, c] => exact .inl ⟨a, b, c, rfl⟩
  | _ :: _ :: _ :: _ :: _ => exact .inr (by simp)
theorem rd_ne {z : Str} (h : ((Txt.split z " ").map PyData.str).length ≠ 3) : rd z = none := by
  unfold rd
  split
  · next e => rw [e] at h; exact absurd rfl h
  · rfl
theorem rd_3 {z a b c : Str} (h : Txt.split z " " = [a, b, c]) : rd z = if isW a = true ∧ b ∈ heads ∧ c ∈ turns then some (a, b, c) else none := by
  unfold rd
  rw [h]
theorem find_fig {c : Nat} (h : isFig c = true) : Txt.find (Str.ofString "0123456789") ⟨#[c]⟩ = ((c - 48 : Nat) : Int) := by
  unfold isFig at h
  have h : 48 ≤ c ∧ c ≤ 57 := by simpa using h
  rcases (show c = 48 ∨ c = 49 ∨ c = 50 ∨ c = 51 ∨ c = 52 ∨ c = 53 ∨ c = 54 ∨ c = 55 ∨ c = 56 ∨ c = 57 by omega) with rfl | rfl | rfl | rfl | rfl | rfl | rfl | rfl | rfl | rfl
  all_goals decide +kernel
theorem cut_first (a : Str) : (cutS a none (some 1)).cps.toList = a.cps.toList.take 1 := by
  unfold cutS
  have e : HT.sIx a.length a.length (some 1) = min 1 a.length := HT.sIx_nat a.length a.length 1
  rw [e, HT.sIx_none, len_cps]
  simp only [List.drop_zero, Nat.sub_zero]
  cases a.cps.toList <;> simp
theorem cut_from (a : Str) (k : Nat) : (cutS a (some ((k : Nat) : Int)) none).cps.toList = a.cps.toList.drop k := by
  unfold cutS
  rw [HT.sIx_nat, HT.sIx_none, len_cps]
  simp only
  by_cases h : k ≤ a.cps.toList.length
  · rw [Nat.min_eq_left h, List.take_of_length_le (by simp)]
  · rw [Nat.min_eq_right (by omega), List.drop_eq_nil_of_le (Nat.le_refl _), List.drop_eq_nil_of_le (by omega)]; simp
theorem first_neg (a : Str) : PyData.eqv (.str (cutS a none (some 1))) (.str (Str.ofString "-")) = neg a := by
  have ev : ∀ a b : Str, PyData.eqv (.str a) (.str b) = (a == b) := fun _ _ => rfl
  rw [ev]
  have e1 : (Str.ofString "-").cps.toList = [45] := by decide +kernel
  unfold neg
  rw [Bool.eq_iff_iff, beq_iff_eq]
  constructor
  · intro h
    have := congrArg (fun s : Str => s.cps.toList) h
    simp only [cut_first, e1] at this
    cases e : a.cps.toList with
    | nil => rw [e] at this; simp at this
    | cons c l => rw [e] at this; simp at this; simp [this]
  · intro h
    refine str_ext ?_
    rw [cut_first, e1]
    cases e : a.cps.toList with
    | nil => rw [e] at h; simp at h
    | cons c l => rw [e] at h; have : c = 45 := by simpa using h
                  subst this; rfl
theorem cut_bare (a : Str) : (cutS a (some (if neg a = true then 1 else 0)) none).cps.toList = bare a := by
  cases hn : neg a with
  | true =>
    have := cut_from a 1
    simp only [if_true]
    rw [show ((1 : Nat) : Int) = 1 from rfl] at this
    rw [this, bare_neg a hn]; rfl
  | false =>
    have := cut_from a 0
    simp only [Bool.false_eq_true, if_false]
    rw [show ((0 : Nat) : Int) = 0 from rfl] at this
    rw [this, bare_pos a hn]; rfl
theorem first_0 (g : Str) : PyData.eqv (.str (cutS g none (some 1))) (.str (Str.ofString "0")) = (g.cps.toList.head? == some 48) := by
  have ev : ∀ a b : Str, PyData.eqv (.str a) (.str b) = (a == b) := fun _ _ => rfl
  rw [ev]
  have e1 : (Str.ofString "0").cps.toList = [48] := by decide +kernel
  rw [Bool.eq_iff_iff, beq_iff_eq]
  constructor
  · intro h
    have := congrArg (fun s : Str => s.cps.toList) h
    simp only [cut_first, e1] at this
    cases e : g.cps.toList with
    | nil => rw [e] at this; simp at this
    | cons c l => rw [e] at this; simp at this; simp [this]
  · intro h
    refine str_ext ?_
    rw [cut_first, e1]
    cases e : g.cps.toList with
    | nil => rw [e] at h; simp at h
    | cons c l => rw [e] at h; have : c = 48 := by simpa using h
                  subst this; rfl
theorem dval_snoc (l : List Nat) (c : Nat) : dval (l ++ [c]) = dval l * 10 + (c - 48) := by unfold dval; rw [List.foldl_append]; rfl
theorem isW_fig {a : Str} {c : Nat} (h : c ∈ bare a) (hc : isFig c = false) : isW a = false := by
  cases e : isW a with
  | false => rfl
  | true =>
    have := (isW_digits e).1 c h
    unfold isFig at hc
    have : ¬ (48 ≤ c ∧ c ≤ 57) := by simpa using hc
    exact absurd ‹_› this
theorem rd_cp {z a b c : Str} (h : rd z = some (a, b, c)) (hz : Cp z) : Cp b ∧ Cp c := by
  unfold rd at h
  split at h
  · next a1 b1 c1 e =>
    split at h
    · cases h
      have w := split_words e
      exact ⟨fun d hd => hz d ((w b (by simp)).2 d hd), fun d hd => hz d ((w c (by simp)).2 d hd)⟩
    · cases h
  · cases h
theorem shaped_3 (i : Int) {b c : Str} (h1 : Cp b) (h2 : Cp c) : SeqAt.shaped (.tuple [.int i, .str b, .str c]) = true := by
  have h1 := shaped_str h1
  have h2 := shaped_str h2
  unfold SeqAt.shaped at h1 h2 ⊢
  simp [PyData.canLay0, PyData.canLayAll0, PyData.depth, PyData.depthAll] at h1 h2 ⊢
  exact ⟨h1, h2⟩
theorem cutS_len (z : Str) (lo hi : Option Int) : (cutS z lo hi).length ≤ z.length := by
  rw [len_cps, len_cps z]
  unfold cutS
  simp only [List.length_take, List.length_drop]
  omega
theorem cutS_cp {z : Str} (h : Cp z) (lo hi : Option Int) : Cp (cutS z lo hi) := fun c hc => by
  unfold cutS at hc
  simp only at hc
  exact h c (List.mem_of_mem_drop (List.mem_of_mem_take hc))
theorem one_cp {k : Nat} (h : k < 1114112) : Cp ⟨#[k]⟩ := fun c hc => by simp at hc; omega
def wl (ws : List Str) : Nat := (ws.map (·.length)).sum
theorem wl_set : ∀ (ws : List Str) (i : Nat) (x y : Str), ws[i]? = some x → wl (ws.set i y) + x.length = wl ws + y.length
  | [], _, _, _, h => by cases h
  | w :: ws, 0, x, y, h => by
    have : w = x := by simpa using h
    subst this
    simp [wl]; omega
  | w :: ws, i + 1, x, y, h => by
    have ih := wl_set ws i x y (by simpa using h)
    simp only [wl, List.set_cons_succ, List.map_cons, List.sum_cons] at ih ⊢
    omega
theorem wl_ins : ∀ (ws : List Str) (i : Nat) (y : Str), wl (ws.take i ++ y :: ws.drop i) = wl ws + y.length
  | ws, 0, y => by simp [wl]; omega
  | [], i + 1, y => by simp [wl]
  | w :: ws, i + 1, y => by
    have ih := wl_ins ws i y
    simp only [wl, List.take_succ_cons, List.drop_succ_cons, List.cons_append, List.map_cons, List.sum_cons] at ih ⊢
    omega
theorem join_len (ws : List Str) : (Txt.join " " ws).length = wl ws + (ws.length - 1) := by
  have := size_glued (Str.ofString " ") ws
  rw [show (Str.ofString " ").length = 1 by decide +kernel, Nat.mul_one] at this
  exact this
theorem split_wl (z : Str) : wl (Txt.split z " ") + ((Txt.split z " ").length - 1) = z.length ∧ 0 < (Txt.split z " ").length := by
  have e := StrLaws.join_split z (Str.ofString " ")
  have h := join_len (Txt.split z " ")
  have ej : Txt.join " " (Txt.split z " ") = Str.join " " (Txt.split z " ") := StrLaws.glued_eq_join _ _
  rw [ej, e] at h
  exact ⟨h.symm, PyProof.Rows.split_pos _ _⟩
theorem join_cp {ws : List Str} (h : ∀ p ∈ ws, Cp p) : Cp (Txt.join " " ws) := by
  have ej : Txt.join " " ws = Str.join " " ws := StrLaws.glued_eq_join _ _
  rw [ej]
  intro c hc
  rcases join_mem (S := fun c => c < 1114112) ws h c hc with g | g
  · exact g
  · have : ∀ c ∈ (Str.ofString " ").cps.toList, c < 1114112 := by decide +kernel
    exact this c g
theorem split_cp {z : Str} (h : Cp z) : ∀ p ∈ Txt.split z " ", Cp p := by
  intro p hp c hc
  refine h c ?_
  have e := StrLaws.join_split z (Str.ofString " ")
  rw [← e]
  clear e h
  generalize Txt.split z " " = ws at hp
  induction ws with
  | nil => cases hp
  | cons w ws ih =>
    cases ws with
    | nil => simp only [List.mem_cons, List.not_mem_nil, or_false] at hp; subst hp; exact hc
    | cons v ws =>
      show c ∈ (w ++ Str.ofString " " ++ Str.join " " (v :: ws)).cps.toList
      rw [cps_app, cps_app]
      rcases List.mem_cons.mp hp with rfl | hp
      · exact List.mem_append_left _ (List.mem_append_left _ hc)
      · exact List.mem_append_right _ (ih hp)
def wds : List Str := ["0", "-0", "00", "-01", "+1", "--1", "1.0", "1_0", "e", "n", "w", "s", "l", "r", "", "el", "ew", "lr", "E", "L", "enws", "en", "north", "1e", "-", "-5", "0x1"]
theorem wds_ok : ∀ s ∈ wds, s.length ≤ 5 ∧ ∀ c ∈ s.cps.toList, c < 1114112 := by decide +kernel
theorem wds_at {i : Int} (h0 : 0 ≤ i) (h1 : i < 27) : ∃ s : Str, atI (wds.map PyData.str) i = some (.str s) ∧ s.length ≤ 5 ∧ Cp s := by
  obtain ⟨x, e, hx⟩ := at_get (l := wds.map PyData.str) h0 (by rw [List.length_map]; exact h1)
  obtain ⟨s, hs, rfl⟩ := List.mem_map.mp hx
  exact ⟨s, e, wds_ok s hs⟩
theorem ixN_nat {n : Nat} {i : Int} (h0 : 0 ≤ i) (h1 : i < n) : ixN n i = some i.toNat := by
  unfold ixN
  rw [if_pos h0, if_pos h1]
theorem map_setS (ws : List Str) (j : Nat) (y : Str) : (ws.map fun y => Dv.d (.str y)).set j (.d (.str y)) = ((ws.set j y).map PyData.str).map Dv.d := by
  rw [List.map_map, List.map_set]; rfl
theorem map_insS (ws : List Str) (j : Nat) (y : Str) : (ws.map fun y => Dv.d (.str y)).take j ++ .d (.str y) :: (ws.map fun y => Dv.d (.str y)).drop j = ((ws.take j ++ y :: ws.drop j).map PyData.str).map Dv.d := by
  rw [List.map_map, List.map_append, List.map_cons, List.map_take, List.map_drop]; rfl
theorem set_cp {ws : List Str} (h : ∀ p ∈ ws, Cp p) {y : Str} (hy : Cp y) (j : Nat) : ∀ p ∈ ws.set j y, Cp p := fun p hp => by
  rcases List.mem_or_eq_of_mem_set hp with g | g
  · exact h p g
  · rw [g]; exact hy
theorem ins_cp {ws : List Str} (h : ∀ p ∈ ws, Cp p) {y : Str} (hy : Cp y) (j : Nat) : ∀ p ∈ ws.take j ++ y :: ws.drop j, Cp p := fun p hp => by
  rcases List.mem_append.mp hp with g | g
  · exact h p (List.mem_of_mem_take g)
  · rcases List.mem_cons.mp g with g | g
    · rw [g]; exact hy
    · exact h p (List.mem_of_mem_drop g)
theorem map_set2 (ws : List Str) (j k : Nat) (y w : Str) : ((ws.map fun y => Dv.d (.str y)).set j (.d (.str y))).set k (.d (.str w)) = (((ws.set j y).set k w).map PyData.str).map Dv.d := by
  rw [List.map_map, List.map_set, List.map_set]; rfl
theorem wl_swap {ws : List Str} {i j : Nat} {x y : Str} (hi : ws[i]? = some x) (hj : ws[j]? = some y) : wl ((ws.set i y).set j x) = wl ws := by
  have h1 := wl_set ws i x y hi
  have hg : (ws.set i y)[j]? = some y := by
    by_cases e : i = j
    · subst e
      rw [List.getElem?_set_self (List.getElem?_eq_some_iff.mp hi).1]
    · rw [List.getElem?_set_ne e]; exact hj
  have h2 := wl_set (ws.set i y) j y x hg
  omega
def TxD (x : PyData) : Prop := ∃ z : Str, x = .str z ∧ Tx0 z
theorem rep_cp {x : Str} (h : Cp x) (n : Nat) : Cp (repS x n) := fun c hc => by
  rw [repS_cps] at hc
  obtain ⟨l, hl, hc⟩ := List.mem_flatten.mp hc
  have := List.eq_of_mem_replicate hl
  subst this
  exact h c hc
theorem rep_ok {x z r : Str} (h : RepOk x z r) (hx : Cp x) (hz : Cp z) : Cp r := fun c hc => by
  rcases h.2 c hc with g | g
  · exact hx c g
  · exact hz c g
end KU
set_option maxHeartbeats 1000000
namespace Sp
def cx (k : Int) : Int := if k % 4 = 0 then -(k / 4) else if k % 4 = 3 then -(k / 4 + 1) else k / 4 + 1
def Btw (a b c d u : Int) : Prop := (a ≤ u ∨ b ≤ u ∨ c ≤ u ∨ d ≤ u) ∧ (u ≤ a ∨ u ≤ b ∨ u ≤ c ∨ u ≤ d)
structure IsBx (q : Nat) (r : Bool) (n l b t h : Int) : Prop where
  all : ∀ x y, at' q r x y ≤ n → l ≤ x ∧ x ≤ t ∧ b ≤ y ∧ y ≤ h
  al : ∃ y, at' q r l y ≤ n
  ab : ∃ x, at' q r x b ≤ n
  at_ : ∃ y, at' q r t y ≤ n
  ah : ∃ x, at' q r x h ≤ n
theorem IsBx.uniq {q : Nat} {r : Bool} {n l b t h l' b' t' h' : Int} (x : IsBx q r n l b t h) (y : IsBx q r n l' b' t' h') : l = l' ∧ b = b' ∧ t = t' ∧ h = h' := by
  obtain ⟨a1, h1⟩ := x.al; obtain ⟨a2, h2⟩ := x.ab; obtain ⟨a3, h3⟩ := x.at_; obtain ⟨a4, h4⟩ := x.ah
  obtain ⟨b1, k1⟩ := y.al; obtain ⟨b2, k2⟩ := y.ab; obtain ⟨b3, k3⟩ := y.at_; obtain ⟨b4, k4⟩ := y.ah
  have p1 := y.all _ _ h1; have p2 := y.all _ _ h2; have p3 := y.all _ _ h3; have p4 := y.all _ _ h4
  have q1 := x.all _ _ k1; have q2 := x.all _ _ k2; have q3 := x.all _ _ k3; have q4 := x.all _ _ k4
  omega
theorem IsBx.zero {q : Nat} (hq : q < 4) (r : Bool) : IsBx q r 0 0 0 0 0 := by
  have e : at' q r 0 0 = 0 := by
    unfold at'
    have : tpx q r 0 0 = 0 ∧ tpy q r 0 0 = 0 := by
      rcases (show q = 0 ∨ q = 1 ∨ q = 2 ∨ q = 3 by omega) with rfl | rfl | rfl | rfl <;> cases r <;> simp [tpx, tpy, rotx, roty, mir]
    rw [this.1, this.2]; decide
  refine ⟨fun x y h => ?_, ⟨0, by omega⟩, ⟨0, by omega⟩, ⟨0, by omega⟩, ⟨0, by omega⟩⟩
  have h0 := at_nonneg q r x y
  obtain ⟨rfl, rfl⟩ := at_inj hq (r := r) (show at' q r x y = at' q r 0 0 by omega)
  omega
theorem IsBx.step {q : Nat} (hq : q < 4) {r : Bool} {n l b t h x y l' b' t' h' : Int} (B : IsBx q r n l b t h) (e : at' q r x y = n + 1)
    (el : l' = if x < l then x else l) (eb : b' = if y < b then y else b) (et : t' = if x > t then x else t) (eh : h' = if y > h then y else h) : IsBx q r (n + 1) l' b' t' h' := by
  obtain ⟨a1, h1⟩ := B.al; obtain ⟨a2, h2⟩ := B.ab; obtain ⟨a3, h3⟩ := B.at_; obtain ⟨a4, h4⟩ := B.ah
  refine ⟨fun u v huv => ?_, ?_, ?_, ?_, ?_⟩
  · rcases Int.lt_or_le n (at' q r u v) with g | g
    · obtain ⟨rfl, rfl⟩ := at_inj hq (r := r) (show at' q r u v = at' q r x y by omega)
      subst el eb et eh
      repeat' split
      all_goals omega
    · have := B.all _ _ g
      subst el eb et eh
      repeat' split
      all_goals omega
  · subst el; split
    · exact ⟨y, by omega⟩
    · exact ⟨a1, by omega⟩
  · subst eb; split
    · exact ⟨x, by omega⟩
    · exact ⟨a2, by omega⟩
  · subst et; split
    · exact ⟨y, by omega⟩
    · exact ⟨a3, by omega⟩
  · subst eh; split
    · exact ⟨x, by omega⟩
    · exact ⟨a4, by omega⟩
theorem Btw.neg {a b c d u : Int} (h : Btw a b c d u) : Btw (-a) (-b) (-c) (-d) (-u) := by unfold Btw at *; omega
end Sp
namespace Sp
theorem po_ex : ∀ n : Nat, ∃ x y, po x y = (n : Nat)
  | 0 => ⟨0, 0, by decide⟩
  | n + 1 => by
    obtain ⟨x, y, h⟩ := po_ex n
    rcases (beside x y).1 with e | e | e | e
    · exact ⟨_, _, by rw [e, h]; omega⟩
    · exact ⟨_, _, by rw [e, h]; omega⟩
    · exact ⟨_, _, by rw [e, h]; omega⟩
    · exact ⟨_, _, by rw [e, h]; omega⟩
theorem at_ex {q : Nat} (hq : q < 4) (r : Bool) {n : Int} (h : 0 ≤ n) : ∃ p : Int × Int, at' q r p.1 p.2 = n := by
  obtain ⟨x, y, e⟩ := po_ex n.toNat
  exact ⟨(fpx q r x y, fpy q r x y), by rw [at_fp hq, e]; omega⟩
open Classical in
noncomputable def plc (q : Nat) (r : Bool) (n : Int) : Int × Int := if h : ∃ p : Int × Int, at' q r p.1 p.2 = n then choose h else (0, 0)
noncomputable def px (q : Nat) (r : Bool) (n : Int) : Int := (plc q r n).1
noncomputable def py (q : Nat) (r : Bool) (n : Int) : Int := (plc q r n).2
theorem pl_at {q : Nat} (hq : q < 4) (r : Bool) {n : Int} (h : 0 ≤ n) : at' q r (px q r n) (py q r n) = n := by
  unfold px py plc
  rw [dif_pos (at_ex hq r h)]
  exact Classical.choose_spec (at_ex hq r h)
theorem pl_eq {q : Nat} (hq : q < 4) {r : Bool} {x y n : Int} (h : at' q r x y = n) : x = px q r n ∧ y = py q r n := by
  have h0 := at_nonneg q r x y
  exact at_inj hq (r := r) (h.trans (pl_at hq r (by omega)).symm)
end Sp
namespace K
open PySem L2 DL Sp
abbrev prD (x y : Int) : PyData := .tuple [.int x, .int y]
end K
namespace K18
open PySem L2 DL Sp K
def SeedB (o : MO) (c : Nat) : Prop := ∃ g f t x : Int, o = .lst [I g, I f, I t, I x] ∧ 0 ≤ g ∧ (0 ≤ x ∧ x < 2 ^ 31) ∧ 0 ≤ t ∧ t ≤ c
theorem SeedB.mono {o : MO} {c d : Nat} (h : SeedB o c) (l : c ≤ d) : SeedB o d := by
  obtain ⟨g, f, t, x, e, h1, h2, h3, h4⟩ := h
  exact ⟨g, f, t, x, e, h1, h2, h3, by omega⟩
def hds (q : Nat) (r : Bool) : Str := if q = 0 then (if r then "eswn" else "enws") else if q = 1 then (if r then "nesw" else "nwse") else if q = 2 then (if r then "wnes" else "wsen") else (if r then "swne" else "senw")
def F__law_spiral : FD := fun ds m Q => ∃ a o c, ds = [.r a] ∧ m a = some o ∧ SeedB o c ∧ c < 2 ^ 36 ∧ ∀ s q r o', (-(10 ^ 18) ≤ s ∧ s ≤ 10 ^ 18) → q < 4 → SeedB o' (c + 7) → Q (spi s q r) (setM m a o')
noncomputable def laidD (q : Nat) (r : Bool) (n : Nat) : List PyData := (List.range n).map fun i => prD (px q r (i : Nat)) (py q r (i : Nat))
def F_law : FD := fun ds m Q => ∃ ns : List Int, ds = [.d (.list (ns.map .int))] ∧ ns.length ≤ 63 ∧ ∀ m', Q (.d (.bool true)) m'
theorem mo__law_spiral : MoA F__law_spiral := fun _ _ _ _ h ⟨a, o, c, e, h1, h2, h3, z⟩ => ⟨a, o, c, e, h1, h2, h3, fun s q r o' a b d => h _ _ (z s q r o' a b d)⟩
theorem mo_law : MoA F_law := fun _ _ _ _ h ⟨ns, e, l, z⟩ => ⟨ns, e, l, fun m' => h _ _ (z m')⟩
end K18
namespace K
open PySem L2 DL Sp
theorem sub_new {m : M} {p : Addr} {o : MO} (h : m p = none) : SubM m (setM m p o) := fun b q hb => by
  rw [setM_ne (fun e => by rw [e, h] at hb; cases hb)]; exact hb
end K
namespace K18
open PySem L2 DL Sp K
theorem pl0 {q : Nat} (hq : q < 4) (r : Bool) : px q r 0 = 0 ∧ py q r 0 = 0 := by
  have e : at' q r 0 0 = 0 := by
    unfold at'
    have : tpx q r 0 0 = 0 ∧ tpy q r 0 0 = 0 := by
      rcases (show q = 0 ∨ q = 1 ∨ q = 2 ∨ q = 3 by omega) with rfl | rfl | rfl | rfl <;> cases r <;> simp [tpx, tpy, rotx, roty, mir]
    rw [this.1, this.2]; decide
  obtain ⟨a, b⟩ := pl_eq hq e
  exact ⟨a.symm, b.symm⟩
theorem laid_len (q : Nat) (r : Bool) (n : Nat) : (laidD q r n).length = n := by unfold laidD; rw [List.length_map, List.length_range]
theorem laid1 {q : Nat} (hq : q < 4) (r : Bool) : laidD q r 1 = [prD 0 0] := by
  obtain ⟨a, b⟩ := pl0 hq r
  show [prD (px q r ((0 : Nat) : Int)) (py q r ((0 : Nat) : Int))] = _
  rw [show ((0 : Nat) : Int) = 0 from rfl, a, b]
theorem laid_succ (q : Nat) (r : Bool) (n : Nat) : laidD q r (n + 1) = laidD q r n ++ [prD (px q r (n : Nat)) (py q r (n : Nat))] := by
  unfold laidD; rw [List.range_succ, List.map_append]; rfl
theorem pl_step {q : Nat} (hq4 : q < 4) {r : Bool} {k n : Int} (hk : 0 ≤ k) (h1 : co k ≤ n) (h2 : n < co (k + 1)) : px q r (n + 1) = px q r n + sx (hq q r k) ∧ py q r (n + 1) = py q r n + sy (hq q r k) := by
  have st := co_step hk
  have c0 := pl_at hq4 r (co_nn k)
  have e1 := at_run hq4 (r := r) (i := n - co k) hk c0 (by omega) (by omega)
  have e2 := at_run hq4 (r := r) (i := n + 1 - co k) hk c0 (by omega) (by omega)
  obtain ⟨a, b⟩ := pl_eq hq4 (n := n) (by rw [e1]; omega)
  obtain ⟨c, d⟩ := pl_eq hq4 (n := n + 1) (by rw [e2]; omega)
  rw [← a, ← b, ← c, ← d]
  generalize sx (hq q r k) = u
  generalize sy (hq q r k) = v
  constructor <;> grind
noncomputable def laidL (q : Nat) (r : Bool) (n : Nat) : List Dv := (laidD q r n).map Dv.d
theorem isT_ib : isT "int" "bool" = false := by decide
theorem isT_ii : isT "int" "int" = true := by decide
theorem isT_tt : isT "tuple" "tuple" = true := by decide
theorem laidL_len (q : Nat) (r : Bool) (n : Nat) : (laidL q r n).length = n := by unfold laidL; rw [List.length_map, laid_len]
theorem laidL1 {q : Nat} (hq : q < 4) (r : Bool) : laidL q r 1 = [pr 0 0] := by unfold laidL; rw [laid1 hq]; rfl
theorem laidL_succ (q : Nat) (r : Bool) (n : Nat) : laidL q r (n + 1) = laidL q r n ++ [pr (px q r (n : Nat)) (py q r (n : Nat))] := by
  unfold laidL; rw [laid_succ, List.map_append]; rfl
theorem atI_last {α : Type} (xs : List α) (a : α) : atI (xs ++ [a]) (-1) = some a := by
  unfold atI ixN
  rw [if_neg (by decide)]
  simp only [List.length_append, List.length_cons, List.length_nil]
  rw [if_pos (by omega)]
  rw [show (-1 + ((xs.length + (0 + 1) : Nat) : Int)).toNat = xs.length by omega]
  simp
theorem last_laid (q : Nat) (r : Bool) (n : Nat) : atI (laidL q r (n + 1)) (-1) = some (pr (px q r (n : Nat)) (py q r (n : Nat))) := by rw [laidL_succ]; exact atI_last _ _
theorem cut_take (xs : List PyData) (n : Int) (h0 : 0 ≤ n) (h : n ≤ xs.length) : cutD xs none (some n) = xs.take n.toNat := by
  unfold cutD
  simp only [HT.sIx, List.drop_zero, Nat.sub_zero]
  rw [if_neg (by omega)]
  congr 1
  omega
theorem cut_laid (q : Nat) (r : Bool) {N : Nat} {n : Int} (h0 : 0 ≤ n) (h : n ≤ N) : cutD (laidD q r N) none (some n) = laidD q r n.toNat := by
  rw [cut_take _ _ h0 (by rw [laid_len]; exact h)]
  unfold laidD
  rw [← List.map_take, List.take_range, Nat.min_eq_left (by omega)]
end K18
namespace K10
open PySem L2 DL Sp K K11
open K18 (laidD laidL laid_len laidL_len laidL_succ laidL1 last_laid cut_laid pl_step)
def F__law_same : FD := fun ds m Q => ∃ d : PyData, ds = [.d d, .d d] ∧ ((∃ x : Int, d = .int x) ∨ ∃ ns : List Int, ns.length ≤ 2 ^ 20 ∧ d = .tuple (ns.map .int)) ∧ Q (.d (.bool true)) m
theorem mo__law_same : MoA F__law_same := fun _ _ _ _ h ⟨d, e, c, z⟩ => ⟨d, e, c, h _ _ z⟩
def F_law : FD := fun ds m Q => ∃ ns : List Int, ds = [.d (.list (ns.map .int))] ∧ (ns.length ≤ 63 ∧ bitsOf ns ≤ 2 ^ 20) ∧ ∀ m', Q (.d (.bool true)) m'
theorem mo_law : MoA F_law := fun _ _ _ _ h ⟨ns, e, l, z⟩ => ⟨ns, e, l, fun m' => h _ _ (z m')⟩
theorem isT_it : isT "int" "tuple" = false := by decide
theorem isT_is : isT "int" "str" = false := by decide
theorem po_sides {u v : Int} : (u = ring u v → v ≤ -(ring u v) → False) → True := fun _ => trivial
abbrev F__law_deck : FD := K11.F__law_deck
abbrev F__law_spiral : FD := K11.F__law_spiral
theorem mo__law_deck : MoA F__law_deck := K11.mo__law_deck
theorem mo__law_spiral : MoA F__law_spiral := K11.mo__law_spiral
def forB (xs : List Dv) (still : M → Prop) (g : TGd) (tb : TSd) (D : DEnds) (δ : Dn) (m1 : M) : Prop := ∃ Pv : Nat → Dn → M → Prop, Pv 0 δ m1 ∧ (∀ i δ m, Pv i δ m → still m) ∧
  (∀ i x δ m, xs[i]? = some x → Pv i δ m → g x δ m fun δ2 m2 => tb { D with nx := Pv (i + 1), ct := Pv (i + 1), bk := D.nx } δ2 m2) ∧ ∀ δ m, Pv xs.length δ m → D.nx δ m
theorem for_out {w : TId} {g : TGd} {tb : TSd} {D : DEnds} {δ : Dn} {m : M} (h : w δ m fun xs still m1 => forB xs still g tb D δ m1) : sFor w g tb D δ m := h
theorem forB_its {xs : List Dv} {g : TGd} {tb : TSd} {D : DEnds} {δ : Dn} {m : M} (Pv : Nat → Dn → M → Prop) (h0 : Pv 0 δ m)
    (ht : ∀ i x δ m, xs[i]? = some x → Pv i δ m → g x δ m fun δ2 m2 => tb { D with nx := Pv (i + 1), ct := Pv (i + 1), bk := D.nx } δ2 m2) (hd : ∀ δ m, Pv xs.length δ m → D.nx δ m) : forB xs (fun _ => True) g tb D δ m :=
  ⟨Pv, h0, fun _ _ _ _ => trivial, ht, hd⟩
end K10
namespace KC
open PySem L2 DL Sp K K11
def flt (d : PyData) : Prop := (∃ x : Int, d = .int x) ∨ (∃ x : Str, d = .str x ∧ SeqAt.shaped (.str x) = true)
def F__law_same : FD := fun ds m Q => ∃ d, ds = [.d d, .d d] ∧ (flt d ∨ d = .none ∨ ∃ xs : List PyData, xs.length ≤ 2 ^ 20 ∧ (∀ x ∈ xs, flt x) ∧ d = .tuple xs) ∧ Q (.d (.bool true)) m
theorem mo__law_same : MoA F__law_same := fun _ _ _ _ h ⟨d, e, l, z⟩ => ⟨d, e, l, h _ _ z⟩
theorem isT_ss : isT "str" "str" = true := by decide
theorem isT_st : isT "str" "tuple" = false := by decide
theorem isT_ts : isT "tuple" "str" = false := by decide
abbrev F_law : FD := K11.F_law
theorem mo_law : MoA F_law := K11.mo_law
abbrev F__law_deck : FD := K11.F__law_deck
abbrev F__law_spiral : FD := K11.F__law_spiral
theorem mo__law_deck : MoA F__law_deck := K11.mo__law_deck
theorem mo__law_spiral : MoA F__law_spiral := K11.mo__law_spiral
end KC
namespace KC
open PySem L2 DL Sp K K11
def tri (s : Int) (q : Nat) (r : Bool) (k : Int) : PyData := .tuple [.int (s + co k), .int (s + co (k + 1)), .str (hdS (hq q r k))]
end KC
namespace KC
open PySem L2 DL Sp K K11
end KC
set_option maxHeartbeats 4000000
namespace K02
open PySem L2 DL Sp
open K hiding F_law mo_law
open _root_.KT hiding F_read_spiral mo_read_spiral F__law_same mo__law_same
open KU
open KC (isT_ss isT_st isT_ts)
open K10 (for_out forB_its isT_it isT_is)
open K18 (isT_ib isT_ii isT_tt)
abbrev F_law : Addr → DL.FD := KT.F_law
theorem mo_law {P : Addr} : DL.MoA (F_law P) := KT.mo_law
def top (i : Nat) : Stmt := PySem.Challenge.pw_laidround_k02_texts_of_no_spirals.main.body.getD i (.Pass ⟨0, 0, 0, 0⟩)
abbrev s__law_deck : Stmt := top 14
abbrev s__law_mix : Stmt := top 13
abbrev s__law_next : Stmt := top 15
abbrev s__law_great : Stmt := top 16
abbrev s__law_spiral : Stmt := top 17
abbrev s__law_kind : Stmt := top 18
abbrev s__law_sign : Stmt := top 19
abbrev s__law_spoilt : Stmt := top 20
abbrev s_is_written_number : Stmt := top 10
abbrev s_read_spiral : Stmt := top 11
abbrev s__law_due : Stmt := top 21
abbrev s__law_right : Stmt := top 22
abbrev s_law : Stmt := top 23
structure Tx (P : Program) (w : World) (K : PySem.W.Frag) (mg : Str → Option Value) (base : Heap) where
  a__law_deck : Addr
  fd__law_deck : FuncData
  F__law_deck : Fun K "_law_deck" "_law_deck" s__law_deck a__law_deck fd__law_deck
  m__law_deck : mg "_law_deck" = some (.ref a__law_deck)
  n__law_deck : Binds K fd__law_deck ["script"] []
  a__law_mix : Addr
  fd__law_mix : FuncData
  F__law_mix : Fun K "_law_mix" "_law_mix" s__law_mix a__law_mix fd__law_mix
  m__law_mix : mg "_law_mix" = some (.ref a__law_mix)
  n__law_mix : Binds K fd__law_mix ["cell", "k"] []
  a__law_next : Addr
  fd__law_next : FuncData
  F__law_next : Fun K "_law_next" "_law_next" s__law_next a__law_next fd__law_next
  m__law_next : mg "_law_next" = some (.ref a__law_next)
  n__law_next : Binds K fd__law_next ["deck", "many"] []
  a__law_great : Addr
  fd__law_great : FuncData
  F__law_great : Fun K "_law_great" "_law_great" s__law_great a__law_great fd__law_great
  m__law_great : mg "_law_great" = some (.ref a__law_great)
  n__law_great : Binds K fd__law_great ["deck", "most"] []
  a__law_spiral : Addr
  fd__law_spiral : FuncData
  F__law_spiral : Fun K "_law_spiral" "_law_spiral" s__law_spiral a__law_spiral fd__law_spiral
  m__law_spiral : mg "_law_spiral" = some (.ref a__law_spiral)
  n__law_spiral : Binds K fd__law_spiral ["deck"] []
  a__law_kind : Addr
  fd__law_kind : FuncData
  F__law_kind : Fun K "_law_kind" "_law_kind" s__law_kind a__law_kind fd__law_kind
  m__law_kind : mg "_law_kind" = some (.ref a__law_kind)
  n__law_kind : Binds K fd__law_kind ["caught"] []
  a__law_sign : Addr
  fd__law_sign : FuncData
  F__law_sign : Fun K "_law_sign" "_law_sign" s__law_sign a__law_sign fd__law_sign
  m__law_sign : mg "_law_sign" = some (.ref a__law_sign)
  n__law_sign : Binds K fd__law_sign ["deck"] []
  a__law_spoilt : Addr
  fd__law_spoilt : FuncData
  F__law_spoilt : Fun K "_law_spoilt" "_law_spoilt" s__law_spoilt a__law_spoilt fd__law_spoilt
  m__law_spoilt : mg "_law_spoilt" = some (.ref a__law_spoilt)
  n__law_spoilt : Binds K fd__law_spoilt ["deck", "text"] []
  a_is_written_number : Addr
  fd_is_written_number : FuncData
  F_is_written_number : Fun K "is_written_number" "is_written_number" s_is_written_number a_is_written_number fd_is_written_number
  m_is_written_number : mg "is_written_number" = some (.ref a_is_written_number)
  n_is_written_number : Binds K fd_is_written_number ["text"] []
  a_read_spiral : Addr
  fd_read_spiral : FuncData
  F_read_spiral : Fun K "read_spiral" "read_spiral" s_read_spiral a_read_spiral fd_read_spiral
  m_read_spiral : mg "read_spiral" = some (.ref a_read_spiral)
  n_read_spiral : Binds K fd_read_spiral ["text"] []
  a__law_due : Addr
  fd__law_due : FuncData
  F__law_due : Fun K "_law_due" "_law_due" s__law_due a__law_due fd__law_due
  m__law_due : mg "_law_due" = some (.ref a__law_due)
  n__law_due : Binds K fd__law_due ["text"] []
  a__law_right : Addr
  fd__law_right : FuncData
  F__law_right : Fun K "_law_right" "_law_right" s__law_right a__law_right fd__law_right
  m__law_right : mg "_law_right" = some (.ref a__law_right)
  n__law_right : Binds K fd__law_right ["text"] []
  a_law : Addr
  fd_law : FuncData
  F_law : Fun K "law" "law" s_law a_law fd_law
  m_law : mg "law" = some (.ref a_law)
  n_law : Binds K fd_law ["script"] []
  b_ValueError : mg "ValueError" = none
  b_abs : mg "abs" = none
  b_all : mg "all" = none
  b_bool : mg "bool" = none
  b_int : mg "int" = none
  b_isinstance : mg "isinstance" = none
  b_len : mg "len" = none
  b_max : mg "max" = none
  b_range : mg "range" = none
  b_str : mg "str" = none
  b_sum : mg "sum" = none
  b_tuple : mg "tuple" = none
  a_HEADINGS : Addr
  m_HEADINGS : mg "HEADINGS" = some (.ref a_HEADINGS)
  d_HEADINGS : ∀ I, Dp K I (.ref a_HEADINGS) (.tuple [.str "e", .str "n", .str "w", .str "s"])
  t_HEADINGS : Array Value
  c_HEADINGS : Nat
  l_HEADINGS : Array (Option Value)
  k_HEADINGS : K.lookup a_HEADINGS = some ⟨.type "tuple", none, .seq t_HEADINGS c_HEADINGS, l_HEADINGS⟩
  s_HEADINGS : ∀ I, SqT K I a_HEADINGS [.str "e", .str "n", .str "w", .str "s"]
  a_HEADINGS_all : ∀ I, DpAll K I [.str "e", .str "n", .str "w", .str "s"] [.str "e", .str "n", .str "w", .str "s"]
  a_TURNS : Addr
  m_TURNS : mg "TURNS" = some (.ref a_TURNS)
  d_TURNS : ∀ I, Dp K I (.ref a_TURNS) (.tuple [.str "l", .str "r"])
  t_TURNS : Array Value
  c_TURNS : Nat
  l_TURNS : Array (Option Value)
  k_TURNS : K.lookup a_TURNS = some ⟨.type "tuple", none, .seq t_TURNS c_TURNS, l_TURNS⟩
  s_TURNS : ∀ I, SqT K I a_TURNS [.str "l", .str "r"]
  a_TURNS_all : ∀ I, DpAll K I [.str "l", .str "r"] [.str "l", .str "r"]
  a_LaidError : Addr
  m_LaidError : mg "LaidError" = some (.ref a_LaidError)
  a_NoSpiral : Addr
  m_NoSpiral : mg "NoSpiral" = some (.ref a_NoSpiral)
  a_NoBox : Addr
  m_NoBox : mg "NoBox" = some (.ref a_NoBox)
  a_NoAsk : Addr
  m_NoAsk : mg "NoAsk" = some (.ref a_NoAsk)
  a_NoNumber : Addr
  m_NoNumber : mg "NoNumber" = some (.ref a_NoNumber)
  kB_ValueError : PySem.W.kitOne K (.ref a_NoSpiral) (.type "ValueError") = some true
  UB : Under K a_NoSpiral a_LaidError
  EB : ExcK K a_NoSpiral
  Pl : Pln K a_NoSpiral
  X_NoBox : ExcK K a_NoBox
  X_NoNumber : ExcK K a_NoNumber
  X_NoSpiral : ExcK K a_NoSpiral
  X_NoAsk : ExcK K a_NoAsk
  q_NoBox_NoBox : PySem.W.kitOne K (.ref a_NoBox) (.ref a_NoBox) = some true
  q_NoBox_NoNumber : PySem.W.kitOne K (.ref a_NoBox) (.ref a_NoNumber) = some false
  q_NoBox_NoSpiral : PySem.W.kitOne K (.ref a_NoBox) (.ref a_NoSpiral) = some false
  q_NoBox_NoAsk : PySem.W.kitOne K (.ref a_NoBox) (.ref a_NoAsk) = some false
  q_NoBox_LaidError : PySem.W.kitOne K (.ref a_NoBox) (.ref a_LaidError) = some true
  q_NoBox_ValueError : PySem.W.kitOne K (.ref a_NoBox) (.type "ValueError") = some true
  q_NoNumber_NoBox : PySem.W.kitOne K (.ref a_NoNumber) (.ref a_NoBox) = some false
  q_NoNumber_NoNumber : PySem.W.kitOne K (.ref a_NoNumber) (.ref a_NoNumber) = some true
  q_NoNumber_NoSpiral : PySem.W.kitOne K (.ref a_NoNumber) (.ref a_NoSpiral) = some false
  q_NoNumber_NoAsk : PySem.W.kitOne K (.ref a_NoNumber) (.ref a_NoAsk) = some false
  q_NoNumber_LaidError : PySem.W.kitOne K (.ref a_NoNumber) (.ref a_LaidError) = some true
  q_NoNumber_ValueError : PySem.W.kitOne K (.ref a_NoNumber) (.type "ValueError") = some true
  q_NoSpiral_NoBox : PySem.W.kitOne K (.ref a_NoSpiral) (.ref a_NoBox) = some false
  q_NoSpiral_NoNumber : PySem.W.kitOne K (.ref a_NoSpiral) (.ref a_NoNumber) = some false
  q_NoSpiral_NoSpiral : PySem.W.kitOne K (.ref a_NoSpiral) (.ref a_NoSpiral) = some true
  q_NoSpiral_NoAsk : PySem.W.kitOne K (.ref a_NoSpiral) (.ref a_NoAsk) = some false
  q_NoSpiral_LaidError : PySem.W.kitOne K (.ref a_NoSpiral) (.ref a_LaidError) = some true
  q_NoSpiral_ValueError : PySem.W.kitOne K (.ref a_NoSpiral) (.type "ValueError") = some true
  q_NoAsk_NoBox : PySem.W.kitOne K (.ref a_NoAsk) (.ref a_NoBox) = some false
  q_NoAsk_NoNumber : PySem.W.kitOne K (.ref a_NoAsk) (.ref a_NoNumber) = some false
  q_NoAsk_NoSpiral : PySem.W.kitOne K (.ref a_NoAsk) (.ref a_NoSpiral) = some false
  q_NoAsk_NoAsk : PySem.W.kitOne K (.ref a_NoAsk) (.ref a_NoAsk) = some true
  q_NoAsk_LaidError : PySem.W.kitOne K (.ref a_NoAsk) (.ref a_LaidError) = some true
  q_NoAsk_ValueError : PySem.W.kitOne K (.ref a_NoAsk) (.type "ValueError") = some true
  P_NoBox : Pln K a_NoBox
  S_NoBox : StrK K a_NoBox
  P_NoSpiral : Pln K a_NoSpiral
  S_NoSpiral : StrK K a_NoSpiral
  P_NoAsk : Pln K a_NoAsk
  S_NoAsk : StrK K a_NoAsk
  U : Under K a_NoNumber a_LaidError
  E : ExcK K a_NoNumber
  Nu : ∀ base, Num P w K mg base a_NoNumber
  aP : Addr
  aC : Addr
  gk : GenK K aC aP
  bm : BmB base mg
  gc : fd_is_written_number.code = .ref aC
  t_FIGURES : Tok
  m_FIGURES : mg "FIGURES" = some (.str "0123456789" t_FIGURES)
section
variable {P : Program} {w : World} {K : PySem.W.Frag} {mg : Str → Option Value} {base : Heap}
theorem sc__law_deck : FnScope ["script"] ["script"] (defScope s__law_deck) := ⟨rfl, rfl, rfl, by decide +kernel, rfl, by decide +kernel, by decide +kernel⟩
theorem ok__law_deck (T : Tx P w K mg base) : FnOk P w K mg base CX0 1 T.a__law_deck T.fd__law_deck ["script"] (spD K F__law_deck) := by
  refine Fun.okD T.F__law_deck sc__law_deck mo__law_deck (fun ds m Q h => ?_) (fun cdv A outer s H E hr => ?_)
  · unfold F__law_deck at h; obtain ⟨ns, rfl, l, z⟩ := h; rfl
  · refine ⟨_, (dss_one (ds_ret (de_lstM (da_cons (de_slice (dv 0) do_none (do_some de_int)) (da_cons de_int (da_cons de_int (da_cons de_int (da_cons (de_sum rfl (by rfl) T.b_sum (da_cons (de_slice (dv 0) do_none (do_some de_int)) da_nil)) da_nil)))))))), fun ds m Q h => ?_⟩
    obtain ⟨ns, rfl, l, z⟩ := h
    try simp only [sSeq, sAsg, sRet, sIf, sDrop, sNext, sNever, dOp, dUn, dVar, dC, dTest, isBool, dAnd, dOr, dNot, dAndV, dOrV, dNotV, dIf, dCons, dNil, dTup, dLst, dLstM, datas, dCall, dCB, gI0, gI, gB0, g1I, gAdd, gEqD, gNeD, gIx, gIn, g1A, g2A, gInt, gLen, gTuple, gSum, gBest, dSl, dNoPart, dPart, dgName, dgTup, dgCons, dgNil, dgSub, gSetI, dIndexT, dChain, startD, List.map_cons, List.map_nil, List.length_cons, List.length_nil, List.replicate, List.append, List.cons_append, List.nil_append, List.getElem?_cons_zero, List.getElem?_cons_succ, List.set_cons_zero, List.set_cons_succ, Option.some.injEq, Dv.d.injEq, Dv.r.injEq, PyData.tuple.injEq, PyData.list.injEq, PyData.str.injEq, PyData.int.injEq, exists_eq_left', Option.map_some, Nat.zero_add, Nat.reduceAdd, Nat.reduceSub, true_and, and_true, exists_and_left, at0, at1, at2, at3, at4, eqv_int, shaped_int, eqv_pr, shaped_pr, bes, intsD, in4, flat4, flatI, Bool.not_eq_true', decide_eq_false_iff_not, not_true_eq_false, if_true, if_false, Bool.not_true, Bool.not_false, Bool.false_eq_true, Bool.true_eq_false, Bool.or_eq_false_iff,  shaped_tn, shaped_hd, shaped_r, decide_eq_true_eq, sizeLine_eq, Nat.reduceLeDiff, Int.reduceToNat, Int.reducePow, Int.reduceMul, Int.reduceAdd, Int.reduceSub, Int.reduceNeg, Int.reduceMod, setM_same, MO.lst.injEq, setM_setM, ix0, ix1, ix2, ix3, ix4]
    have e : cutD (List.map PyData.int ns) none (some 63) = List.map PyData.int ns := by
      unfold cutD
      simp only [HT.sIx, List.drop_zero, List.length_map, Nat.sub_zero]
      rw [if_neg (by decide)]
      exact List.take_of_length_le (by rw [List.length_map]; show ns.length ≤ min (Int.toNat 63) ns.length; have : (Int.toNat 63) = 63 := rfl; omega)
    rw [e]
    exact ⟨ns, rfl, fun p hp => z p _ hp ⟨ns, 0, 0, 0, _, rfl, l, by decide, by omega, by decide, by decide⟩⟩
theorem sc__law_mix : FnScope ["cell", "k", "number"] ["cell", "k"] (defScope s__law_mix) := ⟨rfl, rfl, rfl, by decide +kernel, rfl, by decide +kernel, by decide +kernel⟩
theorem ok__law_mix (T : Tx P w K mg base) : FnOk P w K mg base CX0 1 T.a__law_mix T.fd__law_mix ["cell", "k"] (spD K F__law_mix) := by
  refine Fun.okD T.F__law_mix sc__law_mix mo__law_mix (fun ds m Q h => ?_) (fun cdv A outer s H E hr => ?_)
  · unfold F__law_mix at h; obtain ⟨c, k, rfl, l, z⟩ := h; rfl
  · refine ⟨_, (dss_cons (ds_set (i := 2) sc__law_mix.nd rfl (by first | exact Or.inl rfl | exact Or.inr rfl) (de_add (de_mod (dv 0) de_int) (de_mul (de_mul de_int (dv 1)) (dv 1))))
      (dss_cons (ds_set (i := 2) sc__law_mix.nd rfl (by first | exact Or.inl rfl | exact Or.inr rfl) (de_mod (de_add (dv 2) (de_mul de_int (dv 1))) de_int))
      (dss_cons (ds_set (i := 2) sc__law_mix.nd rfl (by first | exact Or.inl rfl | exact Or.inr rfl) (de_mod (de_mul (dv 2) (dv 2)) de_int))
      (dss_one (ds_ret (de_fdiv (de_mod (de_mul (dv 2) (de_add (dv 2) de_int)) de_int) de_int)))))), fun ds m Q h => ?_⟩
    obtain ⟨c, k, rfl, l, z⟩ := h
    try simp only [sSeq, sAsg, sRet, sIf, sDrop, sNext, sNever, dOp, dUn, dVar, dC, dTest, isBool, dAnd, dOr, dNot, dAndV, dOrV, dNotV, dIf, dCons, dNil, dTup, dLst, dLstM, datas, dCall, dCB, gI0, gI, gB0, g1I, gAdd, gEqD, gNeD, gIx, gIn, g1A, g2A, gInt, gLen, gTuple, gSum, gBest, dSl, dNoPart, dPart, dgName, dgTup, dgCons, dgNil, dgSub, gSetI, dIndexT, dChain, startD, List.map_cons, List.map_nil, List.length_cons, List.length_nil, List.replicate, List.append, List.cons_append, List.nil_append, List.getElem?_cons_zero, List.getElem?_cons_succ, List.set_cons_zero, List.set_cons_succ, Option.some.injEq, Dv.d.injEq, Dv.r.injEq, PyData.tuple.injEq, PyData.list.injEq, PyData.str.injEq, PyData.int.injEq, exists_eq_left', Option.map_some, Nat.zero_add, Nat.reduceAdd, Nat.reduceSub, true_and, and_true, exists_and_left, at0, at1, at2, at3, at4, eqv_int, shaped_int, eqv_pr, shaped_pr, bes, intsD, in4, flat4, flatI, Bool.not_eq_true', decide_eq_false_iff_not, not_true_eq_false, if_true, if_false, Bool.not_true, Bool.not_false, Bool.false_eq_true, Bool.true_eq_false, Bool.or_eq_false_iff,  shaped_tn, shaped_hd, shaped_r, decide_eq_true_eq, sizeLine_eq, Nat.reduceLeDiff, Int.reduceToNat, Int.reducePow, Int.reduceMul, Int.reduceAdd, Int.reduceSub, Int.reduceNeg, Int.reduceMod, setM_same, MO.lst.injEq, setM_setM, ix0, ix1, ix2, ix3, ix4]
    have h1 : 0 ≤ (c % 2147483629 + 1000003 * k * k + 7919 * k) % 2147483629 ∧ (c % 2147483629 + 1000003 * k * k + 7919 * k) % 2147483629 < 2147483629 := ⟨Int.emod_nonneg _ (by decide), Int.emod_lt_of_pos _ (by decide)⟩
    generalize (c % 2147483629 + 1000003 * k * k + 7919 * k) % 2147483629 = u at *
    have h2 : 0 ≤ u * u % 2147483587 ∧ u * u % 2147483587 < 2147483587 := ⟨Int.emod_nonneg _ (by decide), Int.emod_lt_of_pos _ (by decide)⟩
    generalize u * u % 2147483587 = v at *
    have h3 : 0 ≤ v * (v + 40961) % 2147483563 ∧ v * (v + 40961) % 2147483563 < 2147483563 := ⟨Int.emod_nonneg _ (by decide), Int.emod_lt_of_pos _ (by decide)⟩
    have hz := z (v * (v + 40961) % 2147483563 / 4) (by omega) (by omega)
    repeat' (first | exact hz | refine And.intro ?_ ?_ | (show CMul _ _; unfold CMul; omega) | (show CDivB _ _; unfold CDivB; omega) | omega | decide)
theorem sc__law_next : FnScope ["deck", "many", "cell", "found"] ["deck", "many"] (defScope s__law_next) := ⟨rfl, rfl, rfl, by decide +kernel, rfl, by decide +kernel, by decide +kernel⟩
theorem ok__law_next (T : Tx P w K mg base) : FnOk P w K mg base CX0 2 T.a__law_next T.fd__law_next ["deck", "many"] (spD K F__law_next) := by
  refine Fun.okD T.F__law_next sc__law_next mo__law_next (fun ds m Q h => ?_) (fun cdv A outer s H E hr => ?_)
  · unfold F__law_next at h; obtain ⟨a, many, o, c, rfl, l, hm, hd, hc, z⟩ := h; rfl
  · refine ⟨_, (dss_cons (ds_if (DW.dt (dw_and (dt_eq hr (de_ix (dv 0) de_int) de_int) (dw_and1 (dt_lt (de_ix (dv 0) de_int) (de_len (by rfl) T.b_len (da_cons (de_ix (dv 0) de_int) da_nil)))))) (dss_cons (ds_set (i := 2) sc__law_next.nd rfl (by first | exact Or.inl rfl | exact Or.inr rfl) (de_ix (de_ix (dv 0) de_int) (de_ix (dv 0) de_int)))
      (dss_cons (ds_asg (de_add (de_ix (dv 0) de_int) de_int) (dg_sub (dv 0) de_int))
      (dss_cons (ds_if (dt_lt (dv 2) (de_pow de_int de_int)) (dss_one (ds_ret (de_mod (de_call mo__law_mix ((ok__law_mix T).mono (by decide : 1 ≤ 1)) hr (by rfl) T.m__law_mix T.F__law_mix.kp T.n__law_mix (da_cons (dv 2) (da_cons (de_ix (dv 0) de_int) da_nil))) (dv 1)))) dss_nil)
      (dss_one (ds_asg (dv 2) (dg_sub (dv 0) de_int)))))) dss_nil)
      (dss_cons (ds_if (dt_gt (de_ix (dv 0) de_int) de_int) (dss_cons (ds_set (i := 3) sc__law_next.nd rfl (by first | exact Or.inl rfl | exact Or.inr rfl) (de_mod (de_ix (dv 0) de_int) (dv 1)))
      (dss_cons (ds_asg (de_fdiv (de_ix (dv 0) de_int) (dv 1)) (dg_sub (dv 0) de_int))
      (dss_one (ds_ret (dv 3))))) dss_nil)
      (dss_cons (ds_asg (de_add (de_ix (dv 0) de_int) de_int) (dg_sub (dv 0) de_int))
      (dss_one (ds_ret (de_mod (de_call mo__law_mix ((ok__law_mix T).mono (by decide : 1 ≤ 1)) hr (by rfl) T.m__law_mix T.F__law_mix.kp T.n__law_mix (da_cons (de_ix (dv 0) de_int) (da_cons (de_add (de_ix (dv 0) de_int) de_int) da_nil))) (dv 1))))))), fun ds m Q h => ?_⟩
    obtain ⟨a, many, o, c, rfl, l, hm, hd, hc, z⟩ := h
    obtain ⟨ns, i1, i2, i3, i4, rfl, hn, h1, h1b, h3, h3b⟩ := hd
    try simp only [sSeq, sAsg, sRet, sIf, sDrop, sNext, sNever, dOp, dUn, dVar, dC, dTest, isBool, dAnd, dOr, dNot, dAndV, dOrV, dNotV, dIf, dCons, dNil, dTup, dLst, dLstM, datas, dCall, dCB, gI0, gI, gB0, g1I, gAdd, gEqD, gNeD, gIx, gIn, g1A, g2A, gInt, gLen, gTuple, gSum, gBest, dSl, dNoPart, dPart, dgName, dgTup, dgCons, dgNil, dgSub, gSetI, dIndexT, dChain, startD, List.map_cons, List.map_nil, List.length_cons, List.length_nil, List.replicate, List.append, List.cons_append, List.nil_append, List.getElem?_cons_zero, List.getElem?_cons_succ, List.set_cons_zero, List.set_cons_succ, Option.some.injEq, Dv.d.injEq, Dv.r.injEq, PyData.tuple.injEq, PyData.list.injEq, PyData.str.injEq, PyData.int.injEq, exists_eq_left', Option.map_some, Nat.zero_add, Nat.reduceAdd, Nat.reduceSub, true_and, and_true, exists_and_left, at0, at1, at2, at3, at4, eqv_int, shaped_int, eqv_pr, shaped_pr, bes, intsD, in4, flat4, flatI, Bool.not_eq_true', decide_eq_false_iff_not, not_true_eq_false, if_true, if_false, Bool.not_true, Bool.not_false, Bool.false_eq_true, Bool.true_eq_false, Bool.or_eq_false_iff,  shaped_tn, shaped_hd, shaped_r, decide_eq_true_eq, sizeLine_eq, Nat.reduceLeDiff, Int.reduceToNat, Int.reducePow, Int.reduceMul, Int.reduceAdd, Int.reduceSub, Int.reduceNeg, Int.reduceMod, setM_same, MO.lst.injEq, setM_setM, ix0, ix1, ix2, ix3, ix4]
    simp only [hm, sSeq, sAsg, sRet, sIf, sDrop, sNext, sNever, dOp, dUn, dVar, dC, dTest, isBool, dAnd, dOr, dNot, dAndV, dOrV, dNotV, dIf, dCons, dNil, dTup, dLst, dLstM, datas, dCall, dCB, gI0, gI, gB0, g1I, gAdd, gEqD, gNeD, gIx, gIn, g1A, g2A, gInt, gLen, gTuple, gSum, gBest, dSl, dNoPart, dPart, dgName, dgTup, dgCons, dgNil, dgSub, gSetI, dIndexT, dChain, startD, List.map_cons, List.map_nil, List.length_cons, List.length_nil, List.replicate, List.append, List.cons_append, List.nil_append, List.getElem?_cons_zero, List.getElem?_cons_succ, List.set_cons_zero, List.set_cons_succ, Option.some.injEq, Dv.d.injEq, Dv.r.injEq, PyData.tuple.injEq, PyData.list.injEq, PyData.str.injEq, PyData.int.injEq, exists_eq_left', Option.map_some, Nat.zero_add, Nat.reduceAdd, Nat.reduceSub, true_and, and_true, exists_and_left, at0, at1, at2, at3, at4, eqv_int, shaped_int, eqv_pr, shaped_pr, bes, intsD, in4, flat4, flatI, Bool.not_eq_true', decide_eq_false_iff_not, not_true_eq_false, if_true, if_false, Bool.not_true, Bool.not_false, Bool.false_eq_true, Bool.true_eq_false, Bool.or_eq_false_iff,  shaped_tn, shaped_hd, shaped_r, decide_eq_true_eq, sizeLine_eq, Nat.reduceLeDiff, Int.reduceToNat, Int.reducePow, Int.reduceMul, Int.reduceAdd, Int.reduceSub, Int.reduceNeg, Int.reduceMod, setM_same, MO.lst.injEq, setM_setM, ix0, ix1, ix2, ix3, ix4]
    have em : ∀ v : Int, 0 ≤ v % many ∧ v % many < many := fun v => ⟨Int.emod_nonneg _ (by omega), Int.emod_lt_of_pos _ l.1⟩
    by_cases c1 : i2 = 0
    · rw [if_pos c1]
      by_cases c2 : i1 < ((List.map PyData.int ns).length : Int)
      · rw [if_pos c2]
        rw [List.length_map] at c2
        have hlt : i1.toNat < ns.length := by omega
        have hat : atI (List.map PyData.int ns) i1 = some (.int ns[i1.toNat]) := atI_of (k := i1.toNat) (by omega) (by rw [List.getElem?_map, List.getElem?_eq_getElem hlt]; rfl)
        rw [hat]
        generalize ns[i1.toNat] = cell at *
        simp only [sSeq, sAsg, sRet, sIf, sDrop, sNext, sNever, dOp, dUn, dVar, dC, dTest, isBool, dAnd, dOr, dNot, dAndV, dOrV, dNotV, dIf, dCons, dNil, dTup, dLst, dLstM, datas, dCall, dCB, gI0, gI, gB0, g1I, gAdd, gEqD, gNeD, gIx, gIn, g1A, g2A, gInt, gLen, gTuple, gSum, gBest, dSl, dNoPart, dPart, dgName, dgTup, dgCons, dgNil, dgSub, gSetI, dIndexT, dChain, startD, List.map_cons, List.map_nil, List.length_cons, List.length_nil, List.replicate, List.append, List.cons_append, List.nil_append, List.getElem?_cons_zero, List.getElem?_cons_succ, List.set_cons_zero, List.set_cons_succ, Option.some.injEq, Dv.d.injEq, Dv.r.injEq, PyData.tuple.injEq, PyData.list.injEq, PyData.str.injEq, PyData.int.injEq, exists_eq_left', Option.map_some, Nat.zero_add, Nat.reduceAdd, Nat.reduceSub, true_and, and_true, exists_and_left, at0, at1, at2, at3, at4, eqv_int, shaped_int, eqv_pr, shaped_pr, bes, intsD, in4, flat4, flatI, Bool.not_eq_true', decide_eq_false_iff_not, not_true_eq_false, if_true, if_false, Bool.not_true, Bool.not_false, Bool.false_eq_true, Bool.true_eq_false, Bool.or_eq_false_iff,  shaped_tn, shaped_hd, shaped_r, decide_eq_true_eq, sizeLine_eq, Nat.reduceLeDiff, Int.reduceToNat, Int.reducePow, Int.reduceMul, Int.reduceAdd, Int.reduceSub, Int.reduceNeg, Int.reduceMod, setM_same, MO.lst.injEq, setM_setM, ix0, ix1, ix2, ix3, ix4]
        refine ⟨by unfold CPow; decide, ?_⟩
        by_cases c3 : cell < 1000000000000000000
        · rw [if_pos c3]
          refine ⟨cell, i1 + 1, rfl, by omega, fun r r0 r1 => ?_⟩
          exact ⟨l.1, z _ _ (em r).1 (em r).2 ⟨ns, i1 + 1, i2, i3, i4, rfl, hn, by omega, by omega, h3, by omega⟩⟩
        · rw [if_neg c3]
          by_cases h0 : 0 < cell
          · rw [if_pos h0]; exact ⟨l.1, ⟨l.1, by omega⟩, z _ _ (em _).1 (em _).2 ⟨ns, i1 + 1, _, i3, i4, rfl, hn, by omega, by omega, h3, by omega⟩⟩
          · rw [if_neg h0]; refine ⟨i4, i3 + 1 + 809, rfl, by omega, fun r r0 r1 => ?_⟩
            exact ⟨l.1, z _ _ (em r).1 (em r).2 ⟨ns, i1 + 1, _, i3 + 1, i4, rfl, hn, by omega, by omega, by omega, by omega⟩⟩
      · rw [if_neg c2]
        by_cases h0 : 0 < i2
        · rw [if_pos h0]; exact ⟨l.1, ⟨l.1, by omega⟩, z _ _ (em _).1 (em _).2 ⟨ns, i1, _, i3, i4, rfl, hn, by omega, by omega, h3, by omega⟩⟩
        · rw [if_neg h0]; refine ⟨i4, i3 + 1 + 809, rfl, by omega, fun r r0 r1 => ?_⟩
          exact ⟨l.1, z _ _ (em r).1 (em r).2 ⟨ns, i1, _, i3 + 1, i4, rfl, hn, by omega, by omega, by omega, by omega⟩⟩
    · rw [if_neg c1]
      try rw [if_neg Bool.false_ne_true]
      by_cases h0 : 0 < i2
      · rw [if_pos h0]; exact ⟨l.1, ⟨l.1, by omega⟩, z _ _ (em _).1 (em _).2 ⟨ns, i1, _, i3, i4, rfl, hn, by omega, by omega, h3, by omega⟩⟩
      · rw [if_neg h0]; refine ⟨i4, i3 + 1 + 809, rfl, by omega, fun r r0 r1 => ?_⟩
        exact ⟨l.1, z _ _ (em r).1 (em r).2 ⟨ns, i1, _, i3 + 1, i4, rfl, hn, by omega, by omega, by omega, by omega⟩⟩
theorem sc__law_great : FnScope ["deck", "most", "found", "k"] ["deck", "most"] (defScope s__law_great) := ⟨rfl, rfl, rfl, by decide +kernel, rfl, by decide +kernel, by decide +kernel⟩
theorem ok__law_great (T : Tx P w K mg base) : FnOk P w K mg base CX0 3 T.a__law_great T.fd__law_great ["deck", "most"] (spD K F__law_great) := by
  refine Fun.okD T.F__law_great sc__law_great mo__law_great (fun ds m Q h => ?_) (fun cdv A outer s H E hr => ?_)
  · unfold F__law_great at h; obtain ⟨a, many, o, c, rfl, l, hm, hd, hc, z⟩ := h; rfl
  · refine ⟨_, (dss_cons (ds_set (i := 2) sc__law_great.nd rfl (by first | exact Or.inl rfl | exact Or.inr rfl) de_int)
      (dss_cons (ds_for PassesOwn.never rfl (di_range1 (by rfl) T.b_range (da_cons de_int da_nil)) (dg_name (i := 3) sc__law_great.nd rfl (by first | exact Or.inl rfl | exact Or.inr rfl)) (dss_one (ds_set (i := 2) sc__law_great.nd rfl (by first | exact Or.inl rfl | exact Or.inr rfl) (de_add (de_mul (dv 2) (de_pow de_int de_int)) (de_call mo__law_next ((ok__law_next T).mono (by decide : 2 ≤ 2)) hr (by rfl) T.m__law_next T.F__law_next.kp T.n__law_next (da_cons (dv 0) (da_cons (de_pow de_int de_int) da_nil)))))))
      (dss_one (ds_ret (de_mod (dv 2) (dv 1)))))), fun ds m Q h => ?_⟩
    obtain ⟨a, many, o, c, rfl, l, hm, hd, hc, z⟩ := h
    try simp only [sSeq, sAsg, sRet, sIf, sDrop, sNext, sNever, dOp, dUn, dVar, dC, dTest, isBool, dAnd, dOr, dNot, dAndV, dOrV, dNotV, dIf, dCons, dNil, dTup, dLst, dLstM, datas, dCall, dCB, gI0, gI, gB0, g1I, gAdd, gEqD, gNeD, gIx, gIn, g1A, g2A, gInt, gLen, gTuple, gSum, gBest, dSl, dNoPart, dPart, dgName, dgTup, dgCons, dgNil, dgSub, gSetI, dIndexT, dChain, startD, List.map_cons, List.map_nil, List.length_cons, List.length_nil, List.replicate, List.append, List.cons_append, List.nil_append, List.getElem?_cons_zero, List.getElem?_cons_succ, List.set_cons_zero, List.set_cons_succ, Option.some.injEq, Dv.d.injEq, Dv.r.injEq, PyData.tuple.injEq, PyData.list.injEq, PyData.str.injEq, PyData.int.injEq, exists_eq_left', Option.map_some, Nat.zero_add, Nat.reduceAdd, Nat.reduceSub, true_and, and_true, exists_and_left, at0, at1, at2, at3, at4, eqv_int, shaped_int, eqv_pr, shaped_pr, bes, intsD, in4, flat4, flatI, Bool.not_eq_true', decide_eq_false_iff_not, not_true_eq_false, if_true, if_false, Bool.not_true, Bool.not_false, Bool.false_eq_true, Bool.true_eq_false, Bool.or_eq_false_iff,  shaped_tn, shaped_hd, shaped_r, decide_eq_true_eq, sizeLine_eq, Nat.reduceLeDiff, Int.reduceToNat, Int.reducePow, Int.reduceMul, Int.reduceAdd, Int.reduceSub, Int.reduceNeg, Int.reduceMod, setM_same, MO.lst.injEq, setM_setM, ix0, ix1, ix2, ix3, ix4]
    unfold sFor dRng1
    try simp only [sSeq, sAsg, sRet, sIf, sDrop, sNext, sNever, dOp, dUn, dVar, dC, dTest, isBool, dAnd, dOr, dNot, dAndV, dOrV, dNotV, dIf, dCons, dNil, dTup, dLst, dLstM, datas, dCall, dCB, gI0, gI, gB0, g1I, gAdd, gEqD, gNeD, gIx, gIn, g1A, g2A, gInt, gLen, gTuple, gSum, gBest, dSl, dNoPart, dPart, dgName, dgTup, dgCons, dgNil, dgSub, gSetI, dIndexT, dChain, startD, List.map_cons, List.map_nil, List.length_cons, List.length_nil, List.replicate, List.append, List.cons_append, List.nil_append, List.getElem?_cons_zero, List.getElem?_cons_succ, List.set_cons_zero, List.set_cons_succ, Option.some.injEq, Dv.d.injEq, Dv.r.injEq, PyData.tuple.injEq, PyData.list.injEq, PyData.str.injEq, PyData.int.injEq, exists_eq_left', Option.map_some, Nat.zero_add, Nat.reduceAdd, Nat.reduceSub, true_and, and_true, exists_and_left, at0, at1, at2, at3, at4, eqv_int, shaped_int, eqv_pr, shaped_pr, bes, intsD, in4, flat4, flatI, Bool.not_eq_true', decide_eq_false_iff_not, not_true_eq_false, if_true, if_false, Bool.not_true, Bool.not_false, Bool.false_eq_true, Bool.true_eq_false, Bool.or_eq_false_iff,  shaped_tn, shaped_hd, shaped_r, decide_eq_true_eq, sizeLine_eq, Nat.reduceLeDiff, Int.reduceToNat, Int.reducePow, Int.reduceMul, Int.reduceAdd, Int.reduceSub, Int.reduceNeg, Int.reduceMod, setM_same, MO.lst.injEq, setM_setM, ix0, ix1, ix2, ix3, ix4]
    refine ⟨4, rfl, by decide, fun i δ m' => ∃ (f : Int) (k : Option Dv) (o' : MO), δ = [some (.r a), some (I many), some (I f), k] ∧ m' = setM m a o' ∧ DeckIs o' (c + i) ∧ 0 ≤ f ∧ f < 10 ^ (6 * i), ⟨0, none, o, rfl, ?_, hd, by decide, by decide⟩, fun _ _ _ _ => trivial, ?_, ?_⟩
    · funext b
      by_cases e : b = a
      · subst e; rw [setM_same]; exact hm
      · rw [setM_ne e]
    · rintro i x δ m' hx ⟨f, k, o', rfl, rfl, hd', f0, f2⟩
      have hi : i < 4 := by
        have := (List.getElem?_eq_some_iff.mp hx).1
        simpa using this
      try simp only [sSeq, sAsg, sRet, sIf, sDrop, sNext, sNever, dOp, dUn, dVar, dC, dTest, isBool, dAnd, dOr, dNot, dAndV, dOrV, dNotV, dIf, dCons, dNil, dTup, dLst, dLstM, datas, dCall, dCB, gI0, gI, gB0, g1I, gAdd, gEqD, gNeD, gIx, gIn, g1A, g2A, gInt, gLen, gTuple, gSum, gBest, dSl, dNoPart, dPart, dgName, dgTup, dgCons, dgNil, dgSub, gSetI, dIndexT, dChain, startD, List.map_cons, List.map_nil, List.length_cons, List.length_nil, List.replicate, List.append, List.cons_append, List.nil_append, List.getElem?_cons_zero, List.getElem?_cons_succ, List.set_cons_zero, List.set_cons_succ, Option.some.injEq, Dv.d.injEq, Dv.r.injEq, PyData.tuple.injEq, PyData.list.injEq, PyData.str.injEq, PyData.int.injEq, exists_eq_left', Option.map_some, Nat.zero_add, Nat.reduceAdd, Nat.reduceSub, true_and, and_true, exists_and_left, at0, at1, at2, at3, at4, eqv_int, shaped_int, eqv_pr, shaped_pr, bes, intsD, in4, flat4, flatI, Bool.not_eq_true', decide_eq_false_iff_not, not_true_eq_false, if_true, if_false, Bool.not_true, Bool.not_false, Bool.false_eq_true, Bool.true_eq_false, Bool.or_eq_false_iff,  shaped_tn, shaped_hd, shaped_r, decide_eq_true_eq, sizeLine_eq, Nat.reduceLeDiff, Int.reduceToNat, Int.reducePow, Int.reduceMul, Int.reduceAdd, Int.reduceSub, Int.reduceNeg, Int.reduceMod, setM_same, MO.lst.injEq, setM_setM, ix0, ix1, ix2, ix3, ix4]
      refine ⟨by unfold CPow; decide, by unfold CMul; omega, by unfold CPow; decide, a, _, _, _, rfl, by decide, setM_same, hd', by omega, fun v o2 v0 v1 d2 => ?_⟩
      try simp only [sSeq, sAsg, sRet, sIf, sDrop, sNext, sNever, dOp, dUn, dVar, dC, dTest, isBool, dAnd, dOr, dNot, dAndV, dOrV, dNotV, dIf, dCons, dNil, dTup, dLst, dLstM, datas, dCall, dCB, gI0, gI, gB0, g1I, gAdd, gEqD, gNeD, gIx, gIn, g1A, g2A, gInt, gLen, gTuple, gSum, gBest, dSl, dNoPart, dPart, dgName, dgTup, dgCons, dgNil, dgSub, gSetI, dIndexT, dChain, startD, List.map_cons, List.map_nil, List.length_cons, List.length_nil, List.replicate, List.append, List.cons_append, List.nil_append, List.getElem?_cons_zero, List.getElem?_cons_succ, List.set_cons_zero, List.set_cons_succ, Option.some.injEq, Dv.d.injEq, Dv.r.injEq, PyData.tuple.injEq, PyData.list.injEq, PyData.str.injEq, PyData.int.injEq, exists_eq_left', Option.map_some, Nat.zero_add, Nat.reduceAdd, Nat.reduceSub, true_and, and_true, exists_and_left, at0, at1, at2, at3, at4, eqv_int, shaped_int, eqv_pr, shaped_pr, bes, intsD, in4, flat4, flatI, Bool.not_eq_true', decide_eq_false_iff_not, not_true_eq_false, if_true, if_false, Bool.not_true, Bool.not_false, Bool.false_eq_true, Bool.true_eq_false, Bool.or_eq_false_iff,  shaped_tn, shaped_hd, shaped_r, decide_eq_true_eq, sizeLine_eq, Nat.reduceLeDiff, Int.reduceToNat, Int.reducePow, Int.reduceMul, Int.reduceAdd, Int.reduceSub, Int.reduceNeg, Int.reduceMod, setM_same, MO.lst.injEq, setM_setM, ix0, ix1, ix2, ix3, ix4]
      refine ⟨_, _, rfl, o2, rfl, d2, by omega, ?_⟩
      rcases (show i = 0 ∨ i = 1 ∨ i = 2 ∨ i = 3 by omega) with rfl | rfl | rfl | rfl <;> simp only [Nat.reduceMul, Nat.reduceAdd, Int.reducePow] at * <;> omega
    · rintro δ m' ⟨f, k, o', rfl, rfl, hd', f0, f2⟩
      try simp only [sSeq, sAsg, sRet, sIf, sDrop, sNext, sNever, dOp, dUn, dVar, dC, dTest, isBool, dAnd, dOr, dNot, dAndV, dOrV, dNotV, dIf, dCons, dNil, dTup, dLst, dLstM, datas, dCall, dCB, gI0, gI, gB0, g1I, gAdd, gEqD, gNeD, gIx, gIn, g1A, g2A, gInt, gLen, gTuple, gSum, gBest, dSl, dNoPart, dPart, dgName, dgTup, dgCons, dgNil, dgSub, gSetI, dIndexT, dChain, startD, List.map_cons, List.map_nil, List.length_cons, List.length_nil, List.replicate, List.append, List.cons_append, List.nil_append, List.getElem?_cons_zero, List.getElem?_cons_succ, List.set_cons_zero, List.set_cons_succ, Option.some.injEq, Dv.d.injEq, Dv.r.injEq, PyData.tuple.injEq, PyData.list.injEq, PyData.str.injEq, PyData.int.injEq, exists_eq_left', Option.map_some, Nat.zero_add, Nat.reduceAdd, Nat.reduceSub, true_and, and_true, exists_and_left, at0, at1, at2, at3, at4, eqv_int, shaped_int, eqv_pr, shaped_pr, bes, intsD, in4, flat4, flatI, Bool.not_eq_true', decide_eq_false_iff_not, not_true_eq_false, if_true, if_false, Bool.not_true, Bool.not_false, Bool.false_eq_true, Bool.true_eq_false, Bool.or_eq_false_iff,  shaped_tn, shaped_hd, shaped_r, decide_eq_true_eq, sizeLine_eq, Nat.reduceLeDiff, Int.reduceToNat, Int.reducePow, Int.reduceMul, Int.reduceAdd, Int.reduceSub, Int.reduceNeg, Int.reduceMod, setM_same, MO.lst.injEq, setM_setM, ix0, ix1, ix2, ix3, ix4]
      exact ⟨l.1, z _ _ (Int.emod_nonneg _ (by omega)) (Int.emod_lt_of_pos _ l.1) hd'⟩
theorem sc__law_spiral : FnScope ["deck", "start"] ["deck"] (defScope s__law_spiral) := ⟨rfl, rfl, rfl, by decide +kernel, rfl, by decide +kernel, by decide +kernel⟩
theorem ok__law_spiral (T : Tx P w K mg base) : FnOk P w K mg base CX0 4 T.a__law_spiral T.fd__law_spiral ["deck"] (spD K F__law_spiral) := by
  refine Fun.okD T.F__law_spiral sc__law_spiral mo__law_spiral (fun ds m Q h => ?_) (fun cdv A outer s H E hr => ?_)
  · unfold F__law_spiral at h; obtain ⟨a, o, c, rfl, hm, hd, hc, z⟩ := h; rfl
  · refine ⟨_, (dss_cons (ds_set (i := 1) sc__law_spiral.nd rfl (by first | exact Or.inl rfl | exact Or.inr rfl) (de_ix (de_lst (da_cons (de_sub (de_call mo__law_next ((ok__law_next T).mono (by decide : 2 ≤ 3)) hr (by rfl) T.m__law_next T.F__law_next.kp T.n__law_next (da_cons (dv 0) (da_cons de_int da_nil))) de_int) (da_cons (de_sub (de_call mo__law_great ((ok__law_great T).mono (by decide : 3 ≤ 3)) hr (by rfl) T.m__law_great T.F__law_great.kp T.n__law_great (da_cons (dv 0) (da_cons (de_add (de_mul de_int (de_pow de_int de_int)) de_int) da_nil))) (de_pow de_int de_int)) da_nil))) (de_call mo__law_next ((ok__law_next T).mono (by decide : 2 ≤ 3)) hr (by rfl) T.m__law_next T.F__law_next.kp T.n__law_next (da_cons (dv 0) (da_cons de_int da_nil)))))
      (dss_cons (ds_set (i := 1) sc__law_spiral.nd rfl (by first | exact Or.inl rfl | exact Or.inr rfl) (de_ix (de_lst (da_cons (dv 1) (da_cons (dv 1) (da_cons de_int (da_cons de_int (da_cons (de_pow de_int de_int) (da_cons (de_sub de_int (de_pow de_int de_int)) da_nil))))))) (de_call mo__law_next ((ok__law_next T).mono (by decide : 2 ≤ 3)) hr (by rfl) T.m__law_next T.F__law_next.kp T.n__law_next (da_cons (dv 0) (da_cons de_int da_nil)))))
      (dss_one (ds_ret (de_tup (da_cons (dv 1) (da_cons (de_ix de_str (de_call mo__law_next ((ok__law_next T).mono (by decide : 2 ≤ 3)) hr (by rfl) T.m__law_next T.F__law_next.kp T.n__law_next (da_cons (dv 0) (da_cons de_int da_nil)))) (da_cons (de_ix de_str (de_call mo__law_next ((ok__law_next T).mono (by decide : 2 ≤ 3)) hr (by rfl) T.m__law_next T.F__law_next.kp T.n__law_next (da_cons (dv 0) (da_cons de_int da_nil)))) da_nil)))))))), fun ds m Q h => ?_⟩
    obtain ⟨a, o, c, rfl, hm, hd, hc, z⟩ := h
    try simp only [sSeq, sAsg, sRet, sIf, sDrop, sNext, sNever, dOp, dUn, dVar, dC, dTest, isBool, dAnd, dOr, dNot, dAndV, dOrV, dNotV, dIf, dCons, dNil, dTup, dLst, dLstM, datas, dCall, dCB, gI0, gI, gB0, g1I, gAdd, gEqD, gNeD, gIx, gIn, g1A, g2A, gInt, gLen, gTuple, gSum, gBest, dSl, dNoPart, dPart, dgName, dgTup, dgCons, dgNil, dgSub, gSetI, dIndexT, dChain, startD, List.map_cons, List.map_nil, List.length_cons, List.length_nil, List.replicate, List.append, List.cons_append, List.nil_append, List.getElem?_cons_zero, List.getElem?_cons_succ, List.set_cons_zero, List.set_cons_succ, Option.some.injEq, Dv.d.injEq, Dv.r.injEq, PyData.tuple.injEq, PyData.list.injEq, PyData.str.injEq, PyData.int.injEq, exists_eq_left', Option.map_some, Nat.zero_add, Nat.reduceAdd, Nat.reduceSub, true_and, and_true, exists_and_left, at0, at1, at2, at3, at4, eqv_int, shaped_int, eqv_pr, shaped_pr, bes, intsD, in4, flat4, flatI, Bool.not_eq_true', decide_eq_false_iff_not, not_true_eq_false, if_true, if_false, Bool.not_true, Bool.not_false, Bool.false_eq_true, Bool.true_eq_false, Bool.or_eq_false_iff,  shaped_tn, shaped_hd, shaped_r, decide_eq_true_eq, sizeLine_eq, Nat.reduceLeDiff, Int.reduceToNat, Int.reducePow, Int.reduceMul, Int.reduceAdd, Int.reduceSub, Int.reduceNeg, Int.reduceMod, setM_same, MO.lst.injEq, setM_setM, ix0, ix1, ix2, ix3, ix4]
    refine ⟨a, _, _, _, rfl, by first | decide | omega, hm, hd, by omega, fun v1 o1 l1 u1 d1 => ?_⟩
    try simp only [sSeq, sAsg, sRet, sIf, sDrop, sNext, sNever, dOp, dUn, dVar, dC, dTest, isBool, dAnd, dOr, dNot, dAndV, dOrV, dNotV, dIf, dCons, dNil, dTup, dLst, dLstM, datas, dCall, dCB, gI0, gI, gB0, g1I, gAdd, gEqD, gNeD, gIx, gIn, g1A, g2A, gInt, gLen, gTuple, gSum, gBest, dSl, dNoPart, dPart, dgName, dgTup, dgCons, dgNil, dgSub, gSetI, dIndexT, dChain, startD, List.map_cons, List.map_nil, List.length_cons, List.length_nil, List.replicate, List.append, List.cons_append, List.nil_append, List.getElem?_cons_zero, List.getElem?_cons_succ, List.set_cons_zero, List.set_cons_succ, Option.some.injEq, Dv.d.injEq, Dv.r.injEq, PyData.tuple.injEq, PyData.list.injEq, PyData.str.injEq, PyData.int.injEq, exists_eq_left', Option.map_some, Nat.zero_add, Nat.reduceAdd, Nat.reduceSub, true_and, and_true, exists_and_left, at0, at1, at2, at3, at4, eqv_int, shaped_int, eqv_pr, shaped_pr, bes, intsD, in4, flat4, flatI, Bool.not_eq_true', decide_eq_false_iff_not, not_true_eq_false, if_true, if_false, Bool.not_true, Bool.not_false, Bool.false_eq_true, Bool.true_eq_false, Bool.or_eq_false_iff,  shaped_tn, shaped_hd, shaped_r, decide_eq_true_eq, sizeLine_eq, Nat.reduceLeDiff, Int.reduceToNat, Int.reducePow, Int.reduceMul, Int.reduceAdd, Int.reduceSub, Int.reduceNeg, Int.reduceMod, setM_same, MO.lst.injEq, setM_setM, ix0, ix1, ix2, ix3, ix4]
    refine ⟨by unfold CPow; decide, by unfold CMul; decide, ?_⟩
    refine ⟨a, _, _, _, rfl, by first | decide | omega, setM_same, d1, by omega, fun v2 o2 l2 u2 d2 => ?_⟩
    try simp only [sSeq, sAsg, sRet, sIf, sDrop, sNext, sNever, dOp, dUn, dVar, dC, dTest, isBool, dAnd, dOr, dNot, dAndV, dOrV, dNotV, dIf, dCons, dNil, dTup, dLst, dLstM, datas, dCall, dCB, gI0, gI, gB0, g1I, gAdd, gEqD, gNeD, gIx, gIn, g1A, g2A, gInt, gLen, gTuple, gSum, gBest, dSl, dNoPart, dPart, dgName, dgTup, dgCons, dgNil, dgSub, gSetI, dIndexT, dChain, startD, List.map_cons, List.map_nil, List.length_cons, List.length_nil, List.replicate, List.append, List.cons_append, List.nil_append, List.getElem?_cons_zero, List.getElem?_cons_succ, List.set_cons_zero, List.set_cons_succ, Option.some.injEq, Dv.d.injEq, Dv.r.injEq, PyData.tuple.injEq, PyData.list.injEq, PyData.str.injEq, PyData.int.injEq, exists_eq_left', Option.map_some, Nat.zero_add, Nat.reduceAdd, Nat.reduceSub, true_and, and_true, exists_and_left, at0, at1, at2, at3, at4, eqv_int, shaped_int, eqv_pr, shaped_pr, bes, intsD, in4, flat4, flatI, Bool.not_eq_true', decide_eq_false_iff_not, not_true_eq_false, if_true, if_false, Bool.not_true, Bool.not_false, Bool.false_eq_true, Bool.true_eq_false, Bool.or_eq_false_iff,  shaped_tn, shaped_hd, shaped_r, decide_eq_true_eq, sizeLine_eq, Nat.reduceLeDiff, Int.reduceToNat, Int.reducePow, Int.reduceMul, Int.reduceAdd, Int.reduceSub, Int.reduceNeg, Int.reduceMod, setM_same, MO.lst.injEq, setM_setM, ix0, ix1, ix2, ix3, ix4]
    refine ⟨by unfold CPow; decide, ?_⟩
    refine ⟨a, _, _, _, rfl, by first | decide | omega, setM_same, d2, by omega, fun v3 o3 l3 u3 d3 => ?_⟩
    try simp only [sSeq, sAsg, sRet, sIf, sDrop, sNext, sNever, dOp, dUn, dVar, dC, dTest, isBool, dAnd, dOr, dNot, dAndV, dOrV, dNotV, dIf, dCons, dNil, dTup, dLst, dLstM, datas, dCall, dCB, gI0, gI, gB0, g1I, gAdd, gEqD, gNeD, gIx, gIn, g1A, g2A, gInt, gLen, gTuple, gSum, gBest, dSl, dNoPart, dPart, dgName, dgTup, dgCons, dgNil, dgSub, gSetI, dIndexT, dChain, startD, List.map_cons, List.map_nil, List.length_cons, List.length_nil, List.replicate, List.append, List.cons_append, List.nil_append, List.getElem?_cons_zero, List.getElem?_cons_succ, List.set_cons_zero, List.set_cons_succ, Option.some.injEq, Dv.d.injEq, Dv.r.injEq, PyData.tuple.injEq, PyData.list.injEq, PyData.str.injEq, PyData.int.injEq, exists_eq_left', Option.map_some, Nat.zero_add, Nat.reduceAdd, Nat.reduceSub, true_and, and_true, exists_and_left, at0, at1, at2, at3, at4, eqv_int, shaped_int, eqv_pr, shaped_pr, bes, intsD, in4, flat4, flatI, Bool.not_eq_true', decide_eq_false_iff_not, not_true_eq_false, if_true, if_false, Bool.not_true, Bool.not_false, Bool.false_eq_true, Bool.true_eq_false, Bool.or_eq_false_iff,  shaped_tn, shaped_hd, shaped_r, decide_eq_true_eq, sizeLine_eq, Nat.reduceLeDiff, Int.reduceToNat, Int.reducePow, Int.reduceMul, Int.reduceAdd, Int.reduceSub, Int.reduceNeg, Int.reduceMod, setM_same, MO.lst.injEq, setM_setM, ix0, ix1, ix2, ix3, ix4]
    obtain ⟨s1, m1, e1⟩ := at_mem (ns := [v1 - 10, v2 - 1000000000000000000]) l3 u3
    simp only [List.map_cons, List.map_nil] at e1
    rw [e1]
    try simp only [sSeq, sAsg, sRet, sIf, sDrop, sNext, sNever, dOp, dUn, dVar, dC, dTest, isBool, dAnd, dOr, dNot, dAndV, dOrV, dNotV, dIf, dCons, dNil, dTup, dLst, dLstM, datas, dCall, dCB, gI0, gI, gB0, g1I, gAdd, gEqD, gNeD, gIx, gIn, g1A, g2A, gInt, gLen, gTuple, gSum, gBest, dSl, dNoPart, dPart, dgName, dgTup, dgCons, dgNil, dgSub, gSetI, dIndexT, dChain, startD, List.map_cons, List.map_nil, List.length_cons, List.length_nil, List.replicate, List.append, List.cons_append, List.nil_append, List.getElem?_cons_zero, List.getElem?_cons_succ, List.set_cons_zero, List.set_cons_succ, Option.some.injEq, Dv.d.injEq, Dv.r.injEq, PyData.tuple.injEq, PyData.list.injEq, PyData.str.injEq, PyData.int.injEq, exists_eq_left', Option.map_some, Nat.zero_add, Nat.reduceAdd, Nat.reduceSub, true_and, and_true, exists_and_left, at0, at1, at2, at3, at4, eqv_int, shaped_int, eqv_pr, shaped_pr, bes, intsD, in4, flat4, flatI, Bool.not_eq_true', decide_eq_false_iff_not, not_true_eq_false, if_true, if_false, Bool.not_true, Bool.not_false, Bool.false_eq_true, Bool.true_eq_false, Bool.or_eq_false_iff,  shaped_tn, shaped_hd, shaped_r, decide_eq_true_eq, sizeLine_eq, Nat.reduceLeDiff, Int.reduceToNat, Int.reducePow, Int.reduceMul, Int.reduceAdd, Int.reduceSub, Int.reduceNeg, Int.reduceMod, setM_same, MO.lst.injEq, setM_setM, ix0, ix1, ix2, ix3, ix4]
    refine ⟨by unfold CPow; decide, by unfold CPow; decide, ?_⟩
    refine ⟨a, _, _, _, rfl, by first | decide | omega, setM_same, d3, by omega, fun v4 o4 l4 u4 d4 => ?_⟩
    try simp only [sSeq, sAsg, sRet, sIf, sDrop, sNext, sNever, dOp, dUn, dVar, dC, dTest, isBool, dAnd, dOr, dNot, dAndV, dOrV, dNotV, dIf, dCons, dNil, dTup, dLst, dLstM, datas, dCall, dCB, gI0, gI, gB0, g1I, gAdd, gEqD, gNeD, gIx, gIn, g1A, g2A, gInt, gLen, gTuple, gSum, gBest, dSl, dNoPart, dPart, dgName, dgTup, dgCons, dgNil, dgSub, gSetI, dIndexT, dChain, startD, List.map_cons, List.map_nil, List.length_cons, List.length_nil, List.replicate, List.append, List.cons_append, List.nil_append, List.getElem?_cons_zero, List.getElem?_cons_succ, List.set_cons_zero, List.set_cons_succ, Option.some.injEq, Dv.d.injEq, Dv.r.injEq, PyData.tuple.injEq, PyData.list.injEq, PyData.str.injEq, PyData.int.injEq, exists_eq_left', Option.map_some, Nat.zero_add, Nat.reduceAdd, Nat.reduceSub, true_and, and_true, exists_and_left, at0, at1, at2, at3, at4, eqv_int, shaped_int, eqv_pr, shaped_pr, bes, intsD, in4, flat4, flatI, Bool.not_eq_true', decide_eq_false_iff_not, not_true_eq_false, if_true, if_false, Bool.not_true, Bool.not_false, Bool.false_eq_true, Bool.true_eq_false, Bool.or_eq_false_iff,  shaped_tn, shaped_hd, shaped_r, decide_eq_true_eq, sizeLine_eq, Nat.reduceLeDiff, Int.reduceToNat, Int.reducePow, Int.reduceMul, Int.reduceAdd, Int.reduceSub, Int.reduceNeg, Int.reduceMod, setM_same, MO.lst.injEq, setM_setM, ix0, ix1, ix2, ix3, ix4]
    obtain ⟨s2, m2, e2⟩ := at_mem (ns := [s1, s1, 1, 0, 1000000000000000000, -1000000000000000000]) l4 u4
    simp only [List.map_cons, List.map_nil] at e2
    rw [e2]
    try simp only [sSeq, sAsg, sRet, sIf, sDrop, sNext, sNever, dOp, dUn, dVar, dC, dTest, isBool, dAnd, dOr, dNot, dAndV, dOrV, dNotV, dIf, dCons, dNil, dTup, dLst, dLstM, datas, dCall, dCB, gI0, gI, gB0, g1I, gAdd, gEqD, gNeD, gIx, gIn, g1A, g2A, gInt, gLen, gTuple, gSum, gBest, dSl, dNoPart, dPart, dgName, dgTup, dgCons, dgNil, dgSub, gSetI, dIndexT, dChain, startD, List.map_cons, List.map_nil, List.length_cons, List.length_nil, List.replicate, List.append, List.cons_append, List.nil_append, List.getElem?_cons_zero, List.getElem?_cons_succ, List.set_cons_zero, List.set_cons_succ, Option.some.injEq, Dv.d.injEq, Dv.r.injEq, PyData.tuple.injEq, PyData.list.injEq, PyData.str.injEq, PyData.int.injEq, exists_eq_left', Option.map_some, Nat.zero_add, Nat.reduceAdd, Nat.reduceSub, true_and, and_true, exists_and_left, at0, at1, at2, at3, at4, eqv_int, shaped_int, eqv_pr, shaped_pr, bes, intsD, in4, flat4, flatI, Bool.not_eq_true', decide_eq_false_iff_not, not_true_eq_false, if_true, if_false, Bool.not_true, Bool.not_false, Bool.false_eq_true, Bool.true_eq_false, Bool.or_eq_false_iff,  shaped_tn, shaped_hd, shaped_r, decide_eq_true_eq, sizeLine_eq, Nat.reduceLeDiff, Int.reduceToNat, Int.reducePow, Int.reduceMul, Int.reduceAdd, Int.reduceSub, Int.reduceNeg, Int.reduceMod, setM_same, MO.lst.injEq, setM_setM, ix0, ix1, ix2, ix3, ix4]
    refine ⟨a, _, _, _, rfl, by first | decide | omega, setM_same, d4, by omega, fun v5 o5 l5 u5 d5 => ?_⟩
    try simp only [sSeq, sAsg, sRet, sIf, sDrop, sNext, sNever, dOp, dUn, dVar, dC, dTest, isBool, dAnd, dOr, dNot, dAndV, dOrV, dNotV, dIf, dCons, dNil, dTup, dLst, dLstM, datas, dCall, dCB, gI0, gI, gB0, g1I, gAdd, gEqD, gNeD, gIx, gIn, g1A, g2A, gInt, gLen, gTuple, gSum, gBest, dSl, dNoPart, dPart, dgName, dgTup, dgCons, dgNil, dgSub, gSetI, dIndexT, dChain, startD, List.map_cons, List.map_nil, List.length_cons, List.length_nil, List.replicate, List.append, List.cons_append, List.nil_append, List.getElem?_cons_zero, List.getElem?_cons_succ, List.set_cons_zero, List.set_cons_succ, Option.some.injEq, Dv.d.injEq, Dv.r.injEq, PyData.tuple.injEq, PyData.list.injEq, PyData.str.injEq, PyData.int.injEq, exists_eq_left', Option.map_some, Nat.zero_add, Nat.reduceAdd, Nat.reduceSub, true_and, and_true, exists_and_left, at0, at1, at2, at3, at4, eqv_int, shaped_int, eqv_pr, shaped_pr, bes, intsD, in4, flat4, flatI, Bool.not_eq_true', decide_eq_false_iff_not, not_true_eq_false, if_true, if_false, Bool.not_true, Bool.not_false, Bool.false_eq_true, Bool.true_eq_false, Bool.or_eq_false_iff,  shaped_tn, shaped_hd, shaped_r, decide_eq_true_eq, sizeLine_eq, Nat.reduceLeDiff, Int.reduceToNat, Int.reducePow, Int.reduceMul, Int.reduceAdd, Int.reduceSub, Int.reduceNeg, Int.reduceMod, setM_same, MO.lst.injEq, setM_setM, ix0, ix1, ix2, ix3, ix4]
    obtain ⟨c5, e5, h5⟩ := hd_at l5 u5
    rw [e5]
    refine ⟨len_enws, c5, rfl, ?_⟩
    rw [h5]
    try simp only [sSeq, sAsg, sRet, sIf, sDrop, sNext, sNever, dOp, dUn, dVar, dC, dTest, isBool, dAnd, dOr, dNot, dAndV, dOrV, dNotV, dIf, dCons, dNil, dTup, dLst, dLstM, datas, dCall, dCB, gI0, gI, gB0, g1I, gAdd, gEqD, gNeD, gIx, gIn, g1A, g2A, gInt, gLen, gTuple, gSum, gBest, dSl, dNoPart, dPart, dgName, dgTup, dgCons, dgNil, dgSub, gSetI, dIndexT, dChain, startD, List.map_cons, List.map_nil, List.length_cons, List.length_nil, List.replicate, List.append, List.cons_append, List.nil_append, List.getElem?_cons_zero, List.getElem?_cons_succ, List.set_cons_zero, List.set_cons_succ, Option.some.injEq, Dv.d.injEq, Dv.r.injEq, PyData.tuple.injEq, PyData.list.injEq, PyData.str.injEq, PyData.int.injEq, exists_eq_left', Option.map_some, Nat.zero_add, Nat.reduceAdd, Nat.reduceSub, true_and, and_true, exists_and_left, at0, at1, at2, at3, at4, eqv_int, shaped_int, eqv_pr, shaped_pr, bes, intsD, in4, flat4, flatI, Bool.not_eq_true', decide_eq_false_iff_not, not_true_eq_false, if_true, if_false, Bool.not_true, Bool.not_false, Bool.false_eq_true, Bool.true_eq_false, Bool.or_eq_false_iff,  shaped_tn, shaped_hd, shaped_r, decide_eq_true_eq, sizeLine_eq, Nat.reduceLeDiff, Int.reduceToNat, Int.reducePow, Int.reduceMul, Int.reduceAdd, Int.reduceSub, Int.reduceNeg, Int.reduceMod, setM_same, MO.lst.injEq, setM_setM, ix0, ix1, ix2, ix3, ix4]
    refine ⟨a, _, _, _, rfl, by first | decide | omega, setM_same, d5, by omega, fun v6 o6 l6 u6 d6 => ?_⟩
    try simp only [sSeq, sAsg, sRet, sIf, sDrop, sNext, sNever, dOp, dUn, dVar, dC, dTest, isBool, dAnd, dOr, dNot, dAndV, dOrV, dNotV, dIf, dCons, dNil, dTup, dLst, dLstM, datas, dCall, dCB, gI0, gI, gB0, g1I, gAdd, gEqD, gNeD, gIx, gIn, g1A, g2A, gInt, gLen, gTuple, gSum, gBest, dSl, dNoPart, dPart, dgName, dgTup, dgCons, dgNil, dgSub, gSetI, dIndexT, dChain, startD, List.map_cons, List.map_nil, List.length_cons, List.length_nil, List.replicate, List.append, List.cons_append, List.nil_append, List.getElem?_cons_zero, List.getElem?_cons_succ, List.set_cons_zero, List.set_cons_succ, Option.some.injEq, Dv.d.injEq, Dv.r.injEq, PyData.tuple.injEq, PyData.list.injEq, PyData.str.injEq, PyData.int.injEq, exists_eq_left', Option.map_some, Nat.zero_add, Nat.reduceAdd, Nat.reduceSub, true_and, and_true, exists_and_left, at0, at1, at2, at3, at4, eqv_int, shaped_int, eqv_pr, shaped_pr, bes, intsD, in4, flat4, flatI, Bool.not_eq_true', decide_eq_false_iff_not, not_true_eq_false, if_true, if_false, Bool.not_true, Bool.not_false, Bool.false_eq_true, Bool.true_eq_false, Bool.or_eq_false_iff,  shaped_tn, shaped_hd, shaped_r, decide_eq_true_eq, sizeLine_eq, Nat.reduceLeDiff, Int.reduceToNat, Int.reducePow, Int.reduceMul, Int.reduceAdd, Int.reduceSub, Int.reduceNeg, Int.reduceMod, setM_same, MO.lst.injEq, setM_setM, ix0, ix1, ix2, ix3, ix4]
    obtain ⟨c6, e6, h6⟩ := tn_at l6 u6
    rw [e6]
    refine ⟨len_lr, c6, rfl, ?_⟩
    rw [h6]
    try simp only [sSeq, sAsg, sRet, sIf, sDrop, sNext, sNever, dOp, dUn, dVar, dC, dTest, isBool, dAnd, dOr, dNot, dAndV, dOrV, dNotV, dIf, dCons, dNil, dTup, dLst, dLstM, datas, dCall, dCB, gI0, gI, gB0, g1I, gAdd, gEqD, gNeD, gIx, gIn, g1A, g2A, gInt, gLen, gTuple, gSum, gBest, dSl, dNoPart, dPart, dgName, dgTup, dgCons, dgNil, dgSub, gSetI, dIndexT, dChain, startD, List.map_cons, List.map_nil, List.length_cons, List.length_nil, List.replicate, List.append, List.cons_append, List.nil_append, List.getElem?_cons_zero, List.getElem?_cons_succ, List.set_cons_zero, List.set_cons_succ, Option.some.injEq, Dv.d.injEq, Dv.r.injEq, PyData.tuple.injEq, PyData.list.injEq, PyData.str.injEq, PyData.int.injEq, exists_eq_left', Option.map_some, Nat.zero_add, Nat.reduceAdd, Nat.reduceSub, true_and, and_true, exists_and_left, at0, at1, at2, at3, at4, eqv_int, shaped_int, eqv_pr, shaped_pr, bes, intsD, in4, flat4, flatI, Bool.not_eq_true', decide_eq_false_iff_not, not_true_eq_false, if_true, if_false, Bool.not_true, Bool.not_false, Bool.false_eq_true, Bool.true_eq_false, Bool.or_eq_false_iff,  shaped_tn, shaped_hd, shaped_r, decide_eq_true_eq, sizeLine_eq, Nat.reduceLeDiff, Int.reduceToNat, Int.reducePow, Int.reduceMul, Int.reduceAdd, Int.reduceSub, Int.reduceNeg, Int.reduceMod, setM_same, MO.lst.injEq, setM_setM, ix0, ix1, ix2, ix3, ix4]
    refine z s2 _ _ _ ?_ (by omega) (d6.mono (by omega))
    simp only [List.mem_cons, List.not_mem_nil, or_false] at m1 m2
    omega
theorem sc__law_kind : FnScope ["caught", "kinds"] ["caught"] (defScope s__law_kind) := ⟨rfl, rfl, rfl, by decide +kernel, rfl, by decide +kernel, by decide +kernel⟩
theorem ok__law_kind (T : Tx P w K mg base) : FnOk P w K mg base CX0 1 T.a__law_kind T.fd__law_kind ["caught"] (spD K (F__law_kind T.a_NoBox T.a_NoNumber T.a_NoSpiral T.a_NoAsk)) := by
  refine Fun.okD T.F__law_kind sc__law_kind mo__law_kind (fun ds m Q h => ?_) (fun cdv A outer s H E hr => ?_)
  · unfold F__law_kind at h; obtain ⟨a, rfl, hk⟩ := h; rfl
  · refine ⟨_, (dss_cons (ds_set (i := 1) sc__law_kind.nd rfl (by first | exact Or.inl rfl | exact Or.inr rfl) (de_lst (da_cons (de_isX (isX4 T.X_NoBox T.X_NoNumber T.X_NoSpiral T.X_NoAsk T.q_NoBox_NoAsk T.q_NoNumber_NoAsk T.q_NoSpiral_NoAsk T.q_NoAsk_NoAsk) (by rfl) T.b_isinstance (by rfl) T.m_NoAsk (dv 0)) (da_cons (de_isX (isX4 T.X_NoBox T.X_NoNumber T.X_NoSpiral T.X_NoAsk T.q_NoBox_NoBox T.q_NoNumber_NoBox T.q_NoSpiral_NoBox T.q_NoAsk_NoBox) (by rfl) T.b_isinstance (by rfl) T.m_NoBox (dv 0)) (da_cons (de_isX (isX4 T.X_NoBox T.X_NoNumber T.X_NoSpiral T.X_NoAsk T.q_NoBox_NoNumber T.q_NoNumber_NoNumber T.q_NoSpiral_NoNumber T.q_NoAsk_NoNumber) (by rfl) T.b_isinstance (by rfl) T.m_NoNumber (dv 0)) da_nil)))))
      (dss_cons (ds_set (i := 1) sc__law_kind.nd rfl (by first | exact Or.inl rfl | exact Or.inr rfl) (de_add (dv 1) (de_lst (da_cons (de_isX (isX4 T.X_NoBox T.X_NoNumber T.X_NoSpiral T.X_NoAsk T.q_NoBox_NoSpiral T.q_NoNumber_NoSpiral T.q_NoSpiral_NoSpiral T.q_NoAsk_NoSpiral) (by rfl) T.b_isinstance (by rfl) T.m_NoSpiral (dv 0)) da_nil))))
      (dss_cons (ds_if (DW.dt (dw_or (dt_not (dt_val (de_isX (isX4 T.X_NoBox T.X_NoNumber T.X_NoSpiral T.X_NoAsk T.q_NoBox_LaidError T.q_NoNumber_LaidError T.q_NoSpiral_LaidError T.q_NoAsk_LaidError) (by rfl) T.b_isinstance (by rfl) T.m_LaidError (dv 0)))) (dw_or (dt_not (dt_val (de_isXT (isX4 T.X_NoBox T.X_NoNumber T.X_NoSpiral T.X_NoAsk T.q_NoBox_ValueError T.q_NoNumber_ValueError T.q_NoSpiral_ValueError T.q_NoAsk_ValueError) (by rfl) T.b_isinstance (by rfl) T.b_ValueError (by decide +kernel) (dv 0)))) (dw_or1 (dt_ne hr (de_countL (dv 1) de_bl) de_int))))) (dss_one (ds_ret (de_tup (da_cons de_str da_nil)))) dss_nil)
      (dss_cons (ds_if (dt_val (de_ix (dv 1) de_int)) (dss_cons (ds_if (dt_val (de_isi (T := "bool") (by rfl) T.b_isinstance (by rfl) T.b_bool (by decide +kernel) (by decide) (de_num T.E (dv 0)))) (dss_one (ds_ret (de_tup (da_cons de_str da_nil)))) dss_nil)
      (dss_one (ds_ret (de_tup (da_cons de_str (da_cons (de_num T.E (dv 0)) da_nil)))))) dss_nil)
      (dss_one (ds_ret (de_tup (da_cons (de_ix (de_lst (da_cons de_str (da_cons de_str (da_cons de_str (da_cons de_str da_nil))))) (de_indexL (dv 1) de_bl)) da_nil)))))))), fun ds m Q h => ?_⟩
    obtain ⟨a, rfl, hk⟩ := h
    try simp only [sSeq, sAsg, sRet, sIf, sDrop, sNext, sNever, dOp, dUn, dVar, dC, dTest, isBool, dAnd, dOr, dNot, dAndV, dOrV, dNotV, dIf, dCons, dNil, dTup, dLst, dLstM, datas, dCall, dCB, gI0, gI, gB0, g1I, gAdd, gEqD, gNeD, gIx, gIn, g1A, g2A, gInt, gLen, gTuple, gSum, gBest, dSl, dNoPart, dPart, dgName, dgTup, dgCons, dgNil, dgSub, gSetI, dIndexT, dChain, startD, List.map_cons, List.map_nil, List.length_cons, List.length_nil, List.replicate, List.append, List.cons_append, List.nil_append, List.getElem?_cons_zero, List.getElem?_cons_succ, List.set_cons_zero, List.set_cons_succ, Option.some.injEq, Dv.d.injEq, Dv.r.injEq, PyData.tuple.injEq, PyData.list.injEq, PyData.str.injEq, PyData.int.injEq, exists_eq_left', Option.map_some, Nat.zero_add, Nat.reduceAdd, Nat.reduceSub, true_and, and_true, exists_and_left, at0, at1, at2, at3, at4, eqv_int, shaped_int, eqv_pr, shaped_pr, bes, intsD, in4, flat4, flatI, Bool.not_eq_true', decide_eq_false_iff_not, not_true_eq_false, if_true, if_false, Bool.not_true, Bool.not_false, Bool.false_eq_true, Bool.true_eq_false, Bool.or_eq_false_iff,  shaped_tn, shaped_hd, shaped_r, decide_eq_true_eq, sizeLine_eq, Nat.reduceLeDiff, Int.reduceToNat, Int.reducePow, Int.reduceMul, Int.reduceAdd, Int.reduceSub, Int.reduceNeg, Int.reduceMod, setM_same, MO.lst.injEq, setM_setM, ix0, ix1, ix2, ix3, ix4, dPick, keyOf, dSlT, dTupRng, gAppend, dAppend, g2B, dM1, eqv_tn, eqv_tnl, shaped_l, dSlM, g1N, dIsi, tyD, gListD, gListM, gTupleM, sPar, dgPair, isT_it, isT_is, isT_ib, isT_ii, isT_tt, gInS, sTry, xCall, xSeq, xIf, xThen, xRaise, dIsE, dNum, dRep1, gAddT, isT_ss, isT_st, isT_ts, dgAny, djNil, djStr, djFmt, gShow, gRmp, gSplit, gJoin, gIntS, gMulS, dAllG, dRev, gListD, gSplitM, gJoinM, gNotInS, gStrI, gMulN, dIns, daAddRep, gEqX, gAddM, gAddT, sTry, sOr, dAlt, xAlt, xRaiseB, sTryP, xCall, xRaise, xIf, xSeq, xThen, dIsX, dMadeP, dMadeN, dStrX, dNum, dCountL, dIndexL, gSFind, dRep1, gListM, cx_K, nox_K, sCont]
    rcases hk with ⟨h1, q⟩ | ⟨i, h1, q⟩
    · have hm : ExcM T.a_NoSpiral a (m a) := .inl h1
      refine ⟨_, hm, false, by simp, _, hm, false, by simp, _, hm, false, by simp, _, hm, true, by simp, _, hm, true, by simp, ?_⟩
      rw [if_neg (by decide)]
      refine ⟨_, hm, true, by simp, ?_⟩
      rw [if_neg (by decide)]
      refine ⟨by decide +kernel, by decide +kernel, ?_⟩
      rw [if_neg (by decide +kernel)]
      try simp only [sSeq, sAsg, sRet, sIf, sDrop, sNext, sNever, dOp, dUn, dVar, dC, dTest, isBool, dAnd, dOr, dNot, dAndV, dOrV, dNotV, dIf, dCons, dNil, dTup, dLst, dLstM, datas, dCall, dCB, gI0, gI, gB0, g1I, gAdd, gEqD, gNeD, gIx, gIn, g1A, g2A, gInt, gLen, gTuple, gSum, gBest, dSl, dNoPart, dPart, dgName, dgTup, dgCons, dgNil, dgSub, gSetI, dIndexT, dChain, startD, List.map_cons, List.map_nil, List.length_cons, List.length_nil, List.replicate, List.append, List.cons_append, List.nil_append, List.getElem?_cons_zero, List.getElem?_cons_succ, List.set_cons_zero, List.set_cons_succ, Option.some.injEq, Dv.d.injEq, Dv.r.injEq, PyData.tuple.injEq, PyData.list.injEq, PyData.str.injEq, PyData.int.injEq, exists_eq_left', Option.map_some, Nat.zero_add, Nat.reduceAdd, Nat.reduceSub, true_and, and_true, exists_and_left, at0, at1, at2, at3, at4, eqv_int, shaped_int, eqv_pr, shaped_pr, bes, intsD, in4, flat4, flatI, Bool.not_eq_true', decide_eq_false_iff_not, not_true_eq_false, if_true, if_false, Bool.not_true, Bool.not_false, Bool.false_eq_true, Bool.true_eq_false, Bool.or_eq_false_iff,  shaped_tn, shaped_hd, shaped_r, decide_eq_true_eq, sizeLine_eq, Nat.reduceLeDiff, Int.reduceToNat, Int.reducePow, Int.reduceMul, Int.reduceAdd, Int.reduceSub, Int.reduceNeg, Int.reduceMod, setM_same, MO.lst.injEq, setM_setM, ix0, ix1, ix2, ix3, ix4, dPick, keyOf, dSlT, dTupRng, gAppend, dAppend, g2B, dM1, eqv_tn, eqv_tnl, shaped_l, dSlM, g1N, dIsi, tyD, gListD, gListM, gTupleM, sPar, dgPair, isT_it, isT_is, isT_ib, isT_ii, isT_tt, gInS, sTry, xCall, xSeq, xIf, xThen, xRaise, dIsE, dNum, dRep1, gAddT, isT_ss, isT_st, isT_ts, dgAny, djNil, djStr, djFmt, gShow, gRmp, gSplit, gJoin, gIntS, gMulS, dAllG, dRev, gListD, gSplitM, gJoinM, gNotInS, gStrI, gMulN, dIns, daAddRep, gEqX, gAddM, gAddT, sTry, sOr, dAlt, xAlt, xRaiseB, sTryP, xCall, xRaise, xIf, xSeq, xThen, dIsX, dMadeP, dMadeN, dStrX, dNum, dCountL, dIndexL, gSFind, dRep1, gListM, cx_K, nox_K, sCont]
      refine ⟨by decide +kernel, by decide +kernel, 3, _, rfl, by decide +kernel, fun i z' hi hz => ?_, _, rfl, q⟩
      rcases (show i = 0 ∨ i = 1 ∨ i = 2 by omega) with rfl | rfl | rfl <;> (cases hz; decide +kernel)
    · have hm : ExcM T.a_NoNumber a (m a) := .inr (.inr ⟨i, h1⟩)
      refine ⟨_, hm, false, by simp, _, hm, false, by simp, _, hm, true, by simp, _, hm, false, by simp, _, hm, true, by simp, ?_⟩
      rw [if_neg (by decide)]
      refine ⟨_, hm, true, by simp, ?_⟩
      rw [if_neg (by decide)]
      refine ⟨by decide +kernel, by decide +kernel, ?_⟩
      rw [if_neg (by decide +kernel)]
      try simp only [sSeq, sAsg, sRet, sIf, sDrop, sNext, sNever, dOp, dUn, dVar, dC, dTest, isBool, dAnd, dOr, dNot, dAndV, dOrV, dNotV, dIf, dCons, dNil, dTup, dLst, dLstM, datas, dCall, dCB, gI0, gI, gB0, g1I, gAdd, gEqD, gNeD, gIx, gIn, g1A, g2A, gInt, gLen, gTuple, gSum, gBest, dSl, dNoPart, dPart, dgName, dgTup, dgCons, dgNil, dgSub, gSetI, dIndexT, dChain, startD, List.map_cons, List.map_nil, List.length_cons, List.length_nil, List.replicate, List.append, List.cons_append, List.nil_append, List.getElem?_cons_zero, List.getElem?_cons_succ, List.set_cons_zero, List.set_cons_succ, Option.some.injEq, Dv.d.injEq, Dv.r.injEq, PyData.tuple.injEq, PyData.list.injEq, PyData.str.injEq, PyData.int.injEq, exists_eq_left', Option.map_some, Nat.zero_add, Nat.reduceAdd, Nat.reduceSub, true_and, and_true, exists_and_left, at0, at1, at2, at3, at4, eqv_int, shaped_int, eqv_pr, shaped_pr, bes, intsD, in4, flat4, flatI, Bool.not_eq_true', decide_eq_false_iff_not, not_true_eq_false, if_true, if_false, Bool.not_true, Bool.not_false, Bool.false_eq_true, Bool.true_eq_false, Bool.or_eq_false_iff,  shaped_tn, shaped_hd, shaped_r, decide_eq_true_eq, sizeLine_eq, Nat.reduceLeDiff, Int.reduceToNat, Int.reducePow, Int.reduceMul, Int.reduceAdd, Int.reduceSub, Int.reduceNeg, Int.reduceMod, setM_same, MO.lst.injEq, setM_setM, ix0, ix1, ix2, ix3, ix4, dPick, keyOf, dSlT, dTupRng, gAppend, dAppend, g2B, dM1, eqv_tn, eqv_tnl, shaped_l, dSlM, g1N, dIsi, tyD, gListD, gListM, gTupleM, sPar, dgPair, isT_it, isT_is, isT_ib, isT_ii, isT_tt, gInS, sTry, xCall, xSeq, xIf, xThen, xRaise, dIsE, dNum, dRep1, gAddT, isT_ss, isT_st, isT_ts, dgAny, djNil, djStr, djFmt, gShow, gRmp, gSplit, gJoin, gIntS, gMulS, dAllG, dRev, gListD, gSplitM, gJoinM, gNotInS, gStrI, gMulN, dIns, daAddRep, gEqX, gAddM, gAddT, sTry, sOr, dAlt, xAlt, xRaiseB, sTryP, xCall, xRaise, xIf, xSeq, xThen, dIsX, dMadeP, dMadeN, dStrX, dNum, dCountL, dIndexL, gSFind, dRep1, gListM, cx_K, nox_K, sCont]
      exact ⟨i, h1, i, h1, q⟩
theorem sc__law_sign : FnScope ["deck", "signs"] ["deck"] (defScope s__law_sign) := ⟨rfl, rfl, rfl, by decide +kernel, rfl, by decide +kernel, by decide +kernel⟩
theorem ok__law_sign (T : Tx P w K mg base) : FnOk P w K mg base CX0 3 T.a__law_sign T.fd__law_sign ["deck"] (spD K F__law_sign) := by
  refine Fun.okD T.F__law_sign sc__law_sign mo__law_sign (fun ds m Q h => ?_) (fun cdv A outer s H E hr => ?_)
  · unfold F__law_sign at h; obtain ⟨a, o, c, rfl, hm, hd, hc, z⟩ := h; rfl
  · refine ⟨_, (dss_cons (ds_set (i := 1) sc__law_sign.nd rfl (by first | exact Or.inl rfl | exact Or.inr rfl) de_str)
      (dss_one (ds_ret (de_ix (de_lst (da_cons (de_ix (dv 1) (de_call mo__law_next ((ok__law_next T).mono (by decide : 2 ≤ 2)) hr (by rfl) T.m__law_next T.F__law_next.kp T.n__law_next (da_cons (dv 0) (da_cons (de_len (by rfl) T.b_len (da_cons (dv 1) da_nil)) da_nil)))) (da_cons (de_ix de_str (de_call mo__law_next ((ok__law_next T).mono (by decide : 2 ≤ 2)) hr (by rfl) T.m__law_next T.F__law_next.kp T.n__law_next (da_cons (dv 0) (da_cons de_int da_nil)))) da_nil))) (de_call mo__law_next ((ok__law_next T).mono (by decide : 2 ≤ 2)) hr (by rfl) T.m__law_next T.F__law_next.kp T.n__law_next (da_cons (dv 0) (da_cons de_int da_nil))))))), fun ds m Q h => ?_⟩
    obtain ⟨a, o, c, rfl, hm, hd, hc, z⟩ := h
    try simp only [sSeq, sAsg, sRet, sIf, sDrop, sNext, sNever, dOp, dUn, dVar, dC, dTest, isBool, dAnd, dOr, dNot, dAndV, dOrV, dNotV, dIf, dCons, dNil, dTup, dLst, dLstM, datas, dCall, dCB, gI0, gI, gB0, g1I, gAdd, gEqD, gNeD, gIx, gIn, g1A, g2A, gInt, gLen, gTuple, gSum, gBest, dSl, dNoPart, dPart, dgName, dgTup, dgCons, dgNil, dgSub, gSetI, dIndexT, dChain, startD, List.map_cons, List.map_nil, List.length_cons, List.length_nil, List.replicate, List.append, List.cons_append, List.nil_append, List.getElem?_cons_zero, List.getElem?_cons_succ, List.set_cons_zero, List.set_cons_succ, Option.some.injEq, Dv.d.injEq, Dv.r.injEq, PyData.tuple.injEq, PyData.list.injEq, PyData.str.injEq, PyData.int.injEq, exists_eq_left', Option.map_some, Nat.zero_add, Nat.reduceAdd, Nat.reduceSub, true_and, and_true, exists_and_left, at0, at1, at2, at3, at4, eqv_int, shaped_int, eqv_pr, shaped_pr, bes, intsD, in4, flat4, flatI, Bool.not_eq_true', decide_eq_false_iff_not, not_true_eq_false, if_true, if_false, Bool.not_true, Bool.not_false, Bool.false_eq_true, Bool.true_eq_false, Bool.or_eq_false_iff,  shaped_tn, shaped_hd, shaped_r, decide_eq_true_eq, sizeLine_eq, Nat.reduceLeDiff, Int.reduceToNat, Int.reducePow, Int.reduceMul, Int.reduceAdd, Int.reduceSub, Int.reduceNeg, Int.reduceMod, setM_same, MO.lst.injEq, setM_setM, ix0, ix1, ix2, ix3, ix4, dPick, keyOf, dSlT, dTupRng, gAppend, dAppend, g2B, dM1, eqv_tn, eqv_tnl, shaped_l, dSlM, g1N, dIsi, tyD, gListD, gListM, gTupleM, sPar, dgPair, isT_it, isT_is, isT_ib, isT_ii, isT_tt, gInS, sTry, xCall, xSeq, xIf, xThen, xRaise, dIsE, dNum, dRep1, gAddT, isT_ss, isT_st, isT_ts, dgAny, djNil, djStr, djFmt, gShow, gRmp, gSplit, gJoin, gIntS, gMulS, dAllG, dRev, gListD, gSplitM, gJoinM, gNotInS, gStrI, gMulN, dIns, daAddRep, gEqX, gAddM, gAddT, sTry, sOr, dAlt, xAlt, xRaiseB, sTryP, xCall, xRaise, xIf, xSeq, xThen, dIsX, dMadeP, dMadeN, dStrX, dNum, dCountL, dIndexL, gSFind, dRep1, gListM, cx_K, nox_K, sCont]
    obtain ⟨sg, hsg⟩ : ∃ sg, sg = Str.ofString " !\"#$&'()*+,-./0123456789:;<=>?@ABCDEFGHIJKLMNOPQRSTUVWXYZ[\\]^_`abcdefghijklmnopqrstuvwxyz{|}~\n" := ⟨_, rfl⟩
    have hL : sg.length = 95 := by rw [hsg]; decide +kernel
    have hC : Cp sg := by rw [hsg]; show ∀ c ∈ _, c < 1114112; decide +kernel
    rw [← hsg]
    have hL2 := len_cps sg
    have hC2 : ∀ c ∈ (Str.ofString "0129 -enwslr").cps.toList, c < 1114112 := by decide +kernel
    have hL3 : (Str.ofString "0129 -enwslr").cps.toList.length = 12 := by decide +kernel
    refine ⟨by omega, a, _, o, c, rfl, by omega, hm, hd, by omega, fun v1 o1 l1 u1 d1 => ?_⟩
    obtain ⟨c1, e1, m1⟩ := at_get (l := sg.cps.toList) l1 (by omega)
    try simp only [sSeq, sAsg, sRet, sIf, sDrop, sNext, sNever, dOp, dUn, dVar, dC, dTest, isBool, dAnd, dOr, dNot, dAndV, dOrV, dNotV, dIf, dCons, dNil, dTup, dLst, dLstM, datas, dCall, dCB, gI0, gI, gB0, g1I, gAdd, gEqD, gNeD, gIx, gIn, g1A, g2A, gInt, gLen, gTuple, gSum, gBest, dSl, dNoPart, dPart, dgName, dgTup, dgCons, dgNil, dgSub, gSetI, dIndexT, dChain, startD, List.map_cons, List.map_nil, List.length_cons, List.length_nil, List.replicate, List.append, List.cons_append, List.nil_append, List.getElem?_cons_zero, List.getElem?_cons_succ, List.set_cons_zero, List.set_cons_succ, Option.some.injEq, Dv.d.injEq, Dv.r.injEq, PyData.tuple.injEq, PyData.list.injEq, PyData.str.injEq, PyData.int.injEq, exists_eq_left', Option.map_some, Nat.zero_add, Nat.reduceAdd, Nat.reduceSub, true_and, and_true, exists_and_left, at0, at1, at2, at3, at4, eqv_int, shaped_int, eqv_pr, shaped_pr, bes, intsD, in4, flat4, flatI, Bool.not_eq_true', decide_eq_false_iff_not, not_true_eq_false, if_true, if_false, Bool.not_true, Bool.not_false, Bool.false_eq_true, Bool.true_eq_false, Bool.or_eq_false_iff,  shaped_tn, shaped_hd, shaped_r, decide_eq_true_eq, sizeLine_eq, Nat.reduceLeDiff, Int.reduceToNat, Int.reducePow, Int.reduceMul, Int.reduceAdd, Int.reduceSub, Int.reduceNeg, Int.reduceMod, setM_same, MO.lst.injEq, setM_setM, ix0, ix1, ix2, ix3, ix4, dPick, keyOf, dSlT, dTupRng, gAppend, dAppend, g2B, dM1, eqv_tn, eqv_tnl, shaped_l, dSlM, g1N, dIsi, tyD, gListD, gListM, gTupleM, sPar, dgPair, isT_it, isT_is, isT_ib, isT_ii, isT_tt, gInS, sTry, xCall, xSeq, xIf, xThen, xRaise, dIsE, dNum, dRep1, gAddT, isT_ss, isT_st, isT_ts, dgAny, djNil, djStr, djFmt, gShow, gRmp, gSplit, gJoin, gIntS, gMulS, dAllG, dRev, gListD, gSplitM, gJoinM, gNotInS, gStrI, gMulN, dIns, daAddRep, gEqX, gAddM, gAddT, sTry, sOr, dAlt, xAlt, xRaiseB, sTryP, xCall, xRaise, xIf, xSeq, xThen, dIsX, dMadeP, dMadeN, dStrX, dNum, dCountL, dIndexL, gSFind, dRep1, gListM, cx_K, nox_K, sCont]
    refine ⟨by omega, c1, e1, a, _, _, _, rfl, by decide, setM_same, d1, by omega, fun v2 o2 l2 u2 d2 => ?_⟩
    obtain ⟨c2, e2, m2⟩ := at_get (l := (Str.ofString "0129 -enwslr").cps.toList) l2 (by omega)
    try simp only [sSeq, sAsg, sRet, sIf, sDrop, sNext, sNever, dOp, dUn, dVar, dC, dTest, isBool, dAnd, dOr, dNot, dAndV, dOrV, dNotV, dIf, dCons, dNil, dTup, dLst, dLstM, datas, dCall, dCB, gI0, gI, gB0, g1I, gAdd, gEqD, gNeD, gIx, gIn, g1A, g2A, gInt, gLen, gTuple, gSum, gBest, dSl, dNoPart, dPart, dgName, dgTup, dgCons, dgNil, dgSub, gSetI, dIndexT, dChain, startD, List.map_cons, List.map_nil, List.length_cons, List.length_nil, List.replicate, List.append, List.cons_append, List.nil_append, List.getElem?_cons_zero, List.getElem?_cons_succ, List.set_cons_zero, List.set_cons_succ, Option.some.injEq, Dv.d.injEq, Dv.r.injEq, PyData.tuple.injEq, PyData.list.injEq, PyData.str.injEq, PyData.int.injEq, exists_eq_left', Option.map_some, Nat.zero_add, Nat.reduceAdd, Nat.reduceSub, true_and, and_true, exists_and_left, at0, at1, at2, at3, at4, eqv_int, shaped_int, eqv_pr, shaped_pr, bes, intsD, in4, flat4, flatI, Bool.not_eq_true', decide_eq_false_iff_not, not_true_eq_false, if_true, if_false, Bool.not_true, Bool.not_false, Bool.false_eq_true, Bool.true_eq_false, Bool.or_eq_false_iff,  shaped_tn, shaped_hd, shaped_r, decide_eq_true_eq, sizeLine_eq, Nat.reduceLeDiff, Int.reduceToNat, Int.reducePow, Int.reduceMul, Int.reduceAdd, Int.reduceSub, Int.reduceNeg, Int.reduceMod, setM_same, MO.lst.injEq, setM_setM, ix0, ix1, ix2, ix3, ix4, dPick, keyOf, dSlT, dTupRng, gAppend, dAppend, g2B, dM1, eqv_tn, eqv_tnl, shaped_l, dSlM, g1N, dIsi, tyD, gListD, gListM, gTupleM, sPar, dgPair, isT_it, isT_is, isT_ib, isT_ii, isT_tt, gInS, sTry, xCall, xSeq, xIf, xThen, xRaise, dIsE, dNum, dRep1, gAddT, isT_ss, isT_st, isT_ts, dgAny, djNil, djStr, djFmt, gShow, gRmp, gSplit, gJoin, gIntS, gMulS, dAllG, dRev, gListD, gSplitM, gJoinM, gNotInS, gStrI, gMulN, dIns, daAddRep, gEqX, gAddM, gAddT, sTry, sOr, dAlt, xAlt, xRaiseB, sTryP, xCall, xRaise, xIf, xSeq, xThen, dIsX, dMadeP, dMadeN, dStrX, dNum, dCountL, dIndexL, gSFind, dRep1, gListM, cx_K, nox_K, sCont]
    refine ⟨by decide +kernel, c2, e2, ?_⟩
    try simp only [sSeq, sAsg, sRet, sIf, sDrop, sNext, sNever, dOp, dUn, dVar, dC, dTest, isBool, dAnd, dOr, dNot, dAndV, dOrV, dNotV, dIf, dCons, dNil, dTup, dLst, dLstM, datas, dCall, dCB, gI0, gI, gB0, g1I, gAdd, gEqD, gNeD, gIx, gIn, g1A, g2A, gInt, gLen, gTuple, gSum, gBest, dSl, dNoPart, dPart, dgName, dgTup, dgCons, dgNil, dgSub, gSetI, dIndexT, dChain, startD, List.map_cons, List.map_nil, List.length_cons, List.length_nil, List.replicate, List.append, List.cons_append, List.nil_append, List.getElem?_cons_zero, List.getElem?_cons_succ, List.set_cons_zero, List.set_cons_succ, Option.some.injEq, Dv.d.injEq, Dv.r.injEq, PyData.tuple.injEq, PyData.list.injEq, PyData.str.injEq, PyData.int.injEq, exists_eq_left', Option.map_some, Nat.zero_add, Nat.reduceAdd, Nat.reduceSub, true_and, and_true, exists_and_left, at0, at1, at2, at3, at4, eqv_int, shaped_int, eqv_pr, shaped_pr, bes, intsD, in4, flat4, flatI, Bool.not_eq_true', decide_eq_false_iff_not, not_true_eq_false, if_true, if_false, Bool.not_true, Bool.not_false, Bool.false_eq_true, Bool.true_eq_false, Bool.or_eq_false_iff,  shaped_tn, shaped_hd, shaped_r, decide_eq_true_eq, sizeLine_eq, Nat.reduceLeDiff, Int.reduceToNat, Int.reducePow, Int.reduceMul, Int.reduceAdd, Int.reduceSub, Int.reduceNeg, Int.reduceMod, setM_same, MO.lst.injEq, setM_setM, ix0, ix1, ix2, ix3, ix4, dPick, keyOf, dSlT, dTupRng, gAppend, dAppend, g2B, dM1, eqv_tn, eqv_tnl, shaped_l, dSlM, g1N, dIsi, tyD, gListD, gListM, gTupleM, sPar, dgPair, isT_it, isT_is, isT_ib, isT_ii, isT_tt, gInS, sTry, xCall, xSeq, xIf, xThen, xRaise, dIsE, dNum, dRep1, gAddT, isT_ss, isT_st, isT_ts, dgAny, djNil, djStr, djFmt, gShow, gRmp, gSplit, gJoin, gIntS, gMulS, dAllG, dRev, gListD, gSplitM, gJoinM, gNotInS, gStrI, gMulN, dIns, daAddRep, gEqX, gAddM, gAddT, sTry, sOr, dAlt, xAlt, xRaiseB, sTryP, xCall, xRaise, xIf, xSeq, xThen, dIsX, dMadeP, dMadeN, dStrX, dNum, dCountL, dIndexL, gSFind, dRep1, gListM, cx_K, nox_K, sCont]
    refine ⟨a, _, _, _, rfl, by decide, setM_same, d2, by omega, fun v3 o3 l3 u3 d3 => ?_⟩
    try simp only [sSeq, sAsg, sRet, sIf, sDrop, sNext, sNever, dOp, dUn, dVar, dC, dTest, isBool, dAnd, dOr, dNot, dAndV, dOrV, dNotV, dIf, dCons, dNil, dTup, dLst, dLstM, datas, dCall, dCB, gI0, gI, gB0, g1I, gAdd, gEqD, gNeD, gIx, gIn, g1A, g2A, gInt, gLen, gTuple, gSum, gBest, dSl, dNoPart, dPart, dgName, dgTup, dgCons, dgNil, dgSub, gSetI, dIndexT, dChain, startD, List.map_cons, List.map_nil, List.length_cons, List.length_nil, List.replicate, List.append, List.cons_append, List.nil_append, List.getElem?_cons_zero, List.getElem?_cons_succ, List.set_cons_zero, List.set_cons_succ, Option.some.injEq, Dv.d.injEq, Dv.r.injEq, PyData.tuple.injEq, PyData.list.injEq, PyData.str.injEq, PyData.int.injEq, exists_eq_left', Option.map_some, Nat.zero_add, Nat.reduceAdd, Nat.reduceSub, true_and, and_true, exists_and_left, at0, at1, at2, at3, at4, eqv_int, shaped_int, eqv_pr, shaped_pr, bes, intsD, in4, flat4, flatI, Bool.not_eq_true', decide_eq_false_iff_not, not_true_eq_false, if_true, if_false, Bool.not_true, Bool.not_false, Bool.false_eq_true, Bool.true_eq_false, Bool.or_eq_false_iff,  shaped_tn, shaped_hd, shaped_r, decide_eq_true_eq, sizeLine_eq, Nat.reduceLeDiff, Int.reduceToNat, Int.reducePow, Int.reduceMul, Int.reduceAdd, Int.reduceSub, Int.reduceNeg, Int.reduceMod, setM_same, MO.lst.injEq, setM_setM, ix0, ix1, ix2, ix3, ix4, dPick, keyOf, dSlT, dTupRng, gAppend, dAppend, g2B, dM1, eqv_tn, eqv_tnl, shaped_l, dSlM, g1N, dIsi, tyD, gListD, gListM, gTupleM, sPar, dgPair, isT_it, isT_is, isT_ib, isT_ii, isT_tt, gInS, sTry, xCall, xSeq, xIf, xThen, xRaise, dIsE, dNum, dRep1, gAddT, isT_ss, isT_st, isT_ts, dgAny, djNil, djStr, djFmt, gShow, gRmp, gSplit, gJoin, gIntS, gMulS, dAllG, dRev, gListD, gSplitM, gJoinM, gNotInS, gStrI, gMulN, dIns, daAddRep, gEqX, gAddM, gAddT, sTry, sOr, dAlt, xAlt, xRaiseB, sTryP, xCall, xRaise, xIf, xSeq, xThen, dIsX, dMadeP, dMadeN, dStrX, dNum, dCountL, dIndexL, gSFind, dRep1, gListM, cx_K, nox_K, sCont]
    rcases (show v3 = 0 ∨ v3 = 1 by omega) with rfl | rfl
    · exact ⟨_, at0, z c1 o3 (hC _ m1) d3⟩
    · exact ⟨_, at1, z c2 o3 (hC2 _ m2) d3⟩
theorem sc__law_spoilt : FnScope ["deck", "text", "k", "at", "way", "sign", "words", "one", "other", "some", "word"] ["deck", "text"] (defScope s__law_spoilt) := ⟨rfl, rfl, rfl, by decide +kernel, rfl, by decide +kernel, by decide +kernel⟩
theorem ok__law_spoilt (T : Tx P w K mg base) : FnOk P w K mg base CX0 4 T.a__law_spoilt T.fd__law_spoilt ["deck", "text"] (spD K F__law_spoilt) := by
  refine Fun.okDS T.F__law_spoilt sc__law_spoilt mo__law_spoilt (fun ds m Q h => ?_) (fun cdv A outer s H E hr => ?_)
  · unfold F__law_spoilt at h; obtain ⟨a, o, c, z0, rfl, hm, hd, hc, hz, z⟩ := h; rfl
  · refine ⟨_, (dss_cons (ds_for PassesOwn.never rfl (di_range1 (by rfl) T.b_range (da_cons (de_add de_int (de_call mo__law_next ((ok__law_next T).mono (by decide : 2 ≤ 3)) hr (by rfl) T.m__law_next T.F__law_next.kp T.n__law_next (da_cons (dv 0) (da_cons de_int da_nil)))) da_nil)) (dg_name (i := 2) sc__law_spoilt.nd rfl (by first | exact Or.inl rfl | exact Or.inr rfl)) (dss_cons (ds_set (i := 3) sc__law_spoilt.nd rfl (by first | exact Or.inl rfl | exact Or.inr rfl) (de_ix (de_lst (da_cons (de_call mo__law_next ((ok__law_next T).mono (by decide : 2 ≤ 3)) hr (by rfl) T.m__law_next T.F__law_next.kp T.n__law_next (da_cons (dv 0) (da_cons (de_add (de_len (by rfl) T.b_len (da_cons (dv 1) da_nil)) de_int) da_nil))) (da_cons (de_max2 rfl (by rfl) T.b_max (da_cons de_int (da_cons (de_sub (de_len (by rfl) T.b_len (da_cons (dv 1) da_nil)) de_int) da_nil))) (da_cons de_int da_nil)))) (de_call mo__law_next ((ok__law_next T).mono (by decide : 2 ≤ 3)) hr (by rfl) T.m__law_next T.F__law_next.kp T.n__law_next (da_cons (dv 0) (da_cons de_int da_nil)))))
      (dss_cons (ds_set (i := 4) sc__law_spoilt.nd rfl (by first | exact Or.inl rfl | exact Or.inr rfl) (de_call mo__law_next ((ok__law_next T).mono (by decide : 2 ≤ 3)) hr (by rfl) T.m__law_next T.F__law_next.kp T.n__law_next (da_cons (dv 0) (da_cons de_int da_nil))))
      (dss_cons (ds_set (i := 5) sc__law_spoilt.nd rfl (by first | exact Or.inl rfl | exact Or.inr rfl) (de_call mo__law_sign ((ok__law_sign T).mono (by decide : 3 ≤ 3)) hr (by rfl) T.m__law_sign T.F__law_sign.kp T.n__law_sign (da_cons (dv 0) da_nil)))
      (dss_cons (ds_set (i := 6) sc__law_spoilt.nd rfl (by first | exact Or.inl rfl | exact Or.inr rfl) (de_splitM (dv 1) de_str))
      (dss_cons (ds_set (i := 7) sc__law_spoilt.nd rfl (by first | exact Or.inl rfl | exact Or.inr rfl) (de_call mo__law_next ((ok__law_next T).mono (by decide : 2 ≤ 3)) hr (by rfl) T.m__law_next T.F__law_next.kp T.n__law_next (da_cons (dv 0) (da_cons (de_len (by rfl) T.b_len (da_cons (dv 6) da_nil)) da_nil))))
      (dss_cons (ds_set (i := 8) sc__law_spoilt.nd rfl (by first | exact Or.inl rfl | exact Or.inr rfl) (de_call mo__law_next ((ok__law_next T).mono (by decide : 2 ≤ 3)) hr (by rfl) T.m__law_next T.F__law_next.kp T.n__law_next (da_cons (dv 0) (da_cons (de_len (by rfl) T.b_len (da_cons (dv 6) da_nil)) da_nil))))
      (dss_cons (ds_set (i := 9) sc__law_spoilt.nd rfl (by first | exact Or.inl rfl | exact Or.inr rfl) (de_lst (da_cons de_str (da_cons de_str (da_cons de_str (da_cons de_str (da_cons de_str (da_cons de_str (da_cons de_str (da_cons de_str (da_cons de_str (da_cons de_str (da_cons de_str (da_cons de_str (da_cons de_str (da_cons de_str (da_cons de_str (da_cons de_str (da_cons de_str (da_cons de_str da_nil))))))))))))))))))))
      (dss_cons (ds_set (i := 9) sc__law_spoilt.nd rfl (by first | exact Or.inl rfl | exact Or.inr rfl) (de_add (dv 9) (de_lst (da_cons de_str (da_cons de_str (da_cons de_str (da_cons de_str (da_cons de_str (da_cons de_str (da_cons de_str (da_cons de_str (da_cons de_str da_nil))))))))))))
      (dss_cons (ds_set (i := 10) sc__law_spoilt.nd rfl (by first | exact Or.inl rfl | exact Or.inr rfl) (de_ix (dv 9) (de_call mo__law_next ((ok__law_next T).mono (by decide : 2 ≤ 3)) hr (by rfl) T.m__law_next T.F__law_next.kp T.n__law_next (da_cons (dv 0) (da_cons (de_len (by rfl) T.b_len (da_cons (dv 9) da_nil)) da_nil)))))
      (dss_cons (ds_if (dt_lt (dv 4) de_int) (dss_one (ds_set (i := 1) sc__law_spoilt.nd rfl (by first | exact Or.inl rfl | exact Or.inr rfl) (de_ix (de_lst (da_cons (de_add (de_add (de_slice (dv 1) do_none (do_some (dv 3))) (dv 5)) (de_slice (dv 1) (do_some (dv 3)) do_none)) (da_cons (de_add (de_add (de_slice (dv 1) do_none (do_some (dv 3))) (dv 5)) (de_slice (dv 1) (do_some (de_add (dv 3) de_int)) do_none)) (da_cons (de_add (de_slice (dv 1) do_none (do_some (dv 3))) (de_slice (dv 1) (do_some (de_add (dv 3) de_int)) do_none)) da_nil)))) (dv 4)))) (dss_one (ds_if (dt_eq hr (dv 4) de_int) (dss_one (ds_asg (dv 10) (dg_sub (dv 6) (dv 7)))) (dss_one (ds_if (dt_eq hr (dv 4) de_int) (dss_one (ds_expr (de_ins (dv 6) (da_cons (dv 7) (da_cons (dv 10) da_nil))))) (dss_one (ds_asg (de_tup (da_cons (de_ix (dv 6) (dv 8)) (da_cons (de_ix (dv 6) (dv 7)) da_nil))) (dg_tup (n := 2) rfl (dgs_cons (dg_sub (dv 6) (dv 7)) (dgs_cons (dg_sub (dv 6) (dv 8)) dgs_nil))))))))))
      (dss_one (ds_if (dt_gt (dv 4) de_int) (dss_one (ds_set (i := 1) sc__law_spoilt.nd rfl (by first | exact Or.inl rfl | exact Or.inr rfl) (de_joinM de_str (dv 6)))) dss_nil)))))))))))))
      (dss_one (ds_ret (dv 1)))), fun ds m Q h => ?_⟩
    obtain ⟨a, o, c, z0, rfl, hm, hd, hc, hz, z⟩ := h
    try simp only [sSeq, sAsg, sRet, sIf, sDrop, sNext, sNever, dOp, dUn, dVar, dC, dTest, isBool, dAnd, dOr, dNot, dAndV, dOrV, dNotV, dIf, dCons, dNil, dTup, dLst, dLstM, datas, dCall, dCB, gI0, gI, gB0, g1I, gAdd, gEqD, gNeD, gIx, gIn, g1A, g2A, gInt, gLen, gTuple, gSum, gBest, dSl, dNoPart, dPart, dgName, dgTup, dgCons, dgNil, dgSub, gSetI, dIndexT, dChain, startD, List.map_cons, List.map_nil, List.length_cons, List.length_nil, List.replicate, List.append, List.cons_append, List.nil_append, List.getElem?_cons_zero, List.getElem?_cons_succ, List.set_cons_zero, List.set_cons_succ, Option.some.injEq, Dv.d.injEq, Dv.r.injEq, PyData.tuple.injEq, PyData.list.injEq, PyData.str.injEq, PyData.int.injEq, exists_eq_left', Option.map_some, Nat.zero_add, Nat.reduceAdd, Nat.reduceSub, true_and, and_true, exists_and_left, at0, at1, at2, at3, at4, eqv_int, shaped_int, eqv_pr, shaped_pr, bes, intsD, in4, flat4, flatI, Bool.not_eq_true', decide_eq_false_iff_not, not_true_eq_false, if_true, if_false, Bool.not_true, Bool.not_false, Bool.false_eq_true, Bool.true_eq_false, Bool.or_eq_false_iff,  shaped_tn, shaped_hd, shaped_r, decide_eq_true_eq, sizeLine_eq, Nat.reduceLeDiff, Int.reduceToNat, Int.reducePow, Int.reduceMul, Int.reduceAdd, Int.reduceSub, Int.reduceNeg, Int.reduceMod, setM_same, MO.lst.injEq, setM_setM, ix0, ix1, ix2, ix3, ix4, dPick, keyOf, dSlT, dTupRng, gAppend, dAppend, g2B, dM1, eqv_tn, eqv_tnl, shaped_l, dSlM, g1N, dIsi, tyD, gListD, gListM, gTupleM, sPar, dgPair, isT_it, isT_is, isT_ib, isT_ii, isT_tt, gInS, sTry, xCall, xSeq, xIf, xThen, xRaise, dIsE, dNum, dRep1, gAddT, isT_ss, isT_st, isT_ts, dgAny, djNil, djStr, djFmt, gShow, gRmp, gSplit, gJoin, gIntS, gMulS, dAllG, dRev, gListD, gSplitM, gJoinM, gNotInS, gStrI, gMulN, dIns, daAddRep, gEqX, gAddM, gAddT, sTry, sOr, dAlt, xAlt, xRaiseB, sTryP, xCall, xRaise, xIf, xSeq, xThen, dIsX, dMadeP, dMadeN, dStrX, dNum, dCountL, dIndexL, gSFind, dRep1, gListM, cx_K, nox_K, sCont]
    refine for_out ?_
    show dRng1 _ _ _ _
    unfold dRng1
    try simp only [sSeq, sAsg, sRet, sIf, sDrop, sNext, sNever, dOp, dUn, dVar, dC, dTest, isBool, dAnd, dOr, dNot, dAndV, dOrV, dNotV, dIf, dCons, dNil, dTup, dLst, dLstM, datas, dCall, dCB, gI0, gI, gB0, g1I, gAdd, gEqD, gNeD, gIx, gIn, g1A, g2A, gInt, gLen, gTuple, gSum, gBest, dSl, dNoPart, dPart, dgName, dgTup, dgCons, dgNil, dgSub, gSetI, dIndexT, dChain, startD, List.map_cons, List.map_nil, List.length_cons, List.length_nil, List.replicate, List.append, List.cons_append, List.nil_append, List.getElem?_cons_zero, List.getElem?_cons_succ, List.set_cons_zero, List.set_cons_succ, Option.some.injEq, Dv.d.injEq, Dv.r.injEq, PyData.tuple.injEq, PyData.list.injEq, PyData.str.injEq, PyData.int.injEq, exists_eq_left', Option.map_some, Nat.zero_add, Nat.reduceAdd, Nat.reduceSub, true_and, and_true, exists_and_left, at0, at1, at2, at3, at4, eqv_int, shaped_int, eqv_pr, shaped_pr, bes, intsD, in4, flat4, flatI, Bool.not_eq_true', decide_eq_false_iff_not, not_true_eq_false, if_true, if_false, Bool.not_true, Bool.not_false, Bool.false_eq_true, Bool.true_eq_false, Bool.or_eq_false_iff,  shaped_tn, shaped_hd, shaped_r, decide_eq_true_eq, sizeLine_eq, Nat.reduceLeDiff, Int.reduceToNat, Int.reducePow, Int.reduceMul, Int.reduceAdd, Int.reduceSub, Int.reduceNeg, Int.reduceMod, setM_same, MO.lst.injEq, setM_setM, ix0, ix1, ix2, ix3, ix4, dPick, keyOf, dSlT, dTupRng, gAppend, dAppend, g2B, dM1, eqv_tn, eqv_tnl, shaped_l, dSlM, g1N, dIsi, tyD, gListD, gListM, gTupleM, sPar, dgPair, isT_it, isT_is, isT_ib, isT_ii, isT_tt, gInS, sTry, xCall, xSeq, xIf, xThen, xRaise, dIsE, dNum, dRep1, gAddT, isT_ss, isT_st, isT_ts, dgAny, djNil, djStr, djFmt, gShow, gRmp, gSplit, gJoin, gIntS, gMulS, dAllG, dRev, gListD, gSplitM, gJoinM, gNotInS, gStrI, gMulN, dIns, daAddRep, gEqX, gAddM, gAddT, sTry, sOr, dAlt, xAlt, xRaiseB, sTryP, xCall, xRaise, xIf, xSeq, xThen, dIsX, dMadeP, dMadeN, dStrX, dNum, dCountL, dIndexL, gSFind, dRep1, gListM, cx_K, nox_K, sCont]
    refine ⟨a, _, o, c, rfl, by decide, hm, hd, by omega, fun v0 o1 l0 u0 d1 => ?_⟩
    try simp only [sSeq, sAsg, sRet, sIf, sDrop, sNext, sNever, dOp, dUn, dVar, dC, dTest, isBool, dAnd, dOr, dNot, dAndV, dOrV, dNotV, dIf, dCons, dNil, dTup, dLst, dLstM, datas, dCall, dCB, gI0, gI, gB0, g1I, gAdd, gEqD, gNeD, gIx, gIn, g1A, g2A, gInt, gLen, gTuple, gSum, gBest, dSl, dNoPart, dPart, dgName, dgTup, dgCons, dgNil, dgSub, gSetI, dIndexT, dChain, startD, List.map_cons, List.map_nil, List.length_cons, List.length_nil, List.replicate, List.append, List.cons_append, List.nil_append, List.getElem?_cons_zero, List.getElem?_cons_succ, List.set_cons_zero, List.set_cons_succ, Option.some.injEq, Dv.d.injEq, Dv.r.injEq, PyData.tuple.injEq, PyData.list.injEq, PyData.str.injEq, PyData.int.injEq, exists_eq_left', Option.map_some, Nat.zero_add, Nat.reduceAdd, Nat.reduceSub, true_and, and_true, exists_and_left, at0, at1, at2, at3, at4, eqv_int, shaped_int, eqv_pr, shaped_pr, bes, intsD, in4, flat4, flatI, Bool.not_eq_true', decide_eq_false_iff_not, not_true_eq_false, if_true, if_false, Bool.not_true, Bool.not_false, Bool.false_eq_true, Bool.true_eq_false, Bool.or_eq_false_iff,  shaped_tn, shaped_hd, shaped_r, decide_eq_true_eq, sizeLine_eq, Nat.reduceLeDiff, Int.reduceToNat, Int.reducePow, Int.reduceMul, Int.reduceAdd, Int.reduceSub, Int.reduceNeg, Int.reduceMod, setM_same, MO.lst.injEq, setM_setM, ix0, ix1, ix2, ix3, ix4, dPick, keyOf, dSlT, dTupRng, gAppend, dAppend, g2B, dM1, eqv_tn, eqv_tnl, shaped_l, dSlM, g1N, dIsi, tyD, gListD, gListM, gTupleM, sPar, dgPair, isT_it, isT_is, isT_ib, isT_ii, isT_tt, gInS, sTry, xCall, xSeq, xIf, xThen, xRaise, dIsE, dNum, dRep1, gAddT, isT_ss, isT_st, isT_ts, dgAny, djNil, djStr, djFmt, gShow, gRmp, gSplit, gJoin, gIntS, gMulS, dAllG, dRev, gListD, gSplitM, gJoinM, gNotInS, gStrI, gMulN, dIns, daAddRep, gEqX, gAddM, gAddT, sTry, sOr, dAlt, xAlt, xRaiseB, sTryP, xCall, xRaise, xIf, xSeq, xThen, dIsX, dMadeP, dMadeN, dStrX, dNum, dCountL, dIndexL, gSFind, dRep1, gListM, cx_K, nox_K, sCont]
    refine ⟨1 + v0, rfl, by omega, ?_⟩
    have hn : (1 + v0).toNat ≤ 3 := by omega
    refine forB_its (fun i δ m' => ∃ (v2 v3 v4 v5 v6 v7 v8 v9 v10 : Option Dv) (z1 : Str) (o' : MO), δ = [some (.r a), some (.d (.str z1)), v2, v3, v4, v5, v6, v7, v8, v9, v10] ∧ m' a = some o' ∧ DeckIs o' (c + 1 + 9 * i) ∧ (z1.length + 8 ≤ 108 * 2 ^ i ∧ Cp z1) ∧ ∀ b u, m b = some u → b ≠ a → m' b = some u) ⟨_, _, _, _, _, _, _, _, _, z0, o1, rfl, setM_same, d1, ⟨by omega, hz.2⟩, fun b u h hb => by rw [setM_ne hb]; exact h⟩ ?_ ?_
    · rintro i dd δ m' hi' ⟨v2, v3, v4, v5, v6, v7, v8, v9, v10, z1, o', rfl, ma, d', ⟨hl1, hC1⟩, fr⟩
      have hi2 : i < 3 := by have := (List.getElem?_eq_some_iff.mp hi').1; rw [List.length_map, List.length_range] at this; omega
      have hp2 : (2 : Nat) ^ i ≤ 4 := by
        rcases (show i = 0 ∨ i = 1 ∨ i = 2 by omega) with rfl | rfl | rfl <;> decide
      have hz1 : z1.length ≤ 424 := by omega
      try simp only [sSeq, sAsg, sRet, sIf, sDrop, sNext, sNever, dOp, dUn, dVar, dC, dTest, isBool, dAnd, dOr, dNot, dAndV, dOrV, dNotV, dIf, dCons, dNil, dTup, dLst, dLstM, datas, dCall, dCB, gI0, gI, gB0, g1I, gAdd, gEqD, gNeD, gIx, gIn, g1A, g2A, gInt, gLen, gTuple, gSum, gBest, dSl, dNoPart, dPart, dgName, dgTup, dgCons, dgNil, dgSub, gSetI, dIndexT, dChain, startD, List.map_cons, List.map_nil, List.length_cons, List.length_nil, List.replicate, List.append, List.cons_append, List.nil_append, List.getElem?_cons_zero, List.getElem?_cons_succ, List.set_cons_zero, List.set_cons_succ, Option.some.injEq, Dv.d.injEq, Dv.r.injEq, PyData.tuple.injEq, PyData.list.injEq, PyData.str.injEq, PyData.int.injEq, exists_eq_left', Option.map_some, Nat.zero_add, Nat.reduceAdd, Nat.reduceSub, true_and, and_true, exists_and_left, at0, at1, at2, at3, at4, eqv_int, shaped_int, eqv_pr, shaped_pr, bes, intsD, in4, flat4, flatI, Bool.not_eq_true', decide_eq_false_iff_not, not_true_eq_false, if_true, if_false, Bool.not_true, Bool.not_false, Bool.false_eq_true, Bool.true_eq_false, Bool.or_eq_false_iff,  shaped_tn, shaped_hd, shaped_r, decide_eq_true_eq, sizeLine_eq, Nat.reduceLeDiff, Int.reduceToNat, Int.reducePow, Int.reduceMul, Int.reduceAdd, Int.reduceSub, Int.reduceNeg, Int.reduceMod, setM_same, MO.lst.injEq, setM_setM, ix0, ix1, ix2, ix3, ix4, dPick, keyOf, dSlT, dTupRng, gAppend, dAppend, g2B, dM1, eqv_tn, eqv_tnl, shaped_l, dSlM, g1N, dIsi, tyD, gListD, gListM, gTupleM, sPar, dgPair, isT_it, isT_is, isT_ib, isT_ii, isT_tt, gInS, sTry, xCall, xSeq, xIf, xThen, xRaise, dIsE, dNum, dRep1, gAddT, isT_ss, isT_st, isT_ts, dgAny, djNil, djStr, djFmt, gShow, gRmp, gSplit, gJoin, gIntS, gMulS, dAllG, dRev, gListD, gSplitM, gJoinM, gNotInS, gStrI, gMulN, dIns, daAddRep, gEqX, gAddM, gAddT, sTry, sOr, dAlt, xAlt, xRaiseB, sTryP, xCall, xRaise, xIf, xSeq, xThen, dIsX, dMadeP, dMadeN, dStrX, dNum, dCountL, dIndexL, gSFind, dRep1, gListM, cx_K, nox_K, sCont]
      refine ⟨by omega, a, _, o', _, rfl, by omega, ma, d', by omega, fun v1 o2 l1 u1 d2 => ?_⟩
      try simp only [sSeq, sAsg, sRet, sIf, sDrop, sNext, sNever, dOp, dUn, dVar, dC, dTest, isBool, dAnd, dOr, dNot, dAndV, dOrV, dNotV, dIf, dCons, dNil, dTup, dLst, dLstM, datas, dCall, dCB, gI0, gI, gB0, g1I, gAdd, gEqD, gNeD, gIx, gIn, g1A, g2A, gInt, gLen, gTuple, gSum, gBest, dSl, dNoPart, dPart, dgName, dgTup, dgCons, dgNil, dgSub, gSetI, dIndexT, dChain, startD, List.map_cons, List.map_nil, List.length_cons, List.length_nil, List.replicate, List.append, List.cons_append, List.nil_append, List.getElem?_cons_zero, List.getElem?_cons_succ, List.set_cons_zero, List.set_cons_succ, Option.some.injEq, Dv.d.injEq, Dv.r.injEq, PyData.tuple.injEq, PyData.list.injEq, PyData.str.injEq, PyData.int.injEq, exists_eq_left', Option.map_some, Nat.zero_add, Nat.reduceAdd, Nat.reduceSub, true_and, and_true, exists_and_left, at0, at1, at2, at3, at4, eqv_int, shaped_int, eqv_pr, shaped_pr, bes, intsD, in4, flat4, flatI, Bool.not_eq_true', decide_eq_false_iff_not, not_true_eq_false, if_true, if_false, Bool.not_true, Bool.not_false, Bool.false_eq_true, Bool.true_eq_false, Bool.or_eq_false_iff,  shaped_tn, shaped_hd, shaped_r, decide_eq_true_eq, sizeLine_eq, Nat.reduceLeDiff, Int.reduceToNat, Int.reducePow, Int.reduceMul, Int.reduceAdd, Int.reduceSub, Int.reduceNeg, Int.reduceMod, setM_same, MO.lst.injEq, setM_setM, ix0, ix1, ix2, ix3, ix4, dPick, keyOf, dSlT, dTupRng, gAppend, dAppend, g2B, dM1, eqv_tn, eqv_tnl, shaped_l, dSlM, g1N, dIsi, tyD, gListD, gListM, gTupleM, sPar, dgPair, isT_it, isT_is, isT_ib, isT_ii, isT_tt, gInS, sTry, xCall, xSeq, xIf, xThen, xRaise, dIsE, dNum, dRep1, gAddT, isT_ss, isT_st, isT_ts, dgAny, djNil, djStr, djFmt, gShow, gRmp, gSplit, gJoin, gIntS, gMulS, dAllG, dRev, gListD, gSplitM, gJoinM, gNotInS, gStrI, gMulN, dIns, daAddRep, gEqX, gAddM, gAddT, sTry, sOr, dAlt, xAlt, xRaiseB, sTryP, xCall, xRaise, xIf, xSeq, xThen, dIsX, dMadeP, dMadeN, dStrX, dNum, dCountL, dIndexL, gSFind, dRep1, gListM, cx_K, nox_K, sCont]
      refine ⟨by omega, ?_⟩
      try simp only [sSeq, sAsg, sRet, sIf, sDrop, sNext, sNever, dOp, dUn, dVar, dC, dTest, isBool, dAnd, dOr, dNot, dAndV, dOrV, dNotV, dIf, dCons, dNil, dTup, dLst, dLstM, datas, dCall, dCB, gI0, gI, gB0, g1I, gAdd, gEqD, gNeD, gIx, gIn, g1A, g2A, gInt, gLen, gTuple, gSum, gBest, dSl, dNoPart, dPart, dgName, dgTup, dgCons, dgNil, dgSub, gSetI, dIndexT, dChain, startD, List.map_cons, List.map_nil, List.length_cons, List.length_nil, List.replicate, List.append, List.cons_append, List.nil_append, List.getElem?_cons_zero, List.getElem?_cons_succ, List.set_cons_zero, List.set_cons_succ, Option.some.injEq, Dv.d.injEq, Dv.r.injEq, PyData.tuple.injEq, PyData.list.injEq, PyData.str.injEq, PyData.int.injEq, exists_eq_left', Option.map_some, Nat.zero_add, Nat.reduceAdd, Nat.reduceSub, true_and, and_true, exists_and_left, at0, at1, at2, at3, at4, eqv_int, shaped_int, eqv_pr, shaped_pr, bes, intsD, in4, flat4, flatI, Bool.not_eq_true', decide_eq_false_iff_not, not_true_eq_false, if_true, if_false, Bool.not_true, Bool.not_false, Bool.false_eq_true, Bool.true_eq_false, Bool.or_eq_false_iff,  shaped_tn, shaped_hd, shaped_r, decide_eq_true_eq, sizeLine_eq, Nat.reduceLeDiff, Int.reduceToNat, Int.reducePow, Int.reduceMul, Int.reduceAdd, Int.reduceSub, Int.reduceNeg, Int.reduceMod, setM_same, MO.lst.injEq, setM_setM, ix0, ix1, ix2, ix3, ix4, dPick, keyOf, dSlT, dTupRng, gAppend, dAppend, g2B, dM1, eqv_tn, eqv_tnl, shaped_l, dSlM, g1N, dIsi, tyD, gListD, gListM, gTupleM, sPar, dgPair, isT_it, isT_is, isT_ib, isT_ii, isT_tt, gInS, sTry, xCall, xSeq, xIf, xThen, xRaise, dIsE, dNum, dRep1, gAddT, isT_ss, isT_st, isT_ts, dgAny, djNil, djStr, djFmt, gShow, gRmp, gSplit, gJoin, gIntS, gMulS, dAllG, dRev, gListD, gSplitM, gJoinM, gNotInS, gStrI, gMulN, dIns, daAddRep, gEqX, gAddM, gAddT, sTry, sOr, dAlt, xAlt, xRaiseB, sTryP, xCall, xRaise, xIf, xSeq, xThen, dIsX, dMadeP, dMadeN, dStrX, dNum, dCountL, dIndexL, gSFind, dRep1, gListM, cx_K, nox_K, sCont]
      refine ⟨a, _, _, _, rfl, by decide, setM_same, d2, by omega, fun w1 o3 l2 u2 d3 => ?_⟩
      obtain ⟨pt, ea, hat⟩ : ∃ pt : Int, atI [PyData.int v1, PyData.int (maxI 0 ((z1.length : Int) - 1)), PyData.int 0] w1 = some (.int pt) ∧ 0 ≤ pt := by
        rcases (show w1 = 0 ∨ w1 = 1 ∨ w1 = 2 by omega) with rfl | rfl | rfl
        · exact ⟨_, rfl, l1⟩
        · exact ⟨_, rfl, by unfold maxI; split <;> omega⟩
        · exact ⟨_, rfl, by decide⟩
      try simp only [sSeq, sAsg, sRet, sIf, sDrop, sNext, sNever, dOp, dUn, dVar, dC, dTest, isBool, dAnd, dOr, dNot, dAndV, dOrV, dNotV, dIf, dCons, dNil, dTup, dLst, dLstM, datas, dCall, dCB, gI0, gI, gB0, g1I, gAdd, gEqD, gNeD, gIx, gIn, g1A, g2A, gInt, gLen, gTuple, gSum, gBest, dSl, dNoPart, dPart, dgName, dgTup, dgCons, dgNil, dgSub, gSetI, dIndexT, dChain, startD, List.map_cons, List.map_nil, List.length_cons, List.length_nil, List.replicate, List.append, List.cons_append, List.nil_append, List.getElem?_cons_zero, List.getElem?_cons_succ, List.set_cons_zero, List.set_cons_succ, Option.some.injEq, Dv.d.injEq, Dv.r.injEq, PyData.tuple.injEq, PyData.list.injEq, PyData.str.injEq, PyData.int.injEq, exists_eq_left', Option.map_some, Nat.zero_add, Nat.reduceAdd, Nat.reduceSub, true_and, and_true, exists_and_left, at0, at1, at2, at3, at4, eqv_int, shaped_int, eqv_pr, shaped_pr, bes, intsD, in4, flat4, flatI, Bool.not_eq_true', decide_eq_false_iff_not, not_true_eq_false, if_true, if_false, Bool.not_true, Bool.not_false, Bool.false_eq_true, Bool.true_eq_false, Bool.or_eq_false_iff,  shaped_tn, shaped_hd, shaped_r, decide_eq_true_eq, sizeLine_eq, Nat.reduceLeDiff, Int.reduceToNat, Int.reducePow, Int.reduceMul, Int.reduceAdd, Int.reduceSub, Int.reduceNeg, Int.reduceMod, setM_same, MO.lst.injEq, setM_setM, ix0, ix1, ix2, ix3, ix4, dPick, keyOf, dSlT, dTupRng, gAppend, dAppend, g2B, dM1, eqv_tn, eqv_tnl, shaped_l, dSlM, g1N, dIsi, tyD, gListD, gListM, gTupleM, sPar, dgPair, isT_it, isT_is, isT_ib, isT_ii, isT_tt, gInS, sTry, xCall, xSeq, xIf, xThen, xRaise, dIsE, dNum, dRep1, gAddT, isT_ss, isT_st, isT_ts, dgAny, djNil, djStr, djFmt, gShow, gRmp, gSplit, gJoin, gIntS, gMulS, dAllG, dRev, gListD, gSplitM, gJoinM, gNotInS, gStrI, gMulN, dIns, daAddRep, gEqX, gAddM, gAddT, sTry, sOr, dAlt, xAlt, xRaiseB, sTryP, xCall, xRaise, xIf, xSeq, xThen, dIsX, dMadeP, dMadeN, dStrX, dNum, dCountL, dIndexL, gSFind, dRep1, gListM, cx_K, nox_K, sCont]
      refine ⟨_, ea, ?_⟩
      try simp only [sSeq, sAsg, sRet, sIf, sDrop, sNext, sNever, dOp, dUn, dVar, dC, dTest, isBool, dAnd, dOr, dNot, dAndV, dOrV, dNotV, dIf, dCons, dNil, dTup, dLst, dLstM, datas, dCall, dCB, gI0, gI, gB0, g1I, gAdd, gEqD, gNeD, gIx, gIn, g1A, g2A, gInt, gLen, gTuple, gSum, gBest, dSl, dNoPart, dPart, dgName, dgTup, dgCons, dgNil, dgSub, gSetI, dIndexT, dChain, startD, List.map_cons, List.map_nil, List.length_cons, List.length_nil, List.replicate, List.append, List.cons_append, List.nil_append, List.getElem?_cons_zero, List.getElem?_cons_succ, List.set_cons_zero, List.set_cons_succ, Option.some.injEq, Dv.d.injEq, Dv.r.injEq, PyData.tuple.injEq, PyData.list.injEq, PyData.str.injEq, PyData.int.injEq, exists_eq_left', Option.map_some, Nat.zero_add, Nat.reduceAdd, Nat.reduceSub, true_and, and_true, exists_and_left, at0, at1, at2, at3, at4, eqv_int, shaped_int, eqv_pr, shaped_pr, bes, intsD, in4, flat4, flatI, Bool.not_eq_true', decide_eq_false_iff_not, not_true_eq_false, if_true, if_false, Bool.not_true, Bool.not_false, Bool.false_eq_true, Bool.true_eq_false, Bool.or_eq_false_iff,  shaped_tn, shaped_hd, shaped_r, decide_eq_true_eq, sizeLine_eq, Nat.reduceLeDiff, Int.reduceToNat, Int.reducePow, Int.reduceMul, Int.reduceAdd, Int.reduceSub, Int.reduceNeg, Int.reduceMod, setM_same, MO.lst.injEq, setM_setM, ix0, ix1, ix2, ix3, ix4, dPick, keyOf, dSlT, dTupRng, gAppend, dAppend, g2B, dM1, eqv_tn, eqv_tnl, shaped_l, dSlM, g1N, dIsi, tyD, gListD, gListM, gTupleM, sPar, dgPair, isT_it, isT_is, isT_ib, isT_ii, isT_tt, gInS, sTry, xCall, xSeq, xIf, xThen, xRaise, dIsE, dNum, dRep1, gAddT, isT_ss, isT_st, isT_ts, dgAny, djNil, djStr, djFmt, gShow, gRmp, gSplit, gJoin, gIntS, gMulS, dAllG, dRev, gListD, gSplitM, gJoinM, gNotInS, gStrI, gMulN, dIns, daAddRep, gEqX, gAddM, gAddT, sTry, sOr, dAlt, xAlt, xRaiseB, sTryP, xCall, xRaise, xIf, xSeq, xThen, dIsX, dMadeP, dMadeN, dStrX, dNum, dCountL, dIndexL, gSFind, dRep1, gListM, cx_K, nox_K, sCont]
      refine ⟨a, _, _, _, rfl, by decide, setM_same, d3, by omega, fun way o4 l3 u3 d4 => ?_⟩
      try simp only [sSeq, sAsg, sRet, sIf, sDrop, sNext, sNever, dOp, dUn, dVar, dC, dTest, isBool, dAnd, dOr, dNot, dAndV, dOrV, dNotV, dIf, dCons, dNil, dTup, dLst, dLstM, datas, dCall, dCB, gI0, gI, gB0, g1I, gAdd, gEqD, gNeD, gIx, gIn, g1A, g2A, gInt, gLen, gTuple, gSum, gBest, dSl, dNoPart, dPart, dgName, dgTup, dgCons, dgNil, dgSub, gSetI, dIndexT, dChain, startD, List.map_cons, List.map_nil, List.length_cons, List.length_nil, List.replicate, List.append, List.cons_append, List.nil_append, List.getElem?_cons_zero, List.getElem?_cons_succ, List.set_cons_zero, List.set_cons_succ, Option.some.injEq, Dv.d.injEq, Dv.r.injEq, PyData.tuple.injEq, PyData.list.injEq, PyData.str.injEq, PyData.int.injEq, exists_eq_left', Option.map_some, Nat.zero_add, Nat.reduceAdd, Nat.reduceSub, true_and, and_true, exists_and_left, at0, at1, at2, at3, at4, eqv_int, shaped_int, eqv_pr, shaped_pr, bes, intsD, in4, flat4, flatI, Bool.not_eq_true', decide_eq_false_iff_not, not_true_eq_false, if_true, if_false, Bool.not_true, Bool.not_false, Bool.false_eq_true, Bool.true_eq_false, Bool.or_eq_false_iff,  shaped_tn, shaped_hd, shaped_r, decide_eq_true_eq, sizeLine_eq, Nat.reduceLeDiff, Int.reduceToNat, Int.reducePow, Int.reduceMul, Int.reduceAdd, Int.reduceSub, Int.reduceNeg, Int.reduceMod, setM_same, MO.lst.injEq, setM_setM, ix0, ix1, ix2, ix3, ix4, dPick, keyOf, dSlT, dTupRng, gAppend, dAppend, g2B, dM1, eqv_tn, eqv_tnl, shaped_l, dSlM, g1N, dIsi, tyD, gListD, gListM, gTupleM, sPar, dgPair, isT_it, isT_is, isT_ib, isT_ii, isT_tt, gInS, sTry, xCall, xSeq, xIf, xThen, xRaise, dIsE, dNum, dRep1, gAddT, isT_ss, isT_st, isT_ts, dgAny, djNil, djStr, djFmt, gShow, gRmp, gSplit, gJoin, gIntS, gMulS, dAllG, dRev, gListD, gSplitM, gJoinM, gNotInS, gStrI, gMulN, dIns, daAddRep, gEqX, gAddM, gAddT, sTry, sOr, dAlt, xAlt, xRaiseB, sTryP, xCall, xRaise, xIf, xSeq, xThen, dIsX, dMadeP, dMadeN, dStrX, dNum, dCountL, dIndexL, gSFind, dRep1, gListM, cx_K, nox_K, sCont]
      refine ⟨a, _, _, rfl, setM_same, d4, by omega, fun k o5 hk d5 => ?_⟩
      try simp only [sSeq, sAsg, sRet, sIf, sDrop, sNext, sNever, dOp, dUn, dVar, dC, dTest, isBool, dAnd, dOr, dNot, dAndV, dOrV, dNotV, dIf, dCons, dNil, dTup, dLst, dLstM, datas, dCall, dCB, gI0, gI, gB0, g1I, gAdd, gEqD, gNeD, gIx, gIn, g1A, g2A, gInt, gLen, gTuple, gSum, gBest, dSl, dNoPart, dPart, dgName, dgTup, dgCons, dgNil, dgSub, gSetI, dIndexT, dChain, startD, List.map_cons, List.map_nil, List.length_cons, List.length_nil, List.replicate, List.append, List.cons_append, List.nil_append, List.getElem?_cons_zero, List.getElem?_cons_succ, List.set_cons_zero, List.set_cons_succ, Option.some.injEq, Dv.d.injEq, Dv.r.injEq, PyData.tuple.injEq, PyData.list.injEq, PyData.str.injEq, PyData.int.injEq, exists_eq_left', Option.map_some, Nat.zero_add, Nat.reduceAdd, Nat.reduceSub, true_and, and_true, exists_and_left, at0, at1, at2, at3, at4, eqv_int, shaped_int, eqv_pr, shaped_pr, bes, intsD, in4, flat4, flatI, Bool.not_eq_true', decide_eq_false_iff_not, not_true_eq_false, if_true, if_false, Bool.not_true, Bool.not_false, Bool.false_eq_true, Bool.true_eq_false, Bool.or_eq_false_iff,  shaped_tn, shaped_hd, shaped_r, decide_eq_true_eq, sizeLine_eq, Nat.reduceLeDiff, Int.reduceToNat, Int.reducePow, Int.reduceMul, Int.reduceAdd, Int.reduceSub, Int.reduceNeg, Int.reduceMod, setM_same, MO.lst.injEq, setM_setM, ix0, ix1, ix2, ix3, ix4, dPick, keyOf, dSlT, dTupRng, gAppend, dAppend, g2B, dM1, eqv_tn, eqv_tnl, shaped_l, dSlM, g1N, dIsi, tyD, gListD, gListM, gTupleM, sPar, dgPair, isT_it, isT_is, isT_ib, isT_ii, isT_tt, gInS, sTry, xCall, xSeq, xIf, xThen, xRaise, dIsE, dNum, dRep1, gAddT, isT_ss, isT_st, isT_ts, dgAny, djNil, djStr, djFmt, gShow, gRmp, gSplit, gJoin, gIntS, gMulS, dAllG, dRev, gListD, gSplitM, gJoinM, gNotInS, gStrI, gMulN, dIns, daAddRep, gEqX, gAddM, gAddT, sTry, sOr, dAlt, xAlt, xRaiseB, sTryP, xCall, xRaise, xIf, xSeq, xThen, dIsX, dMadeP, dMadeN, dStrX, dNum, dCountL, dIndexL, gSFind, dRep1, gListM, cx_K, nox_K, sCont]
      refine ⟨⟨_, rfl⟩, by decide +kernel, by omega, fun p hp => ?_⟩
      try simp only [setM_setM] at hp
      obtain ⟨hw1, hw2⟩ := split_wl z1
      have hwc := split_cp hC1
      generalize Txt.split z1 (Str.ofString " ") = ws at hw1 hw2 hwc ⊢
      have pa : p ≠ a := fun e => by rw [e, setM_same] at hp; cases hp
      have hpm : m' p = none := by rw [setM_ne pa] at hp; exact hp
      refine ⟨a, _, o5, _, rfl, by rw [List.length_map]; omega, by rw [setM_ne (Ne.symm pa)]; exact setM_same, d5, by omega, fun one o6 l4 u4 d6 => ?_⟩
      try simp only [sSeq, sAsg, sRet, sIf, sDrop, sNext, sNever, dOp, dUn, dVar, dC, dTest, isBool, dAnd, dOr, dNot, dAndV, dOrV, dNotV, dIf, dCons, dNil, dTup, dLst, dLstM, datas, dCall, dCB, gI0, gI, gB0, g1I, gAdd, gEqD, gNeD, gIx, gIn, g1A, g2A, gInt, gLen, gTuple, gSum, gBest, dSl, dNoPart, dPart, dgName, dgTup, dgCons, dgNil, dgSub, gSetI, dIndexT, dChain, startD, List.map_cons, List.map_nil, List.length_cons, List.length_nil, List.replicate, List.append, List.cons_append, List.nil_append, List.getElem?_cons_zero, List.getElem?_cons_succ, List.set_cons_zero, List.set_cons_succ, Option.some.injEq, Dv.d.injEq, Dv.r.injEq, PyData.tuple.injEq, PyData.list.injEq, PyData.str.injEq, PyData.int.injEq, exists_eq_left', Option.map_some, Nat.zero_add, Nat.reduceAdd, Nat.reduceSub, true_and, and_true, exists_and_left, at0, at1, at2, at3, at4, eqv_int, shaped_int, eqv_pr, shaped_pr, bes, intsD, in4, flat4, flatI, Bool.not_eq_true', decide_eq_false_iff_not, not_true_eq_false, if_true, if_false, Bool.not_true, Bool.not_false, Bool.false_eq_true, Bool.true_eq_false, Bool.or_eq_false_iff,  shaped_tn, shaped_hd, shaped_r, decide_eq_true_eq, sizeLine_eq, Nat.reduceLeDiff, Int.reduceToNat, Int.reducePow, Int.reduceMul, Int.reduceAdd, Int.reduceSub, Int.reduceNeg, Int.reduceMod, setM_same, MO.lst.injEq, setM_setM, ix0, ix1, ix2, ix3, ix4, dPick, keyOf, dSlT, dTupRng, gAppend, dAppend, g2B, dM1, eqv_tn, eqv_tnl, shaped_l, dSlM, g1N, dIsi, tyD, gListD, gListM, gTupleM, sPar, dgPair, isT_it, isT_is, isT_ib, isT_ii, isT_tt, gInS, sTry, xCall, xSeq, xIf, xThen, xRaise, dIsE, dNum, dRep1, gAddT, isT_ss, isT_st, isT_ts, dgAny, djNil, djStr, djFmt, gShow, gRmp, gSplit, gJoin, gIntS, gMulS, dAllG, dRev, gListD, gSplitM, gJoinM, gNotInS, gStrI, gMulN, dIns, daAddRep, gEqX, gAddM, gAddT, sTry, sOr, dAlt, xAlt, xRaiseB, sTryP, xCall, xRaise, xIf, xSeq, xThen, dIsX, dMadeP, dMadeN, dStrX, dNum, dCountL, dIndexL, gSFind, dRep1, gListM, cx_K, nox_K, sCont]
      refine ⟨_, by rw [setM_ne pa]; exact setM_same, ?_⟩
      refine ⟨a, _, o6, _, rfl, by rw [List.length_map]; omega, setM_same, d6, by omega, fun other o7 l5 u5 d7 => ?_⟩
      try simp only [sSeq, sAsg, sRet, sIf, sDrop, sNext, sNever, dOp, dUn, dVar, dC, dTest, isBool, dAnd, dOr, dNot, dAndV, dOrV, dNotV, dIf, dCons, dNil, dTup, dLst, dLstM, datas, dCall, dCB, gI0, gI, gB0, g1I, gAdd, gEqD, gNeD, gIx, gIn, g1A, g2A, gInt, gLen, gTuple, gSum, gBest, dSl, dNoPart, dPart, dgName, dgTup, dgCons, dgNil, dgSub, gSetI, dIndexT, dChain, startD, List.map_cons, List.map_nil, List.length_cons, List.length_nil, List.replicate, List.append, List.cons_append, List.nil_append, List.getElem?_cons_zero, List.getElem?_cons_succ, List.set_cons_zero, List.set_cons_succ, Option.some.injEq, Dv.d.injEq, Dv.r.injEq, PyData.tuple.injEq, PyData.list.injEq, PyData.str.injEq, PyData.int.injEq, exists_eq_left', Option.map_some, Nat.zero_add, Nat.reduceAdd, Nat.reduceSub, true_and, and_true, exists_and_left, at0, at1, at2, at3, at4, eqv_int, shaped_int, eqv_pr, shaped_pr, bes, intsD, in4, flat4, flatI, Bool.not_eq_true', decide_eq_false_iff_not, not_true_eq_false, if_true, if_false, Bool.not_true, Bool.not_false, Bool.false_eq_true, Bool.true_eq_false, Bool.or_eq_false_iff,  shaped_tn, shaped_hd, shaped_r, decide_eq_true_eq, sizeLine_eq, Nat.reduceLeDiff, Int.reduceToNat, Int.reducePow, Int.reduceMul, Int.reduceAdd, Int.reduceSub, Int.reduceNeg, Int.reduceMod, setM_same, MO.lst.injEq, setM_setM, ix0, ix1, ix2, ix3, ix4, dPick, keyOf, dSlT, dTupRng, gAppend, dAppend, g2B, dM1, eqv_tn, eqv_tnl, shaped_l, dSlM, g1N, dIsi, tyD, gListD, gListM, gTupleM, sPar, dgPair, isT_it, isT_is, isT_ib, isT_ii, isT_tt, gInS, sTry, xCall, xSeq, xIf, xThen, xRaise, dIsE, dNum, dRep1, gAddT, isT_ss, isT_st, isT_ts, dgAny, djNil, djStr, djFmt, gShow, gRmp, gSplit, gJoin, gIntS, gMulS, dAllG, dRev, gListD, gSplitM, gJoinM, gNotInS, gStrI, gMulN, dIns, daAddRep, gEqX, gAddM, gAddT, sTry, sOr, dAlt, xAlt, xRaiseB, sTryP, xCall, xRaise, xIf, xSeq, xThen, dIsX, dMadeP, dMadeN, dStrX, dNum, dCountL, dIndexL, gSFind, dRep1, gListM, cx_K, nox_K, sCont]
      refine ⟨a, _, o7, _, rfl, by decide, setM_same, d7, by omega, fun wd o8 l6 u6 d8 => ?_⟩
      rw [List.length_map] at u4 u5
      try simp only [sSeq, sAsg, sRet, sIf, sDrop, sNext, sNever, dOp, dUn, dVar, dC, dTest, isBool, dAnd, dOr, dNot, dAndV, dOrV, dNotV, dIf, dCons, dNil, dTup, dLst, dLstM, datas, dCall, dCB, gI0, gI, gB0, g1I, gAdd, gEqD, gNeD, gIx, gIn, g1A, g2A, gInt, gLen, gTuple, gSum, gBest, dSl, dNoPart, dPart, dgName, dgTup, dgCons, dgNil, dgSub, gSetI, dIndexT, dChain, startD, List.map_cons, List.map_nil, List.length_cons, List.length_nil, List.replicate, List.append, List.cons_append, List.nil_append, List.getElem?_cons_zero, List.getElem?_cons_succ, List.set_cons_zero, List.set_cons_succ, Option.some.injEq, Dv.d.injEq, Dv.r.injEq, PyData.tuple.injEq, PyData.list.injEq, PyData.str.injEq, PyData.int.injEq, exists_eq_left', Option.map_some, Nat.zero_add, Nat.reduceAdd, Nat.reduceSub, true_and, and_true, exists_and_left, at0, at1, at2, at3, at4, eqv_int, shaped_int, eqv_pr, shaped_pr, bes, intsD, in4, flat4, flatI, Bool.not_eq_true', decide_eq_false_iff_not, not_true_eq_false, if_true, if_false, Bool.not_true, Bool.not_false, Bool.false_eq_true, Bool.true_eq_false, Bool.or_eq_false_iff,  shaped_tn, shaped_hd, shaped_r, decide_eq_true_eq, sizeLine_eq, Nat.reduceLeDiff, Int.reduceToNat, Int.reducePow, Int.reduceMul, Int.reduceAdd, Int.reduceSub, Int.reduceNeg, Int.reduceMod, setM_same, MO.lst.injEq, setM_setM, ix0, ix1, ix2, ix3, ix4, dPick, keyOf, dSlT, dTupRng, gAppend, dAppend, g2B, dM1, eqv_tn, eqv_tnl, shaped_l, dSlM, g1N, dIsi, tyD, gListD, gListM, gTupleM, sPar, dgPair, isT_it, isT_is, isT_ib, isT_ii, isT_tt, gInS, sTry, xCall, xSeq, xIf, xThen, xRaise, dIsE, dNum, dRep1, gAddT, isT_ss, isT_st, isT_ts, dgAny, djNil, djStr, djFmt, gShow, gRmp, gSplit, gJoin, gIntS, gMulS, dAllG, dRev, gListD, gSplitM, gJoinM, gNotInS, gStrI, gMulN, dIns, daAddRep, gEqX, gAddM, gAddT, sTry, sOr, dAlt, xAlt, xRaiseB, sTryP, xCall, xRaise, xIf, xSeq, xThen, dIsX, dMadeP, dMadeN, dStrX, dNum, dCountL, dIndexL, gSFind, dRep1, gListM, cx_K, nox_K, sCont]
      have hM1 : ∀ M0 : M, setM (setM (setM m' a o5) p (.lst (ws.map fun y => .d (.str y)))) a o8 = M0 → M0 a = some o8 ∧ M0 p = some (.lst (ws.map fun y => .d (.str y))) ∧ ∀ b u, m b = some u → b ≠ a → M0 b = some u := fun M0 e => by
        subst e
        refine ⟨setM_same, by rw [setM_ne pa]; exact setM_same, fun b u h hb => ?_⟩
        rw [setM_ne hb, setM_ne (fun z => by have := fr b u h hb; rw [z, hpm] at this; cases this), setM_ne hb]
        exact fr b u h hb
      generalize hMe : setM (setM (setM m' a o5) p (.lst (ws.map fun y => .d (.str y)))) a o8 = M0 at *
      obtain ⟨Ma, Mp, Mf⟩ := hM1 M0 rfl
      clear hM1 hMe hp
      obtain ⟨word, ew, hwl, hwC⟩ := wds_at l6 (by omega)
      try simp only [sSeq, sAsg, sRet, sIf, sDrop, sNext, sNever, dOp, dUn, dVar, dC, dTest, isBool, dAnd, dOr, dNot, dAndV, dOrV, dNotV, dIf, dCons, dNil, dTup, dLst, dLstM, datas, dCall, dCB, gI0, gI, gB0, g1I, gAdd, gEqD, gNeD, gIx, gIn, g1A, g2A, gInt, gLen, gTuple, gSum, gBest, dSl, dNoPart, dPart, dgName, dgTup, dgCons, dgNil, dgSub, gSetI, dIndexT, dChain, startD, List.map_cons, List.map_nil, List.length_cons, List.length_nil, List.replicate, List.append, List.cons_append, List.nil_append, List.getElem?_cons_zero, List.getElem?_cons_succ, List.set_cons_zero, List.set_cons_succ, Option.some.injEq, Dv.d.injEq, Dv.r.injEq, PyData.tuple.injEq, PyData.list.injEq, PyData.str.injEq, PyData.int.injEq, exists_eq_left', Option.map_some, Nat.zero_add, Nat.reduceAdd, Nat.reduceSub, true_and, and_true, exists_and_left, at0, at1, at2, at3, at4, eqv_int, shaped_int, eqv_pr, shaped_pr, bes, intsD, in4, flat4, flatI, Bool.not_eq_true', decide_eq_false_iff_not, not_true_eq_false, if_true, if_false, Bool.not_true, Bool.not_false, Bool.false_eq_true, Bool.true_eq_false, Bool.or_eq_false_iff,  shaped_tn, shaped_hd, shaped_r, decide_eq_true_eq, sizeLine_eq, Nat.reduceLeDiff, Int.reduceToNat, Int.reducePow, Int.reduceMul, Int.reduceAdd, Int.reduceSub, Int.reduceNeg, Int.reduceMod, setM_same, MO.lst.injEq, setM_setM, ix0, ix1, ix2, ix3, ix4, dPick, keyOf, dSlT, dTupRng, gAppend, dAppend, g2B, dM1, eqv_tn, eqv_tnl, shaped_l, dSlM, g1N, dIsi, tyD, gListD, gListM, gTupleM, sPar, dgPair, isT_it, isT_is, isT_ib, isT_ii, isT_tt, gInS, sTry, xCall, xSeq, xIf, xThen, xRaise, dIsE, dNum, dRep1, gAddT, isT_ss, isT_st, isT_ts, dgAny, djNil, djStr, djFmt, gShow, gRmp, gSplit, gJoin, gIntS, gMulS, dAllG, dRev, gListD, gSplitM, gJoinM, gNotInS, gStrI, gMulN, dIns, daAddRep, gEqX, gAddM, gAddT, sTry, sOr, dAlt, xAlt, xRaiseB, sTryP, xCall, xRaise, xIf, xSeq, xThen, dIsX, dMadeP, dMadeN, dStrX, dNum, dCountL, dIndexL, gSFind, dRep1, gListM, cx_K, nox_K, sCont]
      refine ⟨_, ew, ?_⟩
      try simp only [sSeq, sAsg, sRet, sIf, sDrop, sNext, sNever, dOp, dUn, dVar, dC, dTest, isBool, dAnd, dOr, dNot, dAndV, dOrV, dNotV, dIf, dCons, dNil, dTup, dLst, dLstM, datas, dCall, dCB, gI0, gI, gB0, g1I, gAdd, gEqD, gNeD, gIx, gIn, g1A, g2A, gInt, gLen, gTuple, gSum, gBest, dSl, dNoPart, dPart, dgName, dgTup, dgCons, dgNil, dgSub, gSetI, dIndexT, dChain, startD, List.map_cons, List.map_nil, List.length_cons, List.length_nil, List.replicate, List.append, List.cons_append, List.nil_append, List.getElem?_cons_zero, List.getElem?_cons_succ, List.set_cons_zero, List.set_cons_succ, Option.some.injEq, Dv.d.injEq, Dv.r.injEq, PyData.tuple.injEq, PyData.list.injEq, PyData.str.injEq, PyData.int.injEq, exists_eq_left', Option.map_some, Nat.zero_add, Nat.reduceAdd, Nat.reduceSub, true_and, and_true, exists_and_left, at0, at1, at2, at3, at4, eqv_int, shaped_int, eqv_pr, shaped_pr, bes, intsD, in4, flat4, flatI, Bool.not_eq_true', decide_eq_false_iff_not, not_true_eq_false, if_true, if_false, Bool.not_true, Bool.not_false, Bool.false_eq_true, Bool.true_eq_false, Bool.or_eq_false_iff,  shaped_tn, shaped_hd, shaped_r, decide_eq_true_eq, sizeLine_eq, Nat.reduceLeDiff, Int.reduceToNat, Int.reducePow, Int.reduceMul, Int.reduceAdd, Int.reduceSub, Int.reduceNeg, Int.reduceMod, setM_same, MO.lst.injEq, setM_setM, ix0, ix1, ix2, ix3, ix4, dPick, keyOf, dSlT, dTupRng, gAppend, dAppend, g2B, dM1, eqv_tn, eqv_tnl, shaped_l, dSlM, g1N, dIsi, tyD, gListD, gListM, gTupleM, sPar, dgPair, isT_it, isT_is, isT_ib, isT_ii, isT_tt, gInS, sTry, xCall, xSeq, xIf, xThen, xRaise, dIsE, dNum, dRep1, gAddT, isT_ss, isT_st, isT_ts, dgAny, djNil, djStr, djFmt, gShow, gRmp, gSplit, gJoin, gIntS, gMulS, dAllG, dRev, gListD, gSplitM, gJoinM, gNotInS, gStrI, gMulN, dIns, daAddRep, gEqX, gAddM, gAddT, sTry, sOr, dAlt, xAlt, xRaiseB, sTryP, xCall, xRaise, xIf, xSeq, xThen, dIsX, dMadeP, dMadeN, dStrX, dNum, dCountL, dIndexL, gSFind, dRep1, gListM, cx_K, nox_K, sCont]
      have sgC := one_cp hk
      have sgL : (⟨#[k]⟩ : Str).length = 1 := rfl
      have lA := cutS_len z1 none (some pt)
      have lB := cutS_len z1 (some pt) none
      have lC := cutS_len z1 (some (pt + 1)) none
      have hp3 : (2 : Nat) ^ (i + 1) = 2 * 2 ^ i := by rw [Nat.pow_succ, Nat.mul_comm]
      rw [hp3]
      have e1 : (Str.ofString " ").length = 1 := by decide +kernel
      obtain ⟨x1, hx1⟩ : ∃ x1, ws[one.toNat]? = some x1 := ⟨_, List.getElem?_eq_getElem (by omega)⟩
      obtain ⟨x2, hx2⟩ : ∃ x2, ws[other.toNat]? = some x2 := ⟨_, List.getElem?_eq_getElem (by omega)⟩
      have Mf' : ∀ L b u, m b = some u → b ≠ a → setM M0 p L b = some u := fun L b u h hb => by
        rw [setM_ne (fun z => by have := fr b u h hb; rw [z, hpm] at this; cases this)]
        exact Mf b u h hb
      have Ma' : ∀ L, setM M0 p L a = some o8 := fun L => by rw [setM_ne (Ne.symm pa)]; exact Ma
      rcases (show way = 0 ∨ way = 1 ∨ way = 2 ∨ way = 3 ∨ way = 4 ∨ way = 5 by omega) with rfl | rfl | rfl | rfl | rfl | rfl
      · rw [if_pos (by decide)]
        try simp only [sSeq, sAsg, sRet, sIf, sDrop, sNext, sNever, dOp, dUn, dVar, dC, dTest, isBool, dAnd, dOr, dNot, dAndV, dOrV, dNotV, dIf, dCons, dNil, dTup, dLst, dLstM, datas, dCall, dCB, gI0, gI, gB0, g1I, gAdd, gEqD, gNeD, gIx, gIn, g1A, g2A, gInt, gLen, gTuple, gSum, gBest, dSl, dNoPart, dPart, dgName, dgTup, dgCons, dgNil, dgSub, gSetI, dIndexT, dChain, startD, List.map_cons, List.map_nil, List.length_cons, List.length_nil, List.replicate, List.append, List.cons_append, List.nil_append, List.getElem?_cons_zero, List.getElem?_cons_succ, List.set_cons_zero, List.set_cons_succ, Option.some.injEq, Dv.d.injEq, Dv.r.injEq, PyData.tuple.injEq, PyData.list.injEq, PyData.str.injEq, PyData.int.injEq, exists_eq_left', Option.map_some, Nat.zero_add, Nat.reduceAdd, Nat.reduceSub, true_and, and_true, exists_and_left, at0, at1, at2, at3, at4, eqv_int, shaped_int, eqv_pr, shaped_pr, bes, intsD, in4, flat4, flatI, Bool.not_eq_true', decide_eq_false_iff_not, not_true_eq_false, if_true, if_false, Bool.not_true, Bool.not_false, Bool.false_eq_true, Bool.true_eq_false, Bool.or_eq_false_iff,  shaped_tn, shaped_hd, shaped_r, decide_eq_true_eq, sizeLine_eq, Nat.reduceLeDiff, Int.reduceToNat, Int.reducePow, Int.reduceMul, Int.reduceAdd, Int.reduceSub, Int.reduceNeg, Int.reduceMod, setM_same, MO.lst.injEq, setM_setM, ix0, ix1, ix2, ix3, ix4, dPick, keyOf, dSlT, dTupRng, gAppend, dAppend, g2B, dM1, eqv_tn, eqv_tnl, shaped_l, dSlM, g1N, dIsi, tyD, gListD, gListM, gTupleM, sPar, dgPair, isT_it, isT_is, isT_ib, isT_ii, isT_tt, gInS, sTry, xCall, xSeq, xIf, xThen, xRaise, dIsE, dNum, dRep1, gAddT, isT_ss, isT_st, isT_ts, dgAny, djNil, djStr, djFmt, gShow, gRmp, gSplit, gJoin, gIntS, gMulS, dAllG, dRev, gListD, gSplitM, gJoinM, gNotInS, gStrI, gMulN, dIns, daAddRep, gEqX, gAddM, gAddT, sTry, sOr, dAlt, xAlt, xRaiseB, sTryP, xCall, xRaise, xIf, xSeq, xThen, dIsX, dMadeP, dMadeN, dStrX, dNum, dCountL, dIndexL, gSFind, dRep1, gListM, cx_K, nox_K, sCont]
        simp only [PySem.strLen_append, sgL]
        refine ⟨by omega, by omega, by omega, by omega, by omega, by omega, by omega, by omega, by omega, by omega, by omega, ?_⟩
        try refine ⟨_, at0, ?_⟩
        rw [if_neg (by decide)]
        exact ⟨_, _, _, _, _, _, _, _, _, _, rfl, d8.mono (by omega), ⟨by simp only [PySem.strLen_append, sgL]; omega, app_cp (app_cp (cutS_cp hC1 _ _) sgC) (cutS_cp hC1 _ _)⟩, Mf⟩
      · rw [if_pos (by decide)]
        try simp only [sSeq, sAsg, sRet, sIf, sDrop, sNext, sNever, dOp, dUn, dVar, dC, dTest, isBool, dAnd, dOr, dNot, dAndV, dOrV, dNotV, dIf, dCons, dNil, dTup, dLst, dLstM, datas, dCall, dCB, gI0, gI, gB0, g1I, gAdd, gEqD, gNeD, gIx, gIn, g1A, g2A, gInt, gLen, gTuple, gSum, gBest, dSl, dNoPart, dPart, dgName, dgTup, dgCons, dgNil, dgSub, gSetI, dIndexT, dChain, startD, List.map_cons, List.map_nil, List.length_cons, List.length_nil, List.replicate, List.append, List.cons_append, List.nil_append, List.getElem?_cons_zero, List.getElem?_cons_succ, List.set_cons_zero, List.set_cons_succ, Option.some.injEq, Dv.d.injEq, Dv.r.injEq, PyData.tuple.injEq, PyData.list.injEq, PyData.str.injEq, PyData.int.injEq, exists_eq_left', Option.map_some, Nat.zero_add, Nat.reduceAdd, Nat.reduceSub, true_and, and_true, exists_and_left, at0, at1, at2, at3, at4, eqv_int, shaped_int, eqv_pr, shaped_pr, bes, intsD, in4, flat4, flatI, Bool.not_eq_true', decide_eq_false_iff_not, not_true_eq_false, if_true, if_false, Bool.not_true, Bool.not_false, Bool.false_eq_true, Bool.true_eq_false, Bool.or_eq_false_iff,  shaped_tn, shaped_hd, shaped_r, decide_eq_true_eq, sizeLine_eq, Nat.reduceLeDiff, Int.reduceToNat, Int.reducePow, Int.reduceMul, Int.reduceAdd, Int.reduceSub, Int.reduceNeg, Int.reduceMod, setM_same, MO.lst.injEq, setM_setM, ix0, ix1, ix2, ix3, ix4, dPick, keyOf, dSlT, dTupRng, gAppend, dAppend, g2B, dM1, eqv_tn, eqv_tnl, shaped_l, dSlM, g1N, dIsi, tyD, gListD, gListM, gTupleM, sPar, dgPair, isT_it, isT_is, isT_ib, isT_ii, isT_tt, gInS, sTry, xCall, xSeq, xIf, xThen, xRaise, dIsE, dNum, dRep1, gAddT, isT_ss, isT_st, isT_ts, dgAny, djNil, djStr, djFmt, gShow, gRmp, gSplit, gJoin, gIntS, gMulS, dAllG, dRev, gListD, gSplitM, gJoinM, gNotInS, gStrI, gMulN, dIns, daAddRep, gEqX, gAddM, gAddT, sTry, sOr, dAlt, xAlt, xRaiseB, sTryP, xCall, xRaise, xIf, xSeq, xThen, dIsX, dMadeP, dMadeN, dStrX, dNum, dCountL, dIndexL, gSFind, dRep1, gListM, cx_K, nox_K, sCont]
        simp only [PySem.strLen_append, sgL]
        refine ⟨by omega, by omega, by omega, by omega, by omega, by omega, by omega, by omega, by omega, by omega, by omega, ?_⟩
        try refine ⟨_, at1, ?_⟩
        rw [if_neg (by decide)]
        exact ⟨_, _, _, _, _, _, _, _, _, _, rfl, d8.mono (by omega), ⟨by simp only [PySem.strLen_append, sgL]; omega, app_cp (app_cp (cutS_cp hC1 _ _) sgC) (cutS_cp hC1 _ _)⟩, Mf⟩
      · rw [if_pos (by decide)]
        try simp only [sSeq, sAsg, sRet, sIf, sDrop, sNext, sNever, dOp, dUn, dVar, dC, dTest, isBool, dAnd, dOr, dNot, dAndV, dOrV, dNotV, dIf, dCons, dNil, dTup, dLst, dLstM, datas, dCall, dCB, gI0, gI, gB0, g1I, gAdd, gEqD, gNeD, gIx, gIn, g1A, g2A, gInt, gLen, gTuple, gSum, gBest, dSl, dNoPart, dPart, dgName, dgTup, dgCons, dgNil, dgSub, gSetI, dIndexT, dChain, startD, List.map_cons, List.map_nil, List.length_cons, List.length_nil, List.replicate, List.append, List.cons_append, List.nil_append, List.getElem?_cons_zero, List.getElem?_cons_succ, List.set_cons_zero, List.set_cons_succ, Option.some.injEq, Dv.d.injEq, Dv.r.injEq, PyData.tuple.injEq, PyData.list.injEq, PyData.str.injEq, PyData.int.injEq, exists_eq_left', Option.map_some, Nat.zero_add, Nat.reduceAdd, Nat.reduceSub, true_and, and_true, exists_and_left, at0, at1, at2, at3, at4, eqv_int, shaped_int, eqv_pr, shaped_pr, bes, intsD, in4, flat4, flatI, Bool.not_eq_true', decide_eq_false_iff_not, not_true_eq_false, if_true, if_false, Bool.not_true, Bool.not_false, Bool.false_eq_true, Bool.true_eq_false, Bool.or_eq_false_iff,  shaped_tn, shaped_hd, shaped_r, decide_eq_true_eq, sizeLine_eq, Nat.reduceLeDiff, Int.reduceToNat, Int.reducePow, Int.reduceMul, Int.reduceAdd, Int.reduceSub, Int.reduceNeg, Int.reduceMod, setM_same, MO.lst.injEq, setM_setM, ix0, ix1, ix2, ix3, ix4, dPick, keyOf, dSlT, dTupRng, gAppend, dAppend, g2B, dM1, eqv_tn, eqv_tnl, shaped_l, dSlM, g1N, dIsi, tyD, gListD, gListM, gTupleM, sPar, dgPair, isT_it, isT_is, isT_ib, isT_ii, isT_tt, gInS, sTry, xCall, xSeq, xIf, xThen, xRaise, dIsE, dNum, dRep1, gAddT, isT_ss, isT_st, isT_ts, dgAny, djNil, djStr, djFmt, gShow, gRmp, gSplit, gJoin, gIntS, gMulS, dAllG, dRev, gListD, gSplitM, gJoinM, gNotInS, gStrI, gMulN, dIns, daAddRep, gEqX, gAddM, gAddT, sTry, sOr, dAlt, xAlt, xRaiseB, sTryP, xCall, xRaise, xIf, xSeq, xThen, dIsX, dMadeP, dMadeN, dStrX, dNum, dCountL, dIndexL, gSFind, dRep1, gListM, cx_K, nox_K, sCont]
        simp only [PySem.strLen_append, sgL]
        refine ⟨by omega, by omega, by omega, by omega, by omega, by omega, by omega, by omega, by omega, by omega, by omega, ?_⟩
        try refine ⟨_, at2, ?_⟩
        rw [if_neg (by decide)]
        exact ⟨_, _, _, _, _, _, _, _, _, _, rfl, d8.mono (by omega), ⟨by simp only [PySem.strLen_append, sgL]; omega, app_cp (cutS_cp hC1 _ _) (cutS_cp hC1 _ _)⟩, Mf⟩
      · rw [if_neg (by decide), if_pos (by decide)]
        try simp only [sSeq, sAsg, sRet, sIf, sDrop, sNext, sNever, dOp, dUn, dVar, dC, dTest, isBool, dAnd, dOr, dNot, dAndV, dOrV, dNotV, dIf, dCons, dNil, dTup, dLst, dLstM, datas, dCall, dCB, gI0, gI, gB0, g1I, gAdd, gEqD, gNeD, gIx, gIn, g1A, g2A, gInt, gLen, gTuple, gSum, gBest, dSl, dNoPart, dPart, dgName, dgTup, dgCons, dgNil, dgSub, gSetI, dIndexT, dChain, startD, List.map_cons, List.map_nil, List.length_cons, List.length_nil, List.replicate, List.append, List.cons_append, List.nil_append, List.getElem?_cons_zero, List.getElem?_cons_succ, List.set_cons_zero, List.set_cons_succ, Option.some.injEq, Dv.d.injEq, Dv.r.injEq, PyData.tuple.injEq, PyData.list.injEq, PyData.str.injEq, PyData.int.injEq, exists_eq_left', Option.map_some, Nat.zero_add, Nat.reduceAdd, Nat.reduceSub, true_and, and_true, exists_and_left, at0, at1, at2, at3, at4, eqv_int, shaped_int, eqv_pr, shaped_pr, bes, intsD, in4, flat4, flatI, Bool.not_eq_true', decide_eq_false_iff_not, not_true_eq_false, if_true, if_false, Bool.not_true, Bool.not_false, Bool.false_eq_true, Bool.true_eq_false, Bool.or_eq_false_iff,  shaped_tn, shaped_hd, shaped_r, decide_eq_true_eq, sizeLine_eq, Nat.reduceLeDiff, Int.reduceToNat, Int.reducePow, Int.reduceMul, Int.reduceAdd, Int.reduceSub, Int.reduceNeg, Int.reduceMod, setM_same, MO.lst.injEq, setM_setM, ix0, ix1, ix2, ix3, ix4, dPick, keyOf, dSlT, dTupRng, gAppend, dAppend, g2B, dM1, eqv_tn, eqv_tnl, shaped_l, dSlM, g1N, dIsi, tyD, gListD, gListM, gTupleM, sPar, dgPair, isT_it, isT_is, isT_ib, isT_ii, isT_tt, gInS, sTry, xCall, xSeq, xIf, xThen, xRaise, dIsE, dNum, dRep1, gAddT, isT_ss, isT_st, isT_ts, dgAny, djNil, djStr, djFmt, gShow, gRmp, gSplit, gJoin, gIntS, gMulS, dAllG, dRev, gListD, gSplitM, gJoinM, gNotInS, gStrI, gMulN, dIns, daAddRep, gEqX, gAddM, gAddT, sTry, sOr, dAlt, xAlt, xRaiseB, sTryP, xCall, xRaise, xIf, xSeq, xThen, dIsX, dMadeP, dMadeN, dStrX, dNum, dCountL, dIndexL, gSFind, dRep1, gListM, cx_K, nox_K, sCont]
        have hs := wl_set ws one.toNat x1 word hx1
        have hj := join_len (ws.set one.toNat word)
        rw [List.length_set] at hj
        refine ⟨_, Mp, one.toNat, ixN_nat l4 (by rw [List.length_map]; exact u4), ?_⟩
        rw [if_pos (by decide), map_setS]
        refine ⟨⟨_, rfl⟩, ws.set one.toNat word, ⟨_, rfl, setM_same⟩, ?_, ?_⟩
        · show wl _ + _ ≤ _
          rw [List.length_set, e1]; omega
        · exact ⟨_, _, _, _, _, _, _, _, _, _, rfl, o8, Ma' _, d8.mono (by omega), ⟨by rw [hj]; omega, join_cp (set_cp hwc hwC _)⟩, Mf' _⟩
      · rw [if_neg (by decide), if_neg (by decide), if_pos (by decide)]
        try simp only [sSeq, sAsg, sRet, sIf, sDrop, sNext, sNever, dOp, dUn, dVar, dC, dTest, isBool, dAnd, dOr, dNot, dAndV, dOrV, dNotV, dIf, dCons, dNil, dTup, dLst, dLstM, datas, dCall, dCB, gI0, gI, gB0, g1I, gAdd, gEqD, gNeD, gIx, gIn, g1A, g2A, gInt, gLen, gTuple, gSum, gBest, dSl, dNoPart, dPart, dgName, dgTup, dgCons, dgNil, dgSub, gSetI, dIndexT, dChain, startD, List.map_cons, List.map_nil, List.length_cons, List.length_nil, List.replicate, List.append, List.cons_append, List.nil_append, List.getElem?_cons_zero, List.getElem?_cons_succ, List.set_cons_zero, List.set_cons_succ, Option.some.injEq, Dv.d.injEq, Dv.r.injEq, PyData.tuple.injEq, PyData.list.injEq, PyData.str.injEq, PyData.int.injEq, exists_eq_left', Option.map_some, Nat.zero_add, Nat.reduceAdd, Nat.reduceSub, true_and, and_true, exists_and_left, at0, at1, at2, at3, at4, eqv_int, shaped_int, eqv_pr, shaped_pr, bes, intsD, in4, flat4, flatI, Bool.not_eq_true', decide_eq_false_iff_not, not_true_eq_false, if_true, if_false, Bool.not_true, Bool.not_false, Bool.false_eq_true, Bool.true_eq_false, Bool.or_eq_false_iff,  shaped_tn, shaped_hd, shaped_r, decide_eq_true_eq, sizeLine_eq, Nat.reduceLeDiff, Int.reduceToNat, Int.reducePow, Int.reduceMul, Int.reduceAdd, Int.reduceSub, Int.reduceNeg, Int.reduceMod, setM_same, MO.lst.injEq, setM_setM, ix0, ix1, ix2, ix3, ix4, dPick, keyOf, dSlT, dTupRng, gAppend, dAppend, g2B, dM1, eqv_tn, eqv_tnl, shaped_l, dSlM, g1N, dIsi, tyD, gListD, gListM, gTupleM, sPar, dgPair, isT_it, isT_is, isT_ib, isT_ii, isT_tt, gInS, sTry, xCall, xSeq, xIf, xThen, xRaise, dIsE, dNum, dRep1, gAddT, isT_ss, isT_st, isT_ts, dgAny, djNil, djStr, djFmt, gShow, gRmp, gSplit, gJoin, gIntS, gMulS, dAllG, dRev, gListD, gSplitM, gJoinM, gNotInS, gStrI, gMulN, dIns, daAddRep, gEqX, gAddM, gAddT, sTry, sOr, dAlt, xAlt, xRaiseB, sTryP, xCall, xRaise, xIf, xSeq, xThen, dIsX, dMadeP, dMadeN, dStrX, dNum, dCountL, dIndexL, gSFind, dRep1, gListM, cx_K, nox_K, sCont]
        have hs := wl_ins ws one.toNat word
        have hj := join_len (ws.take one.toNat ++ word :: ws.drop one.toNat)
        have hln : (ws.take one.toNat ++ word :: ws.drop one.toNat).length = ws.length + 1 := by
          rw [List.length_append, List.length_cons, List.length_take, List.length_drop]; omega
        rw [hln] at hj
        refine ⟨⟨_, Mp⟩, _, one.toNat, _, by rw [Int.toNat_of_nonneg l4], Mp, by rw [List.length_map]; omega, by rw [List.length_map]; omega, ?_⟩
        rw [if_pos (by decide), map_insS]
        refine ⟨⟨_, rfl⟩, ws.take one.toNat ++ word :: ws.drop one.toNat, ⟨_, rfl, setM_same⟩, ?_, ?_⟩
        · show wl _ + _ ≤ _
          rw [hln, e1]; omega
        · exact ⟨_, _, _, _, _, _, _, _, _, _, rfl, o8, Ma' _, d8.mono (by omega), ⟨by rw [hj]; omega, join_cp (ins_cp hwc hwC _)⟩, Mf' _⟩
      · rw [if_neg (by decide), if_neg (by decide), if_neg (by decide)]
        try simp only [sSeq, sAsg, sRet, sIf, sDrop, sNext, sNever, dOp, dUn, dVar, dC, dTest, isBool, dAnd, dOr, dNot, dAndV, dOrV, dNotV, dIf, dCons, dNil, dTup, dLst, dLstM, datas, dCall, dCB, gI0, gI, gB0, g1I, gAdd, gEqD, gNeD, gIx, gIn, g1A, g2A, gInt, gLen, gTuple, gSum, gBest, dSl, dNoPart, dPart, dgName, dgTup, dgCons, dgNil, dgSub, gSetI, dIndexT, dChain, startD, List.map_cons, List.map_nil, List.length_cons, List.length_nil, List.replicate, List.append, List.cons_append, List.nil_append, List.getElem?_cons_zero, List.getElem?_cons_succ, List.set_cons_zero, List.set_cons_succ, Option.some.injEq, Dv.d.injEq, Dv.r.injEq, PyData.tuple.injEq, PyData.list.injEq, PyData.str.injEq, PyData.int.injEq, exists_eq_left', Option.map_some, Nat.zero_add, Nat.reduceAdd, Nat.reduceSub, true_and, and_true, exists_and_left, at0, at1, at2, at3, at4, eqv_int, shaped_int, eqv_pr, shaped_pr, bes, intsD, in4, flat4, flatI, Bool.not_eq_true', decide_eq_false_iff_not, not_true_eq_false, if_true, if_false, Bool.not_true, Bool.not_false, Bool.false_eq_true, Bool.true_eq_false, Bool.or_eq_false_iff,  shaped_tn, shaped_hd, shaped_r, decide_eq_true_eq, sizeLine_eq, Nat.reduceLeDiff, Int.reduceToNat, Int.reducePow, Int.reduceMul, Int.reduceAdd, Int.reduceSub, Int.reduceNeg, Int.reduceMod, setM_same, MO.lst.injEq, setM_setM, ix0, ix1, ix2, ix3, ix4, dPick, keyOf, dSlT, dTupRng, gAppend, dAppend, g2B, dM1, eqv_tn, eqv_tnl, shaped_l, dSlM, g1N, dIsi, tyD, gListD, gListM, gTupleM, sPar, dgPair, isT_it, isT_is, isT_ib, isT_ii, isT_tt, gInS, sTry, xCall, xSeq, xIf, xThen, xRaise, dIsE, dNum, dRep1, gAddT, isT_ss, isT_st, isT_ts, dgAny, djNil, djStr, djFmt, gShow, gRmp, gSplit, gJoin, gIntS, gMulS, dAllG, dRev, gListD, gSplitM, gJoinM, gNotInS, gStrI, gMulN, dIns, daAddRep, gEqX, gAddM, gAddT, sTry, sOr, dAlt, xAlt, xRaiseB, sTryP, xCall, xRaise, xIf, xSeq, xThen, dIsX, dMadeP, dMadeN, dStrX, dNum, dCountL, dIndexL, gSFind, dRep1, gListM, cx_K, nox_K, sCont]
        refine ⟨_, Mp, _, atI_of (k := other.toNat) (by omega) (by rw [List.getElem?_map, hx2]; rfl), _, Mp, _, atI_of (k := one.toNat) (by omega) (by rw [List.getElem?_map, hx1]; rfl), ?_⟩
        try simp only [sSeq, sAsg, sRet, sIf, sDrop, sNext, sNever, dOp, dUn, dVar, dC, dTest, isBool, dAnd, dOr, dNot, dAndV, dOrV, dNotV, dIf, dCons, dNil, dTup, dLst, dLstM, datas, dCall, dCB, gI0, gI, gB0, g1I, gAdd, gEqD, gNeD, gIx, gIn, g1A, g2A, gInt, gLen, gTuple, gSum, gBest, dSl, dNoPart, dPart, dgName, dgTup, dgCons, dgNil, dgSub, gSetI, dIndexT, dChain, startD, List.map_cons, List.map_nil, List.length_cons, List.length_nil, List.replicate, List.append, List.cons_append, List.nil_append, List.getElem?_cons_zero, List.getElem?_cons_succ, List.set_cons_zero, List.set_cons_succ, Option.some.injEq, Dv.d.injEq, Dv.r.injEq, PyData.tuple.injEq, PyData.list.injEq, PyData.str.injEq, PyData.int.injEq, exists_eq_left', Option.map_some, Nat.zero_add, Nat.reduceAdd, Nat.reduceSub, true_and, and_true, exists_and_left, at0, at1, at2, at3, at4, eqv_int, shaped_int, eqv_pr, shaped_pr, bes, intsD, in4, flat4, flatI, Bool.not_eq_true', decide_eq_false_iff_not, not_true_eq_false, if_true, if_false, Bool.not_true, Bool.not_false, Bool.false_eq_true, Bool.true_eq_false, Bool.or_eq_false_iff,  shaped_tn, shaped_hd, shaped_r, decide_eq_true_eq, sizeLine_eq, Nat.reduceLeDiff, Int.reduceToNat, Int.reducePow, Int.reduceMul, Int.reduceAdd, Int.reduceSub, Int.reduceNeg, Int.reduceMod, setM_same, MO.lst.injEq, setM_setM, ix0, ix1, ix2, ix3, ix4, dPick, keyOf, dSlT, dTupRng, gAppend, dAppend, g2B, dM1, eqv_tn, eqv_tnl, shaped_l, dSlM, g1N, dIsi, tyD, gListD, gListM, gTupleM, sPar, dgPair, isT_it, isT_is, isT_ib, isT_ii, isT_tt, gInS, sTry, xCall, xSeq, xIf, xThen, xRaise, dIsE, dNum, dRep1, gAddT, isT_ss, isT_st, isT_ts, dgAny, djNil, djStr, djFmt, gShow, gRmp, gSplit, gJoin, gIntS, gMulS, dAllG, dRev, gListD, gSplitM, gJoinM, gNotInS, gStrI, gMulN, dIns, daAddRep, gEqX, gAddM, gAddT, sTry, sOr, dAlt, xAlt, xRaiseB, sTryP, xCall, xRaise, xIf, xSeq, xThen, dIsX, dMadeP, dMadeN, dStrX, dNum, dCountL, dIndexL, gSFind, dRep1, gListM, cx_K, nox_K, sCont]
        have hs := wl_swap hx1 hx2
        have hj := join_len ((ws.set one.toNat x2).set other.toNat x1)
        rw [List.length_set, List.length_set] at hj
        refine ⟨_, Mp, one.toNat, ixN_nat l4 (by rw [List.length_map]; exact u4), other.toNat, ixN_nat l5 (by rw [List.length_set, List.length_map]; exact u5), ?_⟩
        rw [if_pos (by decide), map_set2]
        refine ⟨⟨_, rfl⟩, (ws.set one.toNat x2).set other.toNat x1, ⟨_, rfl, setM_same⟩, ?_, ?_⟩
        · show wl _ + _ ≤ _
          rw [List.length_set, List.length_set, e1]; omega
        · exact ⟨_, _, _, _, _, _, _, _, _, _, rfl, o8, Ma' _, d8.mono (by omega), ⟨by rw [hj]; omega, join_cp (set_cp (set_cp hwc (hwc _ (List.mem_of_getElem? hx2)) _) (hwc _ (List.mem_of_getElem? hx1)) _)⟩, Mf' _⟩
    · rintro δ m' ⟨v2, v3, v4, v5, v6, v7, v8, v9, v10, z1, o', rfl, ma, d', ⟨hl1, hC1⟩, fr⟩
      rw [List.length_map, List.length_range] at hl1 d'
      have hp2 : (2 : Nat) ^ (1 + v0).toNat ≤ 8 := by
        rcases (show (1 + v0).toNat = 1 ∨ (1 + v0).toNat = 2 ∨ (1 + v0).toNat = 3 by omega) with h | h | h <;> rw [h] <;> decide
      try simp only [sSeq, sAsg, sRet, sIf, sDrop, sNext, sNever, dOp, dUn, dVar, dC, dTest, isBool, dAnd, dOr, dNot, dAndV, dOrV, dNotV, dIf, dCons, dNil, dTup, dLst, dLstM, datas, dCall, dCB, gI0, gI, gB0, g1I, gAdd, gEqD, gNeD, gIx, gIn, g1A, g2A, gInt, gLen, gTuple, gSum, gBest, dSl, dNoPart, dPart, dgName, dgTup, dgCons, dgNil, dgSub, gSetI, dIndexT, dChain, startD, List.map_cons, List.map_nil, List.length_cons, List.length_nil, List.replicate, List.append, List.cons_append, List.nil_append, List.getElem?_cons_zero, List.getElem?_cons_succ, List.set_cons_zero, List.set_cons_succ, Option.some.injEq, Dv.d.injEq, Dv.r.injEq, PyData.tuple.injEq, PyData.list.injEq, PyData.str.injEq, PyData.int.injEq, exists_eq_left', Option.map_some, Nat.zero_add, Nat.reduceAdd, Nat.reduceSub, true_and, and_true, exists_and_left, at0, at1, at2, at3, at4, eqv_int, shaped_int, eqv_pr, shaped_pr, bes, intsD, in4, flat4, flatI, Bool.not_eq_true', decide_eq_false_iff_not, not_true_eq_false, if_true, if_false, Bool.not_true, Bool.not_false, Bool.false_eq_true, Bool.true_eq_false, Bool.or_eq_false_iff,  shaped_tn, shaped_hd, shaped_r, decide_eq_true_eq, sizeLine_eq, Nat.reduceLeDiff, Int.reduceToNat, Int.reducePow, Int.reduceMul, Int.reduceAdd, Int.reduceSub, Int.reduceNeg, Int.reduceMod, setM_same, MO.lst.injEq, setM_setM, ix0, ix1, ix2, ix3, ix4, dPick, keyOf, dSlT, dTupRng, gAppend, dAppend, g2B, dM1, eqv_tn, eqv_tnl, shaped_l, dSlM, g1N, dIsi, tyD, gListD, gListM, gTupleM, sPar, dgPair, isT_it, isT_is, isT_ib, isT_ii, isT_tt, gInS, sTry, xCall, xSeq, xIf, xThen, xRaise, dIsE, dNum, dRep1, gAddT, isT_ss, isT_st, isT_ts, dgAny, djNil, djStr, djFmt, gShow, gRmp, gSplit, gJoin, gIntS, gMulS, dAllG, dRev, gListD, gSplitM, gJoinM, gNotInS, gStrI, gMulN, dIns, daAddRep, gEqX, gAddM, gAddT, sTry, sOr, dAlt, xAlt, xRaiseB, sTryP, xCall, xRaise, xIf, xSeq, xThen, dIsX, dMadeP, dMadeN, dStrX, dNum, dCountL, dIndexL, gSFind, dRep1, gListM, cx_K, nox_K, sCont]
      refine ⟨setM m a o', fun b u h => ?_, z z1 o' ⟨by omega, hC1⟩ (d'.mono (by omega))⟩
      by_cases hb : b = a
      · subst hb; rw [setM_same] at h; cases h; exact ma
      · rw [setM_ne hb] at h; exact fr b u h hb
theorem sc_is_written_number : FnScope ["text", "figures"] ["text"] (defScope s_is_written_number) := ⟨rfl, rfl, rfl, by decide +kernel, rfl, by decide +kernel, by decide +kernel⟩
theorem ok_is_written_number (T : Tx P w K mg base) : FnOk P w K mg base CX0 1 T.a_is_written_number T.fd_is_written_number ["text"] (spD K (F_is_written_number T.aP)) := by
  refine Fun.okDC T.F_is_written_number sc_is_written_number mo_is_written_number (fun ds m Q h => ?_) (fun cdv hcdv A outer s H E hr => ?_)
  · unfold F_is_written_number at h; obtain ⟨z0, rfl, hP, hz, z⟩ := h; rfl
  · refine ⟨_, (dss_cons (ds_if (dt_eq hr (dv 0) de_str) (dss_one (ds_ret de_bl)) dss_nil)
      (dss_cons (ds_set (i := 1) sc_is_written_number.nd rfl (by first | exact Or.inl rfl | exact Or.inr rfl) (de_rmpre (dv 0) de_str))
      (dss_cons (ds_if (DW.dt (dw_or (dt_eq hr (dv 1) de_str) (dw_or1 (dt_eq hr (de_ix (dv 1) de_int) de_str)))) (dss_one (ds_ret de_bl)) dss_nil)
      (dss_one (ds_ret (de_allG hr T.gk T.bm (hcdv.symm.trans T.gc) (by rfl) T.b_all (dv 1) (elt_inG rfl rfl rfl rfl T.m_FIGURES) rfl rfl (by decide +kernel) rfl rfl rfl (fun _ => rfl))))))), fun ds m Q h => ?_⟩
    obtain ⟨z0, rfl, hP, hz, z⟩ := h
    try simp only [sSeq, sAsg, sRet, sIf, sDrop, sNext, sNever, dOp, dUn, dVar, dC, dTest, isBool, dAnd, dOr, dNot, dAndV, dOrV, dNotV, dIf, dCons, dNil, dTup, dLst, dLstM, datas, dCall, dCB, gI0, gI, gB0, g1I, gAdd, gEqD, gNeD, gIx, gIn, g1A, g2A, gInt, gLen, gTuple, gSum, gBest, dSl, dNoPart, dPart, dgName, dgTup, dgCons, dgNil, dgSub, gSetI, dIndexT, dChain, startD, List.map_cons, List.map_nil, List.length_cons, List.length_nil, List.replicate, List.append, List.cons_append, List.nil_append, List.getElem?_cons_zero, List.getElem?_cons_succ, List.set_cons_zero, List.set_cons_succ, Option.some.injEq, Dv.d.injEq, Dv.r.injEq, PyData.tuple.injEq, PyData.list.injEq, PyData.str.injEq, PyData.int.injEq, exists_eq_left', Option.map_some, Nat.zero_add, Nat.reduceAdd, Nat.reduceSub, true_and, and_true, exists_and_left, at0, at1, at2, at3, at4, eqv_int, shaped_int, eqv_pr, shaped_pr, bes, intsD, in4, flat4, flatI, Bool.not_eq_true', decide_eq_false_iff_not, not_true_eq_false, if_true, if_false, Bool.not_true, Bool.not_false, Bool.false_eq_true, Bool.true_eq_false, Bool.or_eq_false_iff,  shaped_tn, shaped_hd, shaped_r, decide_eq_true_eq, sizeLine_eq, Nat.reduceLeDiff, Int.reduceToNat, Int.reducePow, Int.reduceMul, Int.reduceAdd, Int.reduceSub, Int.reduceNeg, Int.reduceMod, setM_same, MO.lst.injEq, setM_setM, ix0, ix1, ix2, ix3, ix4, dPick, keyOf, dSlT, dTupRng, gAppend, dAppend, g2B, dM1, eqv_tn, eqv_tnl, shaped_l, dSlM, g1N, dIsi, tyD, gListD, gListM, gTupleM, sPar, dgPair, isT_it, isT_is, isT_ib, isT_ii, isT_tt, gInS, sTry, xCall, xSeq, xIf, xThen, xRaise, dIsE, dNum, dRep1, gAddT, isT_ss, isT_st, isT_ts, dgAny, djNil, djStr, djFmt, gShow, gRmp, gSplit, gJoin, gIntS, gMulS, dAllG, dRev, gListD]
    have s0 : ∀ y : String, Cp (Str.ofString y) → SeqAt.shaped (.str (Str.ofString y)) = true := fun y h => shaped_str h
    have sA : SeqAt.shaped (.str (Str.ofString "0")) = true := by decide +kernel
    have sB : SeqAt.shaped (.str (Str.ofString "")) = true := by decide +kernel
    have ev : ∀ a b : Str, PyData.eqv (.str a) (.str b) = (a == b) := fun _ _ => rfl
    refine ⟨shaped_str hz.2, sA, ?_⟩
    rw [ev]
    unfold isW at z
    by_cases c0 : (z0 == Str.ofString "0") = true
    · rw [if_pos c0]
      rw [c0, Bool.true_or] at z
      exact z
    · rw [if_neg c0]
      have c0' : (z0 == Str.ofString "0") = false := by simpa using c0
      rw [c0', Bool.false_or] at z
      have hb := rmp z0
      have hl := PyProof.Rows.len_removeprefix z0 (Str.ofString "-")
      have hg : Cp (Txt.removeprefix z0 (Str.ofString "-")) := fun c hc => hz.2 c (bare_sub z0 c (by rw [← hb]; exact hc))
      generalize Txt.removeprefix z0 (Str.ofString "-") = g at hb hl hg ⊢
      rw [← hb] at z
      have e0 : (Str.ofString "").cps.toList = [] := by decide +kernel
      have e1 : (Str.ofString "0") = ⟨#[48]⟩ := by decide +kernel
      refine ⟨⟨_, rfl⟩, by omega, shaped_str hg, sB, ?_⟩
      rw [ev]
      cases e : g.cps.toList with
      | nil =>
        rw [e] at z
        have eg : g = Str.ofString "" := str_ext (by rw [e, e0])
        rw [if_pos (by rw [eg]; exact beq_self_eq_true _)]
        exact z
      | cons c l =>
        rw [e] at z
        have ng : ¬ (g == Str.ofString "") = true := fun h => by
          have h := eq_of_beq h
          rw [h, e0] at e
          cases e
        rw [if_neg ng]
        refine ⟨by omega, c, at0, shaped_str (fun d hd => by simp at hd; subst hd; exact hg _ (by rw [e]; simp)), sA, ?_⟩
        rw [ev, e1]
        by_cases c1 : c = 48
        · subst c1
          rw [if_pos (beq_self_eq_true _)]
          exact z
        · rw [if_neg (fun h => c1 (by have h := eq_of_beq h; injection h with h; simpa using h))]
          refine ⟨hP, ?_⟩
          have ea : ((c :: l).all fun cc => occ ⟨#[cc]⟩ (Str.ofString "0123456789")) = (c :: l).all isFig := congrArg (c :: l).all (funext occ_fig)
          rw [ea]
          have en : ((c :: l).head? != some 48) = true := by simp [c1]
          rw [en] at z
          simpa using z
theorem sc_read_spiral : FnScope ["text", "words", "start", "heading", "turn"] ["text"] (defScope s_read_spiral) := ⟨rfl, rfl, rfl, by decide +kernel, rfl, by decide +kernel, by decide +kernel⟩
theorem okX_read_spiral (T : Tx P w K mg base) : FnOk P w K mg base (CXE (PlnD T.a_NoSpiral) P w) 2 T.a_read_spiral T.fd_read_spiral ["text"] (spX K (FX_read_spiral T.aP)) := by
  refine Fun.okX T.F_read_spiral sc_read_spiral (fun ds m W h => ?_) (fun cdv A outer s H E hr => ?_)
  · unfold FX_read_spiral at h; obtain ⟨z0, rfl, hz, hP, hr0, z⟩ := h; rfl
  · refine ⟨_, (rss_cons (fun _ _ _ z => z) (ds_set (i := 1) sc_read_spiral.nd rfl (by first | exact Or.inl rfl | exact Or.inr rfl) (de_split (dv 0) de_str)) (rss_alt (rss_here (rs_if (dt_ne hr (de_len (by rfl) T.b_len (da_cons (dv 1) da_nil)) de_int) (rss_here (rs_raiseB rfl T.Pl newE ⟨rfl, rfl, rfl⟩ (by rfl) T.m_NoSpiral (de_fstr (dj_str de_str (dj_fmt (dv 0) dj_nil))))) rss_never)) (rss_cons (fun _ _ _ z => z) (ds_if (dt_ne hr (de_len (by rfl) T.b_len (da_cons (dv 1) da_nil)) de_int) (dss_one ds_never) dss_nil) (rss_cons (fun _ _ _ z => z) (ds_asg (dv 1) (dg_any (n := 3) rfl (dgs_cons (dg_name (i := 2) sc_read_spiral.nd rfl (by first | exact Or.inl rfl | exact Or.inr rfl)) (dgs_cons (dg_name (i := 3) sc_read_spiral.nd rfl (by first | exact Or.inl rfl | exact Or.inr rfl)) (dgs_cons (dg_name (i := 4) sc_read_spiral.nd rfl (by first | exact Or.inl rfl | exact Or.inr rfl)) dgs_nil))))) (rss_here (rs_if (DW.dt (dw_or (dt_not (dt_val (de_call mo_is_written_number ((ok_is_written_number T).mono (by decide : 1 ≤ 1)) hr (by rfl) T.m_is_written_number T.F_is_written_number.kp T.n_is_written_number (da_cons (dv 2) da_nil)))) (dw_or (dt_notin (dv 3) (de_glob (v := .ref T.a_HEADINGS) (by rfl) T.m_HEADINGS rfl T.d_HEADINGS)) (dw_or1 (dt_notin (dv 4) (de_glob (v := .ref T.a_TURNS) (by rfl) T.m_TURNS rfl T.d_TURNS)))))) (rss_here (rs_raiseB rfl T.Pl newE ⟨rfl, rfl, rfl⟩ (by rfl) T.m_NoSpiral (de_fstr (dj_str de_str (dj_fmt (dv 0) dj_nil))))) rss_never)))))), fun ds m W h => ?_⟩
    obtain ⟨z0, rfl, hz, hP, hr0, z⟩ := h
    try simp only [sSeq, sAsg, sRet, sIf, sDrop, sNext, sNever, dOp, dUn, dVar, dC, dTest, isBool, dAnd, dOr, dNot, dAndV, dOrV, dNotV, dIf, dCons, dNil, dTup, dLst, dLstM, datas, dCall, dCB, gI0, gI, gB0, g1I, gAdd, gEqD, gNeD, gIx, gIn, g1A, g2A, gInt, gLen, gTuple, gSum, gBest, dSl, dNoPart, dPart, dgName, dgTup, dgCons, dgNil, dgSub, gSetI, dIndexT, dChain, startD, List.map_cons, List.map_nil, List.length_cons, List.length_nil, List.replicate, List.append, List.cons_append, List.nil_append, List.getElem?_cons_zero, List.getElem?_cons_succ, List.set_cons_zero, List.set_cons_succ, Option.some.injEq, Dv.d.injEq, Dv.r.injEq, PyData.tuple.injEq, PyData.list.injEq, PyData.str.injEq, PyData.int.injEq, exists_eq_left', Option.map_some, Nat.zero_add, Nat.reduceAdd, Nat.reduceSub, true_and, and_true, exists_and_left, at0, at1, at2, at3, at4, eqv_int, shaped_int, eqv_pr, shaped_pr, bes, intsD, in4, flat4, flatI, Bool.not_eq_true', decide_eq_false_iff_not, not_true_eq_false, if_true, if_false, Bool.not_true, Bool.not_false, Bool.false_eq_true, Bool.true_eq_false, Bool.or_eq_false_iff,  shaped_tn, shaped_hd, shaped_r, decide_eq_true_eq, sizeLine_eq, Nat.reduceLeDiff, Int.reduceToNat, Int.reducePow, Int.reduceMul, Int.reduceAdd, Int.reduceSub, Int.reduceNeg, Int.reduceMod, setM_same, MO.lst.injEq, setM_setM, ix0, ix1, ix2, ix3, ix4, dPick, keyOf, dSlT, dTupRng, gAppend, dAppend, g2B, dM1, eqv_tn, eqv_tnl, shaped_l, dSlM, g1N, dIsi, tyD, gListD, gListM, gTupleM, sPar, dgPair, isT_it, isT_is, isT_ib, isT_ii, isT_tt, gInS, sTry, xCall, xSeq, xIf, xThen, xRaise, dIsE, dNum, dRep1, gAddT, isT_ss, isT_st, isT_ts, dgAny, djNil, djStr, djFmt, gShow, gRmp, gSplit, gJoin, gIntS, gMulS, dAllG, dRev, gListD, gSplitM, gJoinM, gNotInS, gStrI, gMulN, dIns, daAddRep, gEqX, gAddM, gAddT, sTry, sOr, dAlt, xAlt, xRaiseB, sTryP, xCall, xRaise, xIf, xSeq, xThen, dIsX, dMadeP, dMadeN, dStrX, dNum, dCountL, dIndexL, gSFind, dRep1, gListM, cx_K, nox_K, sCont]
    have hl := hz.1
    refine ⟨⟨_, rfl⟩, by decide +kernel, by omega, ?_⟩
    have hsw := @split_words z0
    have e0 : Str.empty.length = 0 := rfl
    have e1 : (Str.ofString "no spiral: ").length = 11 := by decide +kernel
    rcases split3 z0 with ⟨a, b, c, hsp⟩ | hne
    · refine .inr ?_
      have hsw := hsw hsp
      have ha := hsw a (by simp)
      have hb := hsw b (by simp)
      have hc' := hsw c (by simp)
      unfold rd at hr0
      rw [hsp] at hr0 ⊢
      simp only at hr0
      try simp only [sSeq, sAsg, sRet, sIf, sDrop, sNext, sNever, dOp, dUn, dVar, dC, dTest, isBool, dAnd, dOr, dNot, dAndV, dOrV, dNotV, dIf, dCons, dNil, dTup, dLst, dLstM, datas, dCall, dCB, gI0, gI, gB0, g1I, gAdd, gEqD, gNeD, gIx, gIn, g1A, g2A, gInt, gLen, gTuple, gSum, gBest, dSl, dNoPart, dPart, dgName, dgTup, dgCons, dgNil, dgSub, gSetI, dIndexT, dChain, startD, List.map_cons, List.map_nil, List.length_cons, List.length_nil, List.replicate, List.append, List.cons_append, List.nil_append, List.getElem?_cons_zero, List.getElem?_cons_succ, List.set_cons_zero, List.set_cons_succ, Option.some.injEq, Dv.d.injEq, Dv.r.injEq, PyData.tuple.injEq, PyData.list.injEq, PyData.str.injEq, PyData.int.injEq, exists_eq_left', Option.map_some, Nat.zero_add, Nat.reduceAdd, Nat.reduceSub, true_and, and_true, exists_and_left, at0, at1, at2, at3, at4, eqv_int, shaped_int, eqv_pr, shaped_pr, bes, intsD, in4, flat4, flatI, Bool.not_eq_true', decide_eq_false_iff_not, not_true_eq_false, if_true, if_false, Bool.not_true, Bool.not_false, Bool.false_eq_true, Bool.true_eq_false, Bool.or_eq_false_iff,  shaped_tn, shaped_hd, shaped_r, decide_eq_true_eq, sizeLine_eq, Nat.reduceLeDiff, Int.reduceToNat, Int.reducePow, Int.reduceMul, Int.reduceAdd, Int.reduceSub, Int.reduceNeg, Int.reduceMod, setM_same, MO.lst.injEq, setM_setM, ix0, ix1, ix2, ix3, ix4, dPick, keyOf, dSlT, dTupRng, gAppend, dAppend, g2B, dM1, eqv_tn, eqv_tnl, shaped_l, dSlM, g1N, dIsi, tyD, gListD, gListM, gTupleM, sPar, dgPair, isT_it, isT_is, isT_ib, isT_ii, isT_tt, gInS, sTry, xCall, xSeq, xIf, xThen, xRaise, dIsE, dNum, dRep1, gAddT, isT_ss, isT_st, isT_ts, dgAny, djNil, djStr, djFmt, gShow, gRmp, gSplit, gJoin, gIntS, gMulS, dAllG, dRev, gListD, gSplitM, gJoinM, gNotInS, gStrI, gMulN, dIns, daAddRep, gEqX, gAddM, gAddT, sTry, sOr, dAlt, xAlt, xRaiseB, sTryP, xCall, xRaise, xIf, xSeq, xThen, dIsX, dMadeP, dMadeN, dStrX, dNum, dCountL, dIndexL, gSFind, dRep1, gListM, cx_K, nox_K, sCont]
      rw [if_neg (by decide)]
      try simp only [sSeq, sAsg, sRet, sIf, sDrop, sNext, sNever, dOp, dUn, dVar, dC, dTest, isBool, dAnd, dOr, dNot, dAndV, dOrV, dNotV, dIf, dCons, dNil, dTup, dLst, dLstM, datas, dCall, dCB, gI0, gI, gB0, g1I, gAdd, gEqD, gNeD, gIx, gIn, g1A, g2A, gInt, gLen, gTuple, gSum, gBest, dSl, dNoPart, dPart, dgName, dgTup, dgCons, dgNil, dgSub, gSetI, dIndexT, dChain, startD, List.map_cons, List.map_nil, List.length_cons, List.length_nil, List.replicate, List.append, List.cons_append, List.nil_append, List.getElem?_cons_zero, List.getElem?_cons_succ, List.set_cons_zero, List.set_cons_succ, Option.some.injEq, Dv.d.injEq, Dv.r.injEq, PyData.tuple.injEq, PyData.list.injEq, PyData.str.injEq, PyData.int.injEq, exists_eq_left', Option.map_some, Nat.zero_add, Nat.reduceAdd, Nat.reduceSub, true_and, and_true, exists_and_left, at0, at1, at2, at3, at4, eqv_int, shaped_int, eqv_pr, shaped_pr, bes, intsD, in4, flat4, flatI, Bool.not_eq_true', decide_eq_false_iff_not, not_true_eq_false, if_true, if_false, Bool.not_true, Bool.not_false, Bool.false_eq_true, Bool.true_eq_false, Bool.or_eq_false_iff,  shaped_tn, shaped_hd, shaped_r, decide_eq_true_eq, sizeLine_eq, Nat.reduceLeDiff, Int.reduceToNat, Int.reducePow, Int.reduceMul, Int.reduceAdd, Int.reduceSub, Int.reduceNeg, Int.reduceMod, setM_same, MO.lst.injEq, setM_setM, ix0, ix1, ix2, ix3, ix4, dPick, keyOf, dSlT, dTupRng, gAppend, dAppend, g2B, dM1, eqv_tn, eqv_tnl, shaped_l, dSlM, g1N, dIsi, tyD, gListD, gListM, gTupleM, sPar, dgPair, isT_it, isT_is, isT_ib, isT_ii, isT_tt, gInS, sTry, xCall, xSeq, xIf, xThen, xRaise, dIsE, dNum, dRep1, gAddT, isT_ss, isT_st, isT_ts, dgAny, djNil, djStr, djFmt, gShow, gRmp, gSplit, gJoin, gIntS, gMulS, dAllG, dRev, gListD, gSplitM, gJoinM, gNotInS, gStrI, gMulN, dIns, daAddRep, gEqX, gAddM, gAddT, sTry, sOr, dAlt, xAlt, xRaiseB, sTryP, xCall, xRaise, xIf, xSeq, xThen, dIsX, dMadeP, dMadeN, dStrX, dNum, dCountL, dIndexL, gSFind, dRep1, gListM, cx_K, nox_K, sCont]
      refine ⟨a, rfl, hP, ⟨by omega, fun d hd => hz.2 d (ha.2 d hd)⟩, ?_⟩
      try simp only [sSeq, sAsg, sRet, sIf, sDrop, sNext, sNever, dOp, dUn, dVar, dC, dTest, isBool, dAnd, dOr, dNot, dAndV, dOrV, dNotV, dIf, dCons, dNil, dTup, dLst, dLstM, datas, dCall, dCB, gI0, gI, gB0, g1I, gAdd, gEqD, gNeD, gIx, gIn, g1A, g2A, gInt, gLen, gTuple, gSum, gBest, dSl, dNoPart, dPart, dgName, dgTup, dgCons, dgNil, dgSub, gSetI, dIndexT, dChain, startD, List.map_cons, List.map_nil, List.length_cons, List.length_nil, List.replicate, List.append, List.cons_append, List.nil_append, List.getElem?_cons_zero, List.getElem?_cons_succ, List.set_cons_zero, List.set_cons_succ, Option.some.injEq, Dv.d.injEq, Dv.r.injEq, PyData.tuple.injEq, PyData.list.injEq, PyData.str.injEq, PyData.int.injEq, exists_eq_left', Option.map_some, Nat.zero_add, Nat.reduceAdd, Nat.reduceSub, true_and, and_true, exists_and_left, at0, at1, at2, at3, at4, eqv_int, shaped_int, eqv_pr, shaped_pr, bes, intsD, in4, flat4, flatI, Bool.not_eq_true', decide_eq_false_iff_not, not_true_eq_false, if_true, if_false, Bool.not_true, Bool.not_false, Bool.false_eq_true, Bool.true_eq_false, Bool.or_eq_false_iff,  shaped_tn, shaped_hd, shaped_r, decide_eq_true_eq, sizeLine_eq, Nat.reduceLeDiff, Int.reduceToNat, Int.reducePow, Int.reduceMul, Int.reduceAdd, Int.reduceSub, Int.reduceNeg, Int.reduceMod, setM_same, MO.lst.injEq, setM_setM, ix0, ix1, ix2, ix3, ix4, dPick, keyOf, dSlT, dTupRng, gAppend, dAppend, g2B, dM1, eqv_tn, eqv_tnl, shaped_l, dSlM, g1N, dIsi, tyD, gListD, gListM, gTupleM, sPar, dgPair, isT_it, isT_is, isT_ib, isT_ii, isT_tt, gInS, sTry, xCall, xSeq, xIf, xThen, xRaise, dIsE, dNum, dRep1, gAddT, isT_ss, isT_st, isT_ts, dgAny, djNil, djStr, djFmt, gShow, gRmp, gSplit, gJoin, gIntS, gMulS, dAllG, dRev, gListD, gSplitM, gJoinM, gNotInS, gStrI, gMulN, dIns, daAddRep, gEqX, gAddM, gAddT, sTry, sOr, dAlt, xAlt, xRaiseB, sTryP, xCall, xRaise, xIf, xSeq, xThen, dIsX, dMadeP, dMadeN, dStrX, dNum, dCountL, dIndexL, gSFind, dRep1, gListM, cx_K, nox_K, sCont]
      have fin : (Str.empty ++ Str.ofString "no spiral: ").length ≤ 16777216 ∧ z0.length ≤ 16777216 ∧ (Str.empty ++ Str.ofString "no spiral: " ++ z0).length ≤ 16777216 ∧ (Str.empty ++ Str.ofString "no spiral: " ++ z0).length ≤ 16777216 ∧ (∃ z, Str.empty ++ Str.ofString "no spiral: " ++ z0 = z) ∧ W Value.none m := by
        simp only [PySem.strLen_append, e0, e1]
        exact ⟨by omega, by omega, by omega, by omega, ⟨_, rfl⟩, z⟩
      by_cases c1 : isW a = true
      · rw [c1]
        try simp only [sSeq, sAsg, sRet, sIf, sDrop, sNext, sNever, dOp, dUn, dVar, dC, dTest, isBool, dAnd, dOr, dNot, dAndV, dOrV, dNotV, dIf, dCons, dNil, dTup, dLst, dLstM, datas, dCall, dCB, gI0, gI, gB0, g1I, gAdd, gEqD, gNeD, gIx, gIn, g1A, g2A, gInt, gLen, gTuple, gSum, gBest, dSl, dNoPart, dPart, dgName, dgTup, dgCons, dgNil, dgSub, gSetI, dIndexT, dChain, startD, List.map_cons, List.map_nil, List.length_cons, List.length_nil, List.replicate, List.append, List.cons_append, List.nil_append, List.getElem?_cons_zero, List.getElem?_cons_succ, List.set_cons_zero, List.set_cons_succ, Option.some.injEq, Dv.d.injEq, Dv.r.injEq, PyData.tuple.injEq, PyData.list.injEq, PyData.str.injEq, PyData.int.injEq, exists_eq_left', Option.map_some, Nat.zero_add, Nat.reduceAdd, Nat.reduceSub, true_and, and_true, exists_and_left, at0, at1, at2, at3, at4, eqv_int, shaped_int, eqv_pr, shaped_pr, bes, intsD, in4, flat4, flatI, Bool.not_eq_true', decide_eq_false_iff_not, not_true_eq_false, if_true, if_false, Bool.not_true, Bool.not_false, Bool.false_eq_true, Bool.true_eq_false, Bool.or_eq_false_iff,  shaped_tn, shaped_hd, shaped_r, decide_eq_true_eq, sizeLine_eq, Nat.reduceLeDiff, Int.reduceToNat, Int.reducePow, Int.reduceMul, Int.reduceAdd, Int.reduceSub, Int.reduceNeg, Int.reduceMod, setM_same, MO.lst.injEq, setM_setM, ix0, ix1, ix2, ix3, ix4, dPick, keyOf, dSlT, dTupRng, gAppend, dAppend, g2B, dM1, eqv_tn, eqv_tnl, shaped_l, dSlM, g1N, dIsi, tyD, gListD, gListM, gTupleM, sPar, dgPair, isT_it, isT_is, isT_ib, isT_ii, isT_tt, gInS, sTry, xCall, xSeq, xIf, xThen, xRaise, dIsE, dNum, dRep1, gAddT, isT_ss, isT_st, isT_ts, dgAny, djNil, djStr, djFmt, gShow, gRmp, gSplit, gJoin, gIntS, gMulS, dAllG, dRev, gListD, gSplitM, gJoinM, gNotInS, gStrI, gMulN, dIns, daAddRep, gEqX, gAddM, gAddT, sTry, sOr, dAlt, xAlt, xRaiseB, sTryP, xCall, xRaise, xIf, xSeq, xThen, dIsX, dMadeP, dMadeN, dStrX, dNum, dCountL, dIndexL, gSFind, dRep1, gListM, cx_K, nox_K, sCont]
        rw [inD_heads b (fun d hd => hz.2 d (hb.2 d hd)), inD_turns c (fun d hd => hz.2 d (hc'.2 d hd))]
        refine ⟨rfl, by decide +kernel, ?_⟩
        by_cases c2 : b ∈ heads
        · rw [if_neg (by simp [c2])]
          refine ⟨rfl, by decide +kernel, ?_⟩
          by_cases c3 : c ∈ turns
          · rw [if_pos ⟨c1, c2, c3⟩] at hr0
            cases hr0
          · rw [if_pos (by simp [c3])]
            exact fin
        · rw [if_pos (by simp [c2])]
          exact fin
      · have c1' : isW a = false := by simpa using c1
        rw [c1']
        try simp only [sSeq, sAsg, sRet, sIf, sDrop, sNext, sNever, dOp, dUn, dVar, dC, dTest, isBool, dAnd, dOr, dNot, dAndV, dOrV, dNotV, dIf, dCons, dNil, dTup, dLst, dLstM, datas, dCall, dCB, gI0, gI, gB0, g1I, gAdd, gEqD, gNeD, gIx, gIn, g1A, g2A, gInt, gLen, gTuple, gSum, gBest, dSl, dNoPart, dPart, dgName, dgTup, dgCons, dgNil, dgSub, gSetI, dIndexT, dChain, startD, List.map_cons, List.map_nil, List.length_cons, List.length_nil, List.replicate, List.append, List.cons_append, List.nil_append, List.getElem?_cons_zero, List.getElem?_cons_succ, List.set_cons_zero, List.set_cons_succ, Option.some.injEq, Dv.d.injEq, Dv.r.injEq, PyData.tuple.injEq, PyData.list.injEq, PyData.str.injEq, PyData.int.injEq, exists_eq_left', Option.map_some, Nat.zero_add, Nat.reduceAdd, Nat.reduceSub, true_and, and_true, exists_and_left, at0, at1, at2, at3, at4, eqv_int, shaped_int, eqv_pr, shaped_pr, bes, intsD, in4, flat4, flatI, Bool.not_eq_true', decide_eq_false_iff_not, not_true_eq_false, if_true, if_false, Bool.not_true, Bool.not_false, Bool.false_eq_true, Bool.true_eq_false, Bool.or_eq_false_iff,  shaped_tn, shaped_hd, shaped_r, decide_eq_true_eq, sizeLine_eq, Nat.reduceLeDiff, Int.reduceToNat, Int.reducePow, Int.reduceMul, Int.reduceAdd, Int.reduceSub, Int.reduceNeg, Int.reduceMod, setM_same, MO.lst.injEq, setM_setM, ix0, ix1, ix2, ix3, ix4, dPick, keyOf, dSlT, dTupRng, gAppend, dAppend, g2B, dM1, eqv_tn, eqv_tnl, shaped_l, dSlM, g1N, dIsi, tyD, gListD, gListM, gTupleM, sPar, dgPair, isT_it, isT_is, isT_ib, isT_ii, isT_tt, gInS, sTry, xCall, xSeq, xIf, xThen, xRaise, dIsE, dNum, dRep1, gAddT, isT_ss, isT_st, isT_ts, dgAny, djNil, djStr, djFmt, gShow, gRmp, gSplit, gJoin, gIntS, gMulS, dAllG, dRev, gListD, gSplitM, gJoinM, gNotInS, gStrI, gMulN, dIns, daAddRep, gEqX, gAddM, gAddT, sTry, sOr, dAlt, xAlt, xRaiseB, sTryP, xCall, xRaise, xIf, xSeq, xThen, dIsX, dMadeP, dMadeN, dStrX, dNum, dCountL, dIndexL, gSFind, dRep1, gListM, cx_K, nox_K, sCont]
        exact fin
    · refine .inl ?_
      rw [if_pos (fun h => hne (by exact_mod_cast h))]
      simp only [PySem.strLen_append, e0, e1]
      exact ⟨by omega, by omega, by omega, by omega, ⟨_, rfl⟩, z⟩
theorem ok_read_spiral (T : Tx P w K mg base) : FnOk P w K mg base CX0 2 T.a_read_spiral T.fd_read_spiral ["text"] (spD K (F_read_spiral T.aP)) := by
  refine Fun.okD T.F_read_spiral sc_read_spiral mo_read_spiral (fun ds m Q h => ?_) (fun cdv A outer s H E hr => ?_)
  · unfold F_read_spiral at h; obtain ⟨z0, a, b, c, rfl, hz, hP, hr0, hv, z⟩ := h; rfl
  · refine ⟨_, (dss_cons (ds_set (i := 1) sc_read_spiral.nd rfl (by first | exact Or.inl rfl | exact Or.inr rfl) (de_split (dv 0) de_str))
      (dss_cons (ds_if (dt_ne hr (de_len (by rfl) T.b_len (da_cons (dv 1) da_nil)) de_int) (dss_one ds_never) dss_nil)
      (dss_cons (ds_asg (dv 1) (dg_any (n := 3) rfl (dgs_cons (dg_name (i := 2) sc_read_spiral.nd rfl (by first | exact Or.inl rfl | exact Or.inr rfl)) (dgs_cons (dg_name (i := 3) sc_read_spiral.nd rfl (by first | exact Or.inl rfl | exact Or.inr rfl)) (dgs_cons (dg_name (i := 4) sc_read_spiral.nd rfl (by first | exact Or.inl rfl | exact Or.inr rfl)) dgs_nil)))))
      (dss_cons (ds_if (DW.dt (dw_or (dt_not (dt_val (de_call mo_is_written_number ((ok_is_written_number T).mono (by decide : 1 ≤ 1)) hr (by rfl) T.m_is_written_number T.F_is_written_number.kp T.n_is_written_number (da_cons (dv 2) da_nil)))) (dw_or (dt_notin (dv 3) (de_glob (v := .ref T.a_HEADINGS) (by rfl) T.m_HEADINGS rfl T.d_HEADINGS)) (dw_or1 (dt_notin (dv 4) (de_glob (v := .ref T.a_TURNS) (by rfl) T.m_TURNS rfl T.d_TURNS)))))) (dss_one ds_never) dss_nil)
      (dss_one (ds_ret (de_tup (da_cons (de_intS (by rfl) T.b_int (da_cons (dv 2) da_nil)) (da_cons (dv 3) (da_cons (dv 4) da_nil)))))))))), fun ds m Q h => ?_⟩
    obtain ⟨z0, a, b, c, rfl, hz, hP, hr0, hv, z⟩ := h
    try simp only [sSeq, sAsg, sRet, sIf, sDrop, sNext, sNever, dOp, dUn, dVar, dC, dTest, isBool, dAnd, dOr, dNot, dAndV, dOrV, dNotV, dIf, dCons, dNil, dTup, dLst, dLstM, datas, dCall, dCB, gI0, gI, gB0, g1I, gAdd, gEqD, gNeD, gIx, gIn, g1A, g2A, gInt, gLen, gTuple, gSum, gBest, dSl, dNoPart, dPart, dgName, dgTup, dgCons, dgNil, dgSub, gSetI, dIndexT, dChain, startD, List.map_cons, List.map_nil, List.length_cons, List.length_nil, List.replicate, List.append, List.cons_append, List.nil_append, List.getElem?_cons_zero, List.getElem?_cons_succ, List.set_cons_zero, List.set_cons_succ, Option.some.injEq, Dv.d.injEq, Dv.r.injEq, PyData.tuple.injEq, PyData.list.injEq, PyData.str.injEq, PyData.int.injEq, exists_eq_left', Option.map_some, Nat.zero_add, Nat.reduceAdd, Nat.reduceSub, true_and, and_true, exists_and_left, at0, at1, at2, at3, at4, eqv_int, shaped_int, eqv_pr, shaped_pr, bes, intsD, in4, flat4, flatI, Bool.not_eq_true', decide_eq_false_iff_not, not_true_eq_false, if_true, if_false, Bool.not_true, Bool.not_false, Bool.false_eq_true, Bool.true_eq_false, Bool.or_eq_false_iff,  shaped_tn, shaped_hd, shaped_r, decide_eq_true_eq, sizeLine_eq, Nat.reduceLeDiff, Int.reduceToNat, Int.reducePow, Int.reduceMul, Int.reduceAdd, Int.reduceSub, Int.reduceNeg, Int.reduceMod, setM_same, MO.lst.injEq, setM_setM, ix0, ix1, ix2, ix3, ix4, dPick, keyOf, dSlT, dTupRng, gAppend, dAppend, g2B, dM1, eqv_tn, eqv_tnl, shaped_l, dSlM, g1N, dIsi, tyD, gListD, gListM, gTupleM, sPar, dgPair, isT_it, isT_is, isT_ib, isT_ii, isT_tt, gInS, sTry, xCall, xSeq, xIf, xThen, xRaise, dIsE, dNum, dRep1, gAddT, isT_ss, isT_st, isT_ts, dgAny, djNil, djStr, djFmt, gShow, gRmp, gSplit, gJoin, gIntS, gMulS, dAllG, dRev, gListD, gSplitM, gJoinM, gNotInS, gStrI, gMulN, dIns, daAddRep, gEqX, gAddM, gAddT, sTry, sOr, dAlt, xAlt, xRaiseB, sTryP, xCall, xRaise, xIf, xSeq, xThen, dIsX, dMadeP, dMadeN, dStrX, dNum, dCountL, dIndexL, gSFind, dRep1, gListM, cx_K, nox_K, sCont]
    have hl := hz.1
    refine ⟨⟨_, rfl⟩, by decide +kernel, by omega, ?_⟩
    have hsw := @split_words z0
    unfold rd at hr0
    split at hr0
    · next a1 b1 c1 hsp =>
      have hsw := hsw hsp
      rw [hsp]
      split at hr0
      · next hc =>
        cases hr0
        have ha := hsw a (by simp)
        have hb := hsw b (by simp)
        have hc' := hsw c (by simp)
        try simp only [sSeq, sAsg, sRet, sIf, sDrop, sNext, sNever, dOp, dUn, dVar, dC, dTest, isBool, dAnd, dOr, dNot, dAndV, dOrV, dNotV, dIf, dCons, dNil, dTup, dLst, dLstM, datas, dCall, dCB, gI0, gI, gB0, g1I, gAdd, gEqD, gNeD, gIx, gIn, g1A, g2A, gInt, gLen, gTuple, gSum, gBest, dSl, dNoPart, dPart, dgName, dgTup, dgCons, dgNil, dgSub, gSetI, dIndexT, dChain, startD, List.map_cons, List.map_nil, List.length_cons, List.length_nil, List.replicate, List.append, List.cons_append, List.nil_append, List.getElem?_cons_zero, List.getElem?_cons_succ, List.set_cons_zero, List.set_cons_succ, Option.some.injEq, Dv.d.injEq, Dv.r.injEq, PyData.tuple.injEq, PyData.list.injEq, PyData.str.injEq, PyData.int.injEq, exists_eq_left', Option.map_some, Nat.zero_add, Nat.reduceAdd, Nat.reduceSub, true_and, and_true, exists_and_left, at0, at1, at2, at3, at4, eqv_int, shaped_int, eqv_pr, shaped_pr, bes, intsD, in4, flat4, flatI, Bool.not_eq_true', decide_eq_false_iff_not, not_true_eq_false, if_true, if_false, Bool.not_true, Bool.not_false, Bool.false_eq_true, Bool.true_eq_false, Bool.or_eq_false_iff,  shaped_tn, shaped_hd, shaped_r, decide_eq_true_eq, sizeLine_eq, Nat.reduceLeDiff, Int.reduceToNat, Int.reducePow, Int.reduceMul, Int.reduceAdd, Int.reduceSub, Int.reduceNeg, Int.reduceMod, setM_same, MO.lst.injEq, setM_setM, ix0, ix1, ix2, ix3, ix4, dPick, keyOf, dSlT, dTupRng, gAppend, dAppend, g2B, dM1, eqv_tn, eqv_tnl, shaped_l, dSlM, g1N, dIsi, tyD, gListD, gListM, gTupleM, sPar, dgPair, isT_it, isT_is, isT_ib, isT_ii, isT_tt, gInS, sTry, xCall, xSeq, xIf, xThen, xRaise, dIsE, dNum, dRep1, gAddT, isT_ss, isT_st, isT_ts, dgAny, djNil, djStr, djFmt, gShow, gRmp, gSplit, gJoin, gIntS, gMulS, dAllG, dRev, gListD, gSplitM, gJoinM, gNotInS, gStrI, gMulN, dIns, daAddRep, gEqX, gAddM, gAddT, sTry, sOr, dAlt, xAlt, xRaiseB, sTryP, xCall, xRaise, xIf, xSeq, xThen, dIsX, dMadeP, dMadeN, dStrX, dNum, dCountL, dIndexL, gSFind, dRep1, gListM, cx_K, nox_K, sCont]
        rw [if_neg (by decide)]
        refine ⟨a, rfl, hP, ⟨by omega, fun d hd => hz.2 d (ha.2 d hd)⟩, ?_⟩
        rw [hc.1]
        try simp only [sSeq, sAsg, sRet, sIf, sDrop, sNext, sNever, dOp, dUn, dVar, dC, dTest, isBool, dAnd, dOr, dNot, dAndV, dOrV, dNotV, dIf, dCons, dNil, dTup, dLst, dLstM, datas, dCall, dCB, gI0, gI, gB0, g1I, gAdd, gEqD, gNeD, gIx, gIn, g1A, g2A, gInt, gLen, gTuple, gSum, gBest, dSl, dNoPart, dPart, dgName, dgTup, dgCons, dgNil, dgSub, gSetI, dIndexT, dChain, startD, List.map_cons, List.map_nil, List.length_cons, List.length_nil, List.replicate, List.append, List.cons_append, List.nil_append, List.getElem?_cons_zero, List.getElem?_cons_succ, List.set_cons_zero, List.set_cons_succ, Option.some.injEq, Dv.d.injEq, Dv.r.injEq, PyData.tuple.injEq, PyData.list.injEq, PyData.str.injEq, PyData.int.injEq, exists_eq_left', Option.map_some, Nat.zero_add, Nat.reduceAdd, Nat.reduceSub, true_and, and_true, exists_and_left, at0, at1, at2, at3, at4, eqv_int, shaped_int, eqv_pr, shaped_pr, bes, intsD, in4, flat4, flatI, Bool.not_eq_true', decide_eq_false_iff_not, not_true_eq_false, if_true, if_false, Bool.not_true, Bool.not_false, Bool.false_eq_true, Bool.true_eq_false, Bool.or_eq_false_iff,  shaped_tn, shaped_hd, shaped_r, decide_eq_true_eq, sizeLine_eq, Nat.reduceLeDiff, Int.reduceToNat, Int.reducePow, Int.reduceMul, Int.reduceAdd, Int.reduceSub, Int.reduceNeg, Int.reduceMod, setM_same, MO.lst.injEq, setM_setM, ix0, ix1, ix2, ix3, ix4, dPick, keyOf, dSlT, dTupRng, gAppend, dAppend, g2B, dM1, eqv_tn, eqv_tnl, shaped_l, dSlM, g1N, dIsi, tyD, gListD, gListM, gTupleM, sPar, dgPair, isT_it, isT_is, isT_ib, isT_ii, isT_tt, gInS, sTry, xCall, xSeq, xIf, xThen, xRaise, dIsE, dNum, dRep1, gAddT, isT_ss, isT_st, isT_ts, dgAny, djNil, djStr, djFmt, gShow, gRmp, gSplit, gJoin, gIntS, gMulS, dAllG, dRev, gListD, gSplitM, gJoinM, gNotInS, gStrI, gMulN, dIns, daAddRep, gEqX, gAddM, gAddT, sTry, sOr, dAlt, xAlt, xRaiseB, sTryP, xCall, xRaise, xIf, xSeq, xThen, dIsX, dMadeP, dMadeN, dStrX, dNum, dCountL, dIndexL, gSFind, dRep1, gListM, cx_K, nox_K, sCont]
        rw [inD_heads b (fun d hd => hz.2 d (hb.2 d hd)), inD_turns c (fun d hd => hz.2 d (hc'.2 d hd)), decide_eq_true hc.2.1, decide_eq_true hc.2.2, if_neg (by decide), if_neg (by decide)]
        have hlen := val_len hc.1 hv
        exact ⟨rfl, by decide +kernel, rfl, by decide +kernel, val a, int_val hc.1 (by omega), by omega, z⟩
      · cases hr0
    · cases hr0
theorem sc__law_due : FnScope ["text", "words", "below", "number", "figure", "bare"] ["text"] (defScope s__law_due) := ⟨rfl, rfl, rfl, by decide +kernel, rfl, by decide +kernel, by decide +kernel⟩
theorem ok__law_due (T : Tx P w K mg base) : FnOk P w K mg base CX0 1 T.a__law_due T.fd__law_due ["text"] (spD K F__law_due) := by
  refine Fun.okD T.F__law_due sc__law_due mo__law_due (fun ds m Q h => ?_) (fun cdv A outer s H E hr => ?_)
  · unfold F__law_due at h; obtain ⟨z0, rfl, hz, z⟩ := h; rfl
  · refine ⟨_, (dss_cons (ds_set (i := 1) sc__law_due.nd rfl (by first | exact Or.inl rfl | exact Or.inr rfl) (de_split (dv 0) de_str))
      (dss_cons (ds_if (DW.dt (dw_or (dt_ne hr (de_len (by rfl) T.b_len (da_cons (dv 1) da_nil)) de_int) (dw_or (dt_notin (de_ix (dv 1) de_int) (de_tup (da_cons de_str (da_cons de_str (da_cons de_str (da_cons de_str da_nil)))))) (dw_or1 (dt_notin (de_ix (dv 1) de_int) (de_tup (da_cons de_str (da_cons de_str da_nil)))))))) (dss_one (ds_ret de_non)) dss_nil)
      (dss_cons (ds_set (i := 2) sc__law_due.nd rfl (by first | exact Or.inl rfl | exact Or.inr rfl) (de_intc (by rfl) T.b_int (da_cons (de_eq hr (de_slice (de_ix (dv 1) de_int) do_none (do_some de_int)) de_str) da_nil)))
      (dss_cons (ds_set (i := 3) sc__law_due.nd rfl (by first | exact Or.inl rfl | exact Or.inr rfl) de_int)
      (dss_cons (ds_for PassesOwn.never rfl (di_str (de_slice (de_ix (dv 1) de_int) (do_some (dv 2)) do_none)) (dg_name (i := 4) sc__law_due.nd rfl (by first | exact Or.inl rfl | exact Or.inr rfl)) (dss_cons (ds_if (dt_notinS (dv 4) de_str) (dss_one (ds_ret de_non)) dss_nil)
      (dss_one (ds_set (i := 3) sc__law_due.nd rfl (by first | exact Or.inl rfl | exact Or.inr rfl) (de_add (de_mul (dv 3) de_int) (de_sfind de_str (dv 4)))))))
      (dss_cons (ds_set (i := 5) sc__law_due.nd rfl (by first | exact Or.inl rfl | exact Or.inr rfl) (de_slice (de_ix (dv 1) de_int) (do_some (dv 2)) do_none))
      (dss_cons (ds_if (DW.dt (dw_or (dt_eq hr (dv 5) de_str) (dw_or1 (DW.dt (dw_and (dt_eq hr (de_slice (dv 5) do_none (do_some de_int)) de_str) (dw_and1 (dt_ne hr (de_ix (dv 1) de_int) de_str))))))) (dss_one (ds_ret de_non)) dss_nil)
      (dss_one (ds_ret (de_tup (da_cons (de_mul (dv 3) (de_ix (de_lst (da_cons de_int (da_cons (de_neg de_int) da_nil))) (dv 2))) (da_cons (de_ix (dv 1) de_int) (da_cons (de_ix (dv 1) de_int) da_nil))))))))))))), fun ds m Q h => ?_⟩
    obtain ⟨z0, rfl, hz, z⟩ := h
    try simp only [sSeq, sAsg, sRet, sIf, sDrop, sNext, sNever, dOp, dUn, dVar, dC, dTest, isBool, dAnd, dOr, dNot, dAndV, dOrV, dNotV, dIf, dCons, dNil, dTup, dLst, dLstM, datas, dCall, dCB, gI0, gI, gB0, g1I, gAdd, gEqD, gNeD, gIx, gIn, g1A, g2A, gInt, gLen, gTuple, gSum, gBest, dSl, dNoPart, dPart, dgName, dgTup, dgCons, dgNil, dgSub, gSetI, dIndexT, dChain, startD, List.map_cons, List.map_nil, List.length_cons, List.length_nil, List.replicate, List.append, List.cons_append, List.nil_append, List.getElem?_cons_zero, List.getElem?_cons_succ, List.set_cons_zero, List.set_cons_succ, Option.some.injEq, Dv.d.injEq, Dv.r.injEq, PyData.tuple.injEq, PyData.list.injEq, PyData.str.injEq, PyData.int.injEq, exists_eq_left', Option.map_some, Nat.zero_add, Nat.reduceAdd, Nat.reduceSub, true_and, and_true, exists_and_left, at0, at1, at2, at3, at4, eqv_int, shaped_int, eqv_pr, shaped_pr, bes, intsD, in4, flat4, flatI, Bool.not_eq_true', decide_eq_false_iff_not, not_true_eq_false, if_true, if_false, Bool.not_true, Bool.not_false, Bool.false_eq_true, Bool.true_eq_false, Bool.or_eq_false_iff,  shaped_tn, shaped_hd, shaped_r, decide_eq_true_eq, sizeLine_eq, Nat.reduceLeDiff, Int.reduceToNat, Int.reducePow, Int.reduceMul, Int.reduceAdd, Int.reduceSub, Int.reduceNeg, Int.reduceMod, setM_same, MO.lst.injEq, setM_setM, ix0, ix1, ix2, ix3, ix4, dPick, keyOf, dSlT, dTupRng, gAppend, dAppend, g2B, dM1, eqv_tn, eqv_tnl, shaped_l, dSlM, g1N, dIsi, tyD, gListD, gListM, gTupleM, sPar, dgPair, isT_it, isT_is, isT_ib, isT_ii, isT_tt, gInS, sTry, xCall, xSeq, xIf, xThen, xRaise, dIsE, dNum, dRep1, gAddT, isT_ss, isT_st, isT_ts, dgAny, djNil, djStr, djFmt, gShow, gRmp, gSplit, gJoin, gIntS, gMulS, dAllG, dRev, gListD, gSplitM, gJoinM, gNotInS, gStrI, gMulN, dIns, daAddRep, gEqX, gAddM, gAddT, sTry, sOr, dAlt, xAlt, xRaiseB, sTryP, xCall, xRaise, xIf, xSeq, xThen, dIsX, dMadeP, dMadeN, dStrX, dNum, dCountL, dIndexL, gSFind, dRep1, gListM, cx_K, nox_K, sCont]
    have hl := hz.1
    refine ⟨⟨_, rfl⟩, by decide +kernel, by omega, ?_⟩
    have hsw := @split_words z0
    rcases split3 z0 with ⟨a, b, c, hsp⟩ | hne
    · have hsw := hsw hsp
      have ha := hsw a (by simp)
      have hb := hsw b (by simp)
      have hc' := hsw c (by simp)
      rw [rd_3 hsp] at z
      rw [hsp]
      try simp only [sSeq, sAsg, sRet, sIf, sDrop, sNext, sNever, dOp, dUn, dVar, dC, dTest, isBool, dAnd, dOr, dNot, dAndV, dOrV, dNotV, dIf, dCons, dNil, dTup, dLst, dLstM, datas, dCall, dCB, gI0, gI, gB0, g1I, gAdd, gEqD, gNeD, gIx, gIn, g1A, g2A, gInt, gLen, gTuple, gSum, gBest, dSl, dNoPart, dPart, dgName, dgTup, dgCons, dgNil, dgSub, gSetI, dIndexT, dChain, startD, List.map_cons, List.map_nil, List.length_cons, List.length_nil, List.replicate, List.append, List.cons_append, List.nil_append, List.getElem?_cons_zero, List.getElem?_cons_succ, List.set_cons_zero, List.set_cons_succ, Option.some.injEq, Dv.d.injEq, Dv.r.injEq, PyData.tuple.injEq, PyData.list.injEq, PyData.str.injEq, PyData.int.injEq, exists_eq_left', Option.map_some, Nat.zero_add, Nat.reduceAdd, Nat.reduceSub, true_and, and_true, exists_and_left, at0, at1, at2, at3, at4, eqv_int, shaped_int, eqv_pr, shaped_pr, bes, intsD, in4, flat4, flatI, Bool.not_eq_true', decide_eq_false_iff_not, not_true_eq_false, if_true, if_false, Bool.not_true, Bool.not_false, Bool.false_eq_true, Bool.true_eq_false, Bool.or_eq_false_iff,  shaped_tn, shaped_hd, shaped_r, decide_eq_true_eq, sizeLine_eq, Nat.reduceLeDiff, Int.reduceToNat, Int.reducePow, Int.reduceMul, Int.reduceAdd, Int.reduceSub, Int.reduceNeg, Int.reduceMod, setM_same, MO.lst.injEq, setM_setM, ix0, ix1, ix2, ix3, ix4, dPick, keyOf, dSlT, dTupRng, gAppend, dAppend, g2B, dM1, eqv_tn, eqv_tnl, shaped_l, dSlM, g1N, dIsi, tyD, gListD, gListM, gTupleM, sPar, dgPair, isT_it, isT_is, isT_ib, isT_ii, isT_tt, gInS, sTry, xCall, xSeq, xIf, xThen, xRaise, dIsE, dNum, dRep1, gAddT, isT_ss, isT_st, isT_ts, dgAny, djNil, djStr, djFmt, gShow, gRmp, gSplit, gJoin, gIntS, gMulS, dAllG, dRev, gListD, gSplitM, gJoinM, gNotInS, gStrI, gMulN, dIns, daAddRep, gEqX, gAddM, gAddT, sTry, sOr, dAlt, xAlt, xRaiseB, sTryP, xCall, xRaise, xIf, xSeq, xThen, dIsX, dMadeP, dMadeN, dStrX, dNum, dCountL, dIndexL, gSFind, dRep1, gListM, cx_K, nox_K, sCont]
      rw [if_neg (by decide)]
      try simp only [sSeq, sAsg, sRet, sIf, sDrop, sNext, sNever, dOp, dUn, dVar, dC, dTest, isBool, dAnd, dOr, dNot, dAndV, dOrV, dNotV, dIf, dCons, dNil, dTup, dLst, dLstM, datas, dCall, dCB, gI0, gI, gB0, g1I, gAdd, gEqD, gNeD, gIx, gIn, g1A, g2A, gInt, gLen, gTuple, gSum, gBest, dSl, dNoPart, dPart, dgName, dgTup, dgCons, dgNil, dgSub, gSetI, dIndexT, dChain, startD, List.map_cons, List.map_nil, List.length_cons, List.length_nil, List.replicate, List.append, List.cons_append, List.nil_append, List.getElem?_cons_zero, List.getElem?_cons_succ, List.set_cons_zero, List.set_cons_succ, Option.some.injEq, Dv.d.injEq, Dv.r.injEq, PyData.tuple.injEq, PyData.list.injEq, PyData.str.injEq, PyData.int.injEq, exists_eq_left', Option.map_some, Nat.zero_add, Nat.reduceAdd, Nat.reduceSub, true_and, and_true, exists_and_left, at0, at1, at2, at3, at4, eqv_int, shaped_int, eqv_pr, shaped_pr, bes, intsD, in4, flat4, flatI, Bool.not_eq_true', decide_eq_false_iff_not, not_true_eq_false, if_true, if_false, Bool.not_true, Bool.not_false, Bool.false_eq_true, Bool.true_eq_false, Bool.or_eq_false_iff,  shaped_tn, shaped_hd, shaped_r, decide_eq_true_eq, sizeLine_eq, Nat.reduceLeDiff, Int.reduceToNat, Int.reducePow, Int.reduceMul, Int.reduceAdd, Int.reduceSub, Int.reduceNeg, Int.reduceMod, setM_same, MO.lst.injEq, setM_setM, ix0, ix1, ix2, ix3, ix4, dPick, keyOf, dSlT, dTupRng, gAppend, dAppend, g2B, dM1, eqv_tn, eqv_tnl, shaped_l, dSlM, g1N, dIsi, tyD, gListD, gListM, gTupleM, sPar, dgPair, isT_it, isT_is, isT_ib, isT_ii, isT_tt, gInS, sTry, xCall, xSeq, xIf, xThen, xRaise, dIsE, dNum, dRep1, gAddT, isT_ss, isT_st, isT_ts, dgAny, djNil, djStr, djFmt, gShow, gRmp, gSplit, gJoin, gIntS, gMulS, dAllG, dRev, gListD, gSplitM, gJoinM, gNotInS, gStrI, gMulN, dIns, daAddRep, gEqX, gAddM, gAddT, sTry, sOr, dAlt, xAlt, xRaiseB, sTryP, xCall, xRaise, xIf, xSeq, xThen, dIsX, dMadeP, dMadeN, dStrX, dNum, dCountL, dIndexL, gSFind, dRep1, gListM, cx_K, nox_K, sCont]
      rw [inD_heads b (fun d hd => hz.2 d (hb.2 d hd)), inD_turns c (fun d hd => hz.2 d (hc'.2 d hd))]
      refine ⟨rfl, by decide +kernel, ?_⟩
      by_cases c2 : b ∈ heads
      · rw [if_neg (by simp [c2])]
        refine ⟨rfl, by decide +kernel, ?_⟩
        by_cases c3 : c ∈ turns
        · rw [if_neg (by simp [c3])]
          have hA : Cp a := fun d hd => hz.2 d (ha.2 d hd)
          refine ⟨by omega, shaped_str (fun d hd => hA d (by rw [cut_first] at hd; exact List.mem_of_mem_take hd)), by decide +kernel, ?_⟩
          rw [first_neg a]
          have hgc := cut_bare a
          have hgl : ∀ g : Str, g.cps.toList = bare a → g.length ≤ a.length := fun g hg => by
            rw [len_cps g, len_cps a, hg]
            cases hn : neg a with
            | true => rw [bare_neg a hn, List.length_cons]; omega
            | false => rw [bare_pos a hn]; exact Nat.le_refl _
          have hgl := hgl _ hgc
          have hgC : Cp (cutS a (some (if neg a = true then 1 else 0)) none) := fun d hd => hA d (bare_sub a d (by rw [← hgc]; exact hd))
          have sA : SeqAt.shaped (.str (Str.ofString "0")) = true := by decide +kernel
          have sB : SeqAt.shaped (.str (Str.ofString "")) = true := by decide +kernel
          obtain ⟨bl, hbl⟩ : ∃ bl : Int, bl = (if neg a = true then 1 else 0) := ⟨_, rfl⟩
          rw [← hbl] at hgc hgl hgC ⊢
          refine for_its ((bare a).map fun c => .d (.str ⟨#[c]⟩)) (fun R hR => ?_) (fun i δ m' => ∃ v4, δ = [some (.d (.str z0)), some (.d (.list [.str a, .str b, .str c])), some (I bl), some (I ((dval ((bare a).take i) : Nat) : Int)), v4, none] ∧ m' = m ∧ ∀ d ∈ (bare a).take i, isFig d = true) ⟨none, rfl, rfl, by simp⟩ ?_ ?_
          · unfold dItS
            try simp only [sSeq, sAsg, sRet, sIf, sDrop, sNext, sNever, dOp, dUn, dVar, dC, dTest, isBool, dAnd, dOr, dNot, dAndV, dOrV, dNotV, dIf, dCons, dNil, dTup, dLst, dLstM, datas, dCall, dCB, gI0, gI, gB0, g1I, gAdd, gEqD, gNeD, gIx, gIn, g1A, g2A, gInt, gLen, gTuple, gSum, gBest, dSl, dNoPart, dPart, dgName, dgTup, dgCons, dgNil, dgSub, gSetI, dIndexT, dChain, startD, List.map_cons, List.map_nil, List.length_cons, List.length_nil, List.replicate, List.append, List.cons_append, List.nil_append, List.getElem?_cons_zero, List.getElem?_cons_succ, List.set_cons_zero, List.set_cons_succ, Option.some.injEq, Dv.d.injEq, Dv.r.injEq, PyData.tuple.injEq, PyData.list.injEq, PyData.str.injEq, PyData.int.injEq, exists_eq_left', Option.map_some, Nat.zero_add, Nat.reduceAdd, Nat.reduceSub, true_and, and_true, exists_and_left, at0, at1, at2, at3, at4, eqv_int, shaped_int, eqv_pr, shaped_pr, bes, intsD, in4, flat4, flatI, Bool.not_eq_true', decide_eq_false_iff_not, not_true_eq_false, if_true, if_false, Bool.not_true, Bool.not_false, Bool.false_eq_true, Bool.true_eq_false, Bool.or_eq_false_iff,  shaped_tn, shaped_hd, shaped_r, decide_eq_true_eq, sizeLine_eq, Nat.reduceLeDiff, Int.reduceToNat, Int.reducePow, Int.reduceMul, Int.reduceAdd, Int.reduceSub, Int.reduceNeg, Int.reduceMod, setM_same, MO.lst.injEq, setM_setM, ix0, ix1, ix2, ix3, ix4, dPick, keyOf, dSlT, dTupRng, gAppend, dAppend, g2B, dM1, eqv_tn, eqv_tnl, shaped_l, dSlM, g1N, dIsi, tyD, gListD, gListM, gTupleM, sPar, dgPair, isT_it, isT_is, isT_ib, isT_ii, isT_tt, gInS, sTry, xCall, xSeq, xIf, xThen, xRaise, dIsE, dNum, dRep1, gAddT, isT_ss, isT_st, isT_ts, dgAny, djNil, djStr, djFmt, gShow, gRmp, gSplit, gJoin, gIntS, gMulS, dAllG, dRev, gListD, gSplitM, gJoinM, gNotInS, gStrI, gMulN, dIns, daAddRep, gEqX, gAddM, gAddT, sTry, sOr, dAlt, xAlt, xRaiseB, sTryP, xCall, xRaise, xIf, xSeq, xThen, dIsX, dMadeP, dMadeN, dStrX, dNum, dCountL, dIndexL, gSFind, dRep1, gListM, cx_K, nox_K, sCont]
            rw [hgc]
            exact ⟨by omega, hR⟩
          · rintro i x δ m' hx ⟨v4, rfl, rfl, hf⟩
            rw [List.getElem?_map] at hx
            obtain ⟨d, hd, rfl⟩ := Option.map_eq_some_iff.mp hx
            try simp only [sSeq, sAsg, sRet, sIf, sDrop, sNext, sNever, dOp, dUn, dVar, dC, dTest, isBool, dAnd, dOr, dNot, dAndV, dOrV, dNotV, dIf, dCons, dNil, dTup, dLst, dLstM, datas, dCall, dCB, gI0, gI, gB0, g1I, gAdd, gEqD, gNeD, gIx, gIn, g1A, g2A, gInt, gLen, gTuple, gSum, gBest, dSl, dNoPart, dPart, dgName, dgTup, dgCons, dgNil, dgSub, gSetI, dIndexT, dChain, startD, List.map_cons, List.map_nil, List.length_cons, List.length_nil, List.replicate, List.append, List.cons_append, List.nil_append, List.getElem?_cons_zero, List.getElem?_cons_succ, List.set_cons_zero, List.set_cons_succ, Option.some.injEq, Dv.d.injEq, Dv.r.injEq, PyData.tuple.injEq, PyData.list.injEq, PyData.str.injEq, PyData.int.injEq, exists_eq_left', Option.map_some, Nat.zero_add, Nat.reduceAdd, Nat.reduceSub, true_and, and_true, exists_and_left, at0, at1, at2, at3, at4, eqv_int, shaped_int, eqv_pr, shaped_pr, bes, intsD, in4, flat4, flatI, Bool.not_eq_true', decide_eq_false_iff_not, not_true_eq_false, if_true, if_false, Bool.not_true, Bool.not_false, Bool.false_eq_true, Bool.true_eq_false, Bool.or_eq_false_iff,  shaped_tn, shaped_hd, shaped_r, decide_eq_true_eq, sizeLine_eq, Nat.reduceLeDiff, Int.reduceToNat, Int.reducePow, Int.reduceMul, Int.reduceAdd, Int.reduceSub, Int.reduceNeg, Int.reduceMod, setM_same, MO.lst.injEq, setM_setM, ix0, ix1, ix2, ix3, ix4, dPick, keyOf, dSlT, dTupRng, gAppend, dAppend, g2B, dM1, eqv_tn, eqv_tnl, shaped_l, dSlM, g1N, dIsi, tyD, gListD, gListM, gTupleM, sPar, dgPair, isT_it, isT_is, isT_ib, isT_ii, isT_tt, gInS, sTry, xCall, xSeq, xIf, xThen, xRaise, dIsE, dNum, dRep1, gAddT, isT_ss, isT_st, isT_ts, dgAny, djNil, djStr, djFmt, gShow, gRmp, gSplit, gJoin, gIntS, gMulS, dAllG, dRev, gListD, gSplitM, gJoinM, gNotInS, gStrI, gMulN, dIns, daAddRep, gEqX, gAddM, gAddT, sTry, sOr, dAlt, xAlt, xRaiseB, sTryP, xCall, xRaise, xIf, xSeq, xThen, dIsX, dMadeP, dMadeN, dStrX, dNum, dCountL, dIndexL, gSFind, dRep1, gListM, cx_K, nox_K, sCont]
            rw [occ_fig]
            by_cases hd1 : isFig d = true
            · rw [if_neg (by rw [hd1]; decide), find_fig hd1]
              have et : (bare a).take (i + 1) = (bare a).take i ++ [d] := by rw [List.take_succ, hd]; rfl
              rw [et, dval_snoc]
              have en : (((dval ((bare a).take i) : Nat) : Int) * 10 + ((d - 48 : Nat) : Int)) = ((dval ((bare a).take i) * 10 + (d - 48) : Nat) : Int) := by omega
              rw [en]
              refine ⟨.inr (by omega), ⟨_, rfl⟩, _, rfl, fun e he => ?_⟩
              rcases List.mem_append.mp he with h | h
              · exact hf e h
              · simp only [List.mem_cons, List.not_mem_nil, or_false] at h
                subst h
                exact hd1
            · have hd2 : isFig d = false := by simpa using hd1
              rw [if_pos hd2]
              rw [if_neg (fun h => by rw [isW_fig (List.mem_of_getElem? hd) hd2] at h; exact absurd h.1 (by decide))] at z
              exact z
          · rintro δ m' ⟨v4, rfl, rfl, hf⟩
            rw [List.length_map, List.take_of_length_le (Nat.le_refl _)] at hf ⊢
            have hall : (bare a).all isFig = true := List.all_eq_true.mpr hf
            clear hsw hsp
            try simp only [sSeq, sAsg, sRet, sIf, sDrop, sNext, sNever, dOp, dUn, dVar, dC, dTest, isBool, dAnd, dOr, dNot, dAndV, dOrV, dNotV, dIf, dCons, dNil, dTup, dLst, dLstM, datas, dCall, dCB, gI0, gI, gB0, g1I, gAdd, gEqD, gNeD, gIx, gIn, g1A, g2A, gInt, gLen, gTuple, gSum, gBest, dSl, dNoPart, dPart, dgName, dgTup, dgCons, dgNil, dgSub, gSetI, dIndexT, dChain, startD, List.map_cons, List.map_nil, List.length_cons, List.length_nil, List.replicate, List.append, List.cons_append, List.nil_append, List.getElem?_cons_zero, List.getElem?_cons_succ, List.set_cons_zero, List.set_cons_succ, Option.some.injEq, Dv.d.injEq, Dv.r.injEq, PyData.tuple.injEq, PyData.list.injEq, PyData.str.injEq, PyData.int.injEq, exists_eq_left', Option.map_some, Nat.zero_add, Nat.reduceAdd, Nat.reduceSub, true_and, and_true, exists_and_left, at0, at1, at2, at3, at4, eqv_int, shaped_int, eqv_pr, shaped_pr, bes, intsD, in4, flat4, flatI, Bool.not_eq_true', decide_eq_false_iff_not, not_true_eq_false, if_true, if_false, Bool.not_true, Bool.not_false, Bool.false_eq_true, Bool.true_eq_false, Bool.or_eq_false_iff,  shaped_tn, shaped_hd, shaped_r, decide_eq_true_eq, sizeLine_eq, Nat.reduceLeDiff, Int.reduceToNat, Int.reducePow, Int.reduceMul, Int.reduceAdd, Int.reduceSub, Int.reduceNeg, Int.reduceMod, setM_same, MO.lst.injEq, setM_setM, ix0, ix1, ix2, ix3, ix4, dPick, keyOf, dSlT, dTupRng, gAppend, dAppend, g2B, dM1, eqv_tn, eqv_tnl, shaped_l, dSlM, g1N, dIsi, tyD, gListD, gListM, gTupleM, sPar, dgPair, isT_it, isT_is, isT_ib, isT_ii, isT_tt, gInS, sTry, xCall, xSeq, xIf, xThen, xRaise, dIsE, dNum, dRep1, gAddT, isT_ss, isT_st, isT_ts, dgAny, djNil, djStr, djFmt, gShow, gRmp, gSplit, gJoin, gIntS, gMulS, dAllG, dRev, gListD, gSplitM, gJoinM, gNotInS, gStrI, gMulN, dIns, daAddRep, gEqX, gAddM, gAddT, sTry, sOr, dAlt, xAlt, xRaiseB, sTryP, xCall, xRaise, xIf, xSeq, xThen, dIsX, dMadeP, dMadeN, dStrX, dNum, dCountL, dIndexL, gSFind, dRep1, gListM, cx_K, nox_K, sCont]
            have ev : ∀ a b : Str, PyData.eqv (.str a) (.str b) = (a == b) := fun _ _ => rfl
            have fin : isW a = true → ∃ v, atI [PyData.int 1, PyData.int (-1)] bl = some v ∧ ∃ i : Int, v = .int i ∧ CMul ((dval (bare a) : Nat) : Int) i ∧ Q (.d (.tuple [.int (((dval (bare a) : Nat) : Int) * i), .str b, .str c])) m' := fun hw => by
              rw [if_pos ⟨hw, c2, c3⟩] at z
              simp only [tri, val] at z
              cases hn : neg a with
              | true =>
                rw [hn] at hbl z
                simp only [if_true] at hbl z
                subst hbl
                exact ⟨_, at1, -1, rfl, .inr (by omega), by rw [Int.mul_neg_one]; exact z⟩
              | false =>
                rw [hn] at hbl z
                simp only [Bool.false_eq_true, if_false] at hbl z
                subst hbl
                exact ⟨_, at0, 1, rfl, .inr (by omega), by rw [Int.mul_one]; exact z⟩
            have zn : isW a = false → Q (.d .none) m' := fun hw => by
              rw [if_neg (fun h => by rw [hw] at h; exact absurd h.1 (by decide))] at z
              exact z
            generalize cutS a (some bl) none = g at hgc hgl hgC ⊢
            have e0 : (Str.ofString "").cps.toList = [] := by decide +kernel
            refine ⟨by omega, shaped_str hgC, sB, ?_⟩
            rw [ev, first_0, ev]
            by_cases c4 : (g == Str.ofString "") = true
            · rw [if_pos c4]
              have c4 := eq_of_beq c4
              rw [c4, e0] at hgc
              refine zn ?_
              cases e : isW a with
              | false => rfl
              | true => exact absurd hgc.symm (isW_digits e).2
            · rw [if_neg c4]
              have hbn : bare a ≠ [] := fun h => c4 (by
                have : g = Str.ofString "" := str_ext (by rw [hgc, h, e0])
                rw [this]; exact beq_self_eq_true _)
              refine ⟨by omega, shaped_str (fun d hd => hgC d (by rw [cut_first] at hd; exact List.mem_of_mem_take hd)), sA, ?_⟩
              rw [hgc]
              by_cases c5 : ((bare a).head? == some 48) = true
              · rw [if_pos c5]
                refine ⟨shaped_str hA, sA, ?_⟩
                by_cases c6 : (a == Str.ofString "0") = true
                · rw [if_neg (by rw [c6]; decide)]
                  obtain ⟨v, e1, i, rfl, e2, q⟩ := fin (by unfold isW; rw [c6]; rfl)
                  refine ⟨_, e1, ?_⟩
                  try simp only [sSeq, sAsg, sRet, sIf, sDrop, sNext, sNever, dOp, dUn, dVar, dC, dTest, isBool, dAnd, dOr, dNot, dAndV, dOrV, dNotV, dIf, dCons, dNil, dTup, dLst, dLstM, datas, dCall, dCB, gI0, gI, gB0, g1I, gAdd, gEqD, gNeD, gIx, gIn, g1A, g2A, gInt, gLen, gTuple, gSum, gBest, dSl, dNoPart, dPart, dgName, dgTup, dgCons, dgNil, dgSub, gSetI, dIndexT, dChain, startD, List.map_cons, List.map_nil, List.length_cons, List.length_nil, List.replicate, List.append, List.cons_append, List.nil_append, List.getElem?_cons_zero, List.getElem?_cons_succ, List.set_cons_zero, List.set_cons_succ, Option.some.injEq, Dv.d.injEq, Dv.r.injEq, PyData.tuple.injEq, PyData.list.injEq, PyData.str.injEq, PyData.int.injEq, exists_eq_left', Option.map_some, Nat.zero_add, Nat.reduceAdd, Nat.reduceSub, true_and, and_true, exists_and_left, at0, at1, at2, at3, at4, eqv_int, shaped_int, eqv_pr, shaped_pr, bes, intsD, in4, flat4, flatI, Bool.not_eq_true', decide_eq_false_iff_not, not_true_eq_false, if_true, if_false, Bool.not_true, Bool.not_false, Bool.false_eq_true, Bool.true_eq_false, Bool.or_eq_false_iff,  shaped_tn, shaped_hd, shaped_r, decide_eq_true_eq, sizeLine_eq, Nat.reduceLeDiff, Int.reduceToNat, Int.reducePow, Int.reduceMul, Int.reduceAdd, Int.reduceSub, Int.reduceNeg, Int.reduceMod, setM_same, MO.lst.injEq, setM_setM, ix0, ix1, ix2, ix3, ix4, dPick, keyOf, dSlT, dTupRng, gAppend, dAppend, g2B, dM1, eqv_tn, eqv_tnl, shaped_l, dSlM, g1N, dIsi, tyD, gListD, gListM, gTupleM, sPar, dgPair, isT_it, isT_is, isT_ib, isT_ii, isT_tt, gInS, sTry, xCall, xSeq, xIf, xThen, xRaise, dIsE, dNum, dRep1, gAddT, isT_ss, isT_st, isT_ts, dgAny, djNil, djStr, djFmt, gShow, gRmp, gSplit, gJoin, gIntS, gMulS, dAllG, dRev, gListD, gSplitM, gJoinM, gNotInS, gStrI, gMulN, dIns, daAddRep, gEqX, gAddM, gAddT, sTry, sOr, dAlt, xAlt, xRaiseB, sTryP, xCall, xRaise, xIf, xSeq, xThen, dIsX, dMadeP, dMadeN, dStrX, dNum, dCountL, dIndexL, gSFind, dRep1, gListM, cx_K, nox_K, sCont]
                  exact ⟨e2, q⟩
                · rw [if_pos (by simpa using c6)]
                  refine zn ?_
                  unfold isW
                  have c6' : (a == Str.ofString "0") = false := by simpa using c6
                  have c5' : ((bare a).head? != some 48) = false := by simp only [bne, c5]; rfl
                  rw [c6', c5']
                  simp
              · rw [if_neg c5]
                have hw : isW a = true := by
                  unfold isW
                  have c5' : ((bare a).head? != some 48) = true := by
                    have : ((bare a).head? == some 48) = false := by simpa using c5
                    simp only [bne, this]; rfl
                  have hne : (bare a).isEmpty = false := by
                    cases e : bare a with
                    | nil => exact absurd e hbn
                    | cons _ _ => rfl
                  rw [hall, c5', hne]
                  simp
                obtain ⟨v, e1, i, rfl, e2, q⟩ := fin hw
                refine ⟨_, e1, ?_⟩
                try simp only [sSeq, sAsg, sRet, sIf, sDrop, sNext, sNever, dOp, dUn, dVar, dC, dTest, isBool, dAnd, dOr, dNot, dAndV, dOrV, dNotV, dIf, dCons, dNil, dTup, dLst, dLstM, datas, dCall, dCB, gI0, gI, gB0, g1I, gAdd, gEqD, gNeD, gIx, gIn, g1A, g2A, gInt, gLen, gTuple, gSum, gBest, dSl, dNoPart, dPart, dgName, dgTup, dgCons, dgNil, dgSub, gSetI, dIndexT, dChain, startD, List.map_cons, List.map_nil, List.length_cons, List.length_nil, List.replicate, List.append, List.cons_append, List.nil_append, List.getElem?_cons_zero, List.getElem?_cons_succ, List.set_cons_zero, List.set_cons_succ, Option.some.injEq, Dv.d.injEq, Dv.r.injEq, PyData.tuple.injEq, PyData.list.injEq, PyData.str.injEq, PyData.int.injEq, exists_eq_left', Option.map_some, Nat.zero_add, Nat.reduceAdd, Nat.reduceSub, true_and, and_true, exists_and_left, at0, at1, at2, at3, at4, eqv_int, shaped_int, eqv_pr, shaped_pr, bes, intsD, in4, flat4, flatI, Bool.not_eq_true', decide_eq_false_iff_not, not_true_eq_false, if_true, if_false, Bool.not_true, Bool.not_false, Bool.false_eq_true, Bool.true_eq_false, Bool.or_eq_false_iff,  shaped_tn, shaped_hd, shaped_r, decide_eq_true_eq, sizeLine_eq, Nat.reduceLeDiff, Int.reduceToNat, Int.reducePow, Int.reduceMul, Int.reduceAdd, Int.reduceSub, Int.reduceNeg, Int.reduceMod, setM_same, MO.lst.injEq, setM_setM, ix0, ix1, ix2, ix3, ix4, dPick, keyOf, dSlT, dTupRng, gAppend, dAppend, g2B, dM1, eqv_tn, eqv_tnl, shaped_l, dSlM, g1N, dIsi, tyD, gListD, gListM, gTupleM, sPar, dgPair, isT_it, isT_is, isT_ib, isT_ii, isT_tt, gInS, sTry, xCall, xSeq, xIf, xThen, xRaise, dIsE, dNum, dRep1, gAddT, isT_ss, isT_st, isT_ts, dgAny, djNil, djStr, djFmt, gShow, gRmp, gSplit, gJoin, gIntS, gMulS, dAllG, dRev, gListD, gSplitM, gJoinM, gNotInS, gStrI, gMulN, dIns, daAddRep, gEqX, gAddM, gAddT, sTry, sOr, dAlt, xAlt, xRaiseB, sTryP, xCall, xRaise, xIf, xSeq, xThen, dIsX, dMadeP, dMadeN, dStrX, dNum, dCountL, dIndexL, gSFind, dRep1, gListM, cx_K, nox_K, sCont]
                exact ⟨e2, q⟩
        · rw [if_neg (fun h => c3 h.2.2)] at z
          rw [if_pos (by simp [c3])]
          exact z
      · rw [if_neg (fun h => c2 h.2.1)] at z
        rw [if_pos (by simp [c2])]
        exact z
    · rw [rd_ne hne] at z
      rw [if_pos (fun h => hne (by exact_mod_cast h))]
      exact z
theorem sc__law_right : FnScope ["text", "due", "again", "found", "caught", "e"] ["text"] (defScope s__law_right) := ⟨rfl, rfl, rfl, by decide +kernel, rfl, by decide +kernel, by decide +kernel⟩
theorem ok__law_right (T : Tx P w K mg base) : FnOk P w K mg base CX0 3 T.a__law_right T.fd__law_right ["text"] (spD K (F__law_right T.aP)) := by
  refine Fun.okDS T.F__law_right sc__law_right mo__law_right (fun ds m Q h => ?_) (fun cdv A outer s H E hr => ?_)
  · unfold F__law_right at h; obtain ⟨z0, rfl, hz, hP, z⟩ := h; rfl
  · refine ⟨_, (dss_cons (ds_set (i := 1) sc__law_right.nd rfl (by first | exact Or.inl rfl | exact Or.inr rfl) (de_call mo__law_due ((ok__law_due T).mono (by decide : 1 ≤ 2)) hr (by rfl) T.m__law_due T.F__law_due.kp T.n__law_due (da_cons (dv 0) da_nil)))
      (dss_cons (ds_if (DW.dt (dw_and (dt_notN (dv 1)) (dw_and1 (dt_gt (de_abs (by rfl) T.b_abs (da_cons (de_ix (dv 1) de_int) da_nil)) (de_pow de_int de_int))))) (dss_one (ds_ret de_bl)) dss_nil)
      (dss_cons (ds_for PassesOwn.never rfl (di_range1 (by rfl) T.b_range (da_cons de_int da_nil)) (dg_name (i := 2) sc__law_right.nd rfl (by first | exact Or.inl rfl | exact Or.inr rfl)) (dss_cons (ds_set (i := 3) sc__law_right.nd rfl (by first | exact Or.inl rfl | exact Or.inr rfl) de_non)
      (dss_cons (ds_set (i := 4) sc__law_right.nd rfl (by first | exact Or.inl rfl | exact Or.inr rfl) de_non)
      (dss_cons (ds_try3 (iF := 4) (iE := 5) rfl rfl sc__law_right.nd rfl rfl rfl rfl (by rfl) T.m_LaidError T.U T.UB (by exact fun E1 => (dss_one (ds_set (i := 3) sc__law_right.nd rfl (by first | exact Or.inl rfl | exact Or.inr rfl) (de_call mo_read_spiral ((ok_read_spiral T).mono (by decide : 2 ≤ 2)) hr (by rfl) T.m_read_spiral T.F_read_spiral.kp T.n_read_spiral (da_cons (dv 0) da_nil))))) (by exact fun E1 G1 Z1 hZ => rss_never) (by exact fun E1 G1 Z1 hZ => (rss_here (rs_set (re_call hZ moX_read_spiral ((okX_read_spiral T).mono (by decide : 2 ≤ 2)) hr (by rfl) T.m_read_spiral T.F_read_spiral.kp T.n_read_spiral (da_cons (dv 0) da_nil))))))
      (dss_cons (ds_if (DW.dt (dw_and (dt_isN (dv 1)) (dw_and1 (dt_ne hr (de_call mo__law_kind ((ok__law_kind T).mono (by decide : 1 ≤ 2)) hr (by rfl) T.m__law_kind T.F__law_kind.kp T.n__law_kind (da_cons (dv 4) da_nil)) (de_tup (da_cons de_str da_nil)))))) (dss_one (ds_ret de_bl)) dss_nil)
      (dss_cons (ds_if (dt_isN (dv 1)) (dss_one ds_continue) dss_nil)
      (dss_one (ds_if (DW.dt (dw_or (dt_not (dt_val (de_isi (T := "tuple") (by rfl) T.b_isinstance (by rfl) T.b_tuple (by decide +kernel) (by decide) (dv 3)))) (dw_or (dt_ne hr (dv 3) (dv 1)) (dw_or1 (dt_val (de_isi (T := "bool") (by rfl) T.b_isinstance (by rfl) T.b_bool (by decide +kernel) (by decide) (de_ix (dv 3) de_int))))))) (dss_one (ds_ret de_bl)) dss_nil))))))))
      (dss_one (ds_ret de_bl))))), fun ds m Q h => ?_⟩
    obtain ⟨z0, rfl, hz, hP, z⟩ := h
    try simp only [sSeq, sAsg, sRet, sIf, sDrop, sNext, sNever, dOp, dUn, dVar, dC, dTest, isBool, dAnd, dOr, dNot, dAndV, dOrV, dNotV, dIf, dCons, dNil, dTup, dLst, dLstM, datas, dCall, dCB, gI0, gI, gB0, g1I, gAdd, gEqD, gNeD, gIx, gIn, g1A, g2A, gInt, gLen, gTuple, gSum, gBest, dSl, dNoPart, dPart, dgName, dgTup, dgCons, dgNil, dgSub, gSetI, dIndexT, dChain, startD, List.map_cons, List.map_nil, List.length_cons, List.length_nil, List.replicate, List.append, List.cons_append, List.nil_append, List.getElem?_cons_zero, List.getElem?_cons_succ, List.set_cons_zero, List.set_cons_succ, Option.some.injEq, Dv.d.injEq, Dv.r.injEq, PyData.tuple.injEq, PyData.list.injEq, PyData.str.injEq, PyData.int.injEq, exists_eq_left', Option.map_some, Nat.zero_add, Nat.reduceAdd, Nat.reduceSub, true_and, and_true, exists_and_left, at0, at1, at2, at3, at4, eqv_int, shaped_int, eqv_pr, shaped_pr, bes, intsD, in4, flat4, flatI, Bool.not_eq_true', decide_eq_false_iff_not, not_true_eq_false, if_true, if_false, Bool.not_true, Bool.not_false, Bool.false_eq_true, Bool.true_eq_false, Bool.or_eq_false_iff,  shaped_tn, shaped_hd, shaped_r, decide_eq_true_eq, sizeLine_eq, Nat.reduceLeDiff, Int.reduceToNat, Int.reducePow, Int.reduceMul, Int.reduceAdd, Int.reduceSub, Int.reduceNeg, Int.reduceMod, setM_same, MO.lst.injEq, setM_setM, ix0, ix1, ix2, ix3, ix4, dPick, keyOf, dSlT, dTupRng, gAppend, dAppend, g2B, dM1, eqv_tn, eqv_tnl, shaped_l, dSlM, g1N, dIsi, tyD, gListD, gListM, gTupleM, sPar, dgPair, isT_it, isT_is, isT_ib, isT_ii, isT_tt, gInS, sTry, xCall, xSeq, xIf, xThen, xRaise, dIsE, dNum, dRep1, gAddT, isT_ss, isT_st, isT_ts, dgAny, djNil, djStr, djFmt, gShow, gRmp, gSplit, gJoin, gIntS, gMulS, dAllG, dRev, gListD, gSplitM, gJoinM, gNotInS, gStrI, gMulN, dIns, daAddRep, gEqX, gAddM, gAddT, sTry, sOr, dAlt, xAlt, xRaiseB, sTryP, xCall, xRaise, xIf, xSeq, xThen, dIsX, dMadeP, dMadeN, dStrX, dNum, dCountL, dIndexL, gSFind, dRep1, gListM, cx_K, nox_K, sCont]
    refine ⟨z0, rfl, hz, ?_⟩
    have sp : SeqAt.shaped (PyData.tuple [PyData.str (Str.ofString "spiral")]) = true := by decide +kernel
    cases hr0 : rd z0 with
    | none =>
      try simp only [sSeq, sAsg, sRet, sIf, sDrop, sNext, sNever, dOp, dUn, dVar, dC, dTest, isBool, dAnd, dOr, dNot, dAndV, dOrV, dNotV, dIf, dCons, dNil, dTup, dLst, dLstM, datas, dCall, dCB, gI0, gI, gB0, g1I, gAdd, gEqD, gNeD, gIx, gIn, g1A, g2A, gInt, gLen, gTuple, gSum, gBest, dSl, dNoPart, dPart, dgName, dgTup, dgCons, dgNil, dgSub, gSetI, dIndexT, dChain, startD, List.map_cons, List.map_nil, List.length_cons, List.length_nil, List.replicate, List.append, List.cons_append, List.nil_append, List.getElem?_cons_zero, List.getElem?_cons_succ, List.set_cons_zero, List.set_cons_succ, Option.some.injEq, Dv.d.injEq, Dv.r.injEq, PyData.tuple.injEq, PyData.list.injEq, PyData.str.injEq, PyData.int.injEq, exists_eq_left', Option.map_some, Nat.zero_add, Nat.reduceAdd, Nat.reduceSub, true_and, and_true, exists_and_left, at0, at1, at2, at3, at4, eqv_int, shaped_int, eqv_pr, shaped_pr, bes, intsD, in4, flat4, flatI, Bool.not_eq_true', decide_eq_false_iff_not, not_true_eq_false, if_true, if_false, Bool.not_true, Bool.not_false, Bool.false_eq_true, Bool.true_eq_false, Bool.or_eq_false_iff,  shaped_tn, shaped_hd, shaped_r, decide_eq_true_eq, sizeLine_eq, Nat.reduceLeDiff, Int.reduceToNat, Int.reducePow, Int.reduceMul, Int.reduceAdd, Int.reduceSub, Int.reduceNeg, Int.reduceMod, setM_same, MO.lst.injEq, setM_setM, ix0, ix1, ix2, ix3, ix4, dPick, keyOf, dSlT, dTupRng, gAppend, dAppend, g2B, dM1, eqv_tn, eqv_tnl, shaped_l, dSlM, g1N, dIsi, tyD, gListD, gListM, gTupleM, sPar, dgPair, isT_it, isT_is, isT_ib, isT_ii, isT_tt, gInS, sTry, xCall, xSeq, xIf, xThen, xRaise, dIsE, dNum, dRep1, gAddT, isT_ss, isT_st, isT_ts, dgAny, djNil, djStr, djFmt, gShow, gRmp, gSplit, gJoin, gIntS, gMulS, dAllG, dRev, gListD, gSplitM, gJoinM, gNotInS, gStrI, gMulN, dIns, daAddRep, gEqX, gAddM, gAddT, sTry, sOr, dAlt, xAlt, xRaiseB, sTryP, xCall, xRaise, xIf, xSeq, xThen, dIsX, dMadeP, dMadeN, dStrX, dNum, dCountL, dIndexL, gSFind, dRep1, gListM, cx_K, nox_K, sCont]
      refine for_rng 2 (fun R hR => ⟨2, rfl, by decide, hR⟩) (fun i δ m' => ∃ v2 v3 v4 v5 : Option Dv, δ = [some (.d (.str z0)), some (.d .none), v2, v3, v4, v5] ∧ SubM m m') ⟨_, _, _, _, rfl, fun _ _ h => h⟩ ?_ ?_
      · rintro i δ m' hi ⟨v2, v3, v4, v5, rfl, sm⟩
        try simp only [sSeq, sAsg, sRet, sIf, sDrop, sNext, sNever, dOp, dUn, dVar, dC, dTest, isBool, dAnd, dOr, dNot, dAndV, dOrV, dNotV, dIf, dCons, dNil, dTup, dLst, dLstM, datas, dCall, dCB, gI0, gI, gB0, g1I, gAdd, gEqD, gNeD, gIx, gIn, g1A, g2A, gInt, gLen, gTuple, gSum, gBest, dSl, dNoPart, dPart, dgName, dgTup, dgCons, dgNil, dgSub, gSetI, dIndexT, dChain, startD, List.map_cons, List.map_nil, List.length_cons, List.length_nil, List.replicate, List.append, List.cons_append, List.nil_append, List.getElem?_cons_zero, List.getElem?_cons_succ, List.set_cons_zero, List.set_cons_succ, Option.some.injEq, Dv.d.injEq, Dv.r.injEq, PyData.tuple.injEq, PyData.list.injEq, PyData.str.injEq, PyData.int.injEq, exists_eq_left', Option.map_some, Nat.zero_add, Nat.reduceAdd, Nat.reduceSub, true_and, and_true, exists_and_left, at0, at1, at2, at3, at4, eqv_int, shaped_int, eqv_pr, shaped_pr, bes, intsD, in4, flat4, flatI, Bool.not_eq_true', decide_eq_false_iff_not, not_true_eq_false, if_true, if_false, Bool.not_true, Bool.not_false, Bool.false_eq_true, Bool.true_eq_false, Bool.or_eq_false_iff,  shaped_tn, shaped_hd, shaped_r, decide_eq_true_eq, sizeLine_eq, Nat.reduceLeDiff, Int.reduceToNat, Int.reducePow, Int.reduceMul, Int.reduceAdd, Int.reduceSub, Int.reduceNeg, Int.reduceMod, setM_same, MO.lst.injEq, setM_setM, ix0, ix1, ix2, ix3, ix4, dPick, keyOf, dSlT, dTupRng, gAppend, dAppend, g2B, dM1, eqv_tn, eqv_tnl, shaped_l, dSlM, g1N, dIsi, tyD, gListD, gListM, gTupleM, sPar, dgPair, isT_it, isT_is, isT_ib, isT_ii, isT_tt, gInS, sTry, xCall, xSeq, xIf, xThen, xRaise, dIsE, dNum, dRep1, gAddT, isT_ss, isT_st, isT_ts, dgAny, djNil, djStr, djFmt, gShow, gRmp, gSplit, gJoin, gIntS, gMulS, dAllG, dRev, gListD, gSplitM, gJoinM, gNotInS, gStrI, gMulN, dIns, daAddRep, gEqX, gAddM, gAddT, sTry, sOr, dAlt, xAlt, xRaiseB, sTryP, xCall, xRaise, xIf, xSeq, xThen, dIsX, dMadeP, dMadeN, dStrX, dNum, dCountL, dIndexL, gSFind, dRep1, gListM, cx_K, nox_K, sCont]
        refine .inr (.inl ⟨z0, rfl, hz, sm _ _ hP, hr0, fun p hp => ?_⟩)
        try simp only [sSeq, sAsg, sRet, sIf, sDrop, sNext, sNever, dOp, dUn, dVar, dC, dTest, isBool, dAnd, dOr, dNot, dAndV, dOrV, dNotV, dIf, dCons, dNil, dTup, dLst, dLstM, datas, dCall, dCB, gI0, gI, gB0, g1I, gAdd, gEqD, gNeD, gIx, gIn, g1A, g2A, gInt, gLen, gTuple, gSum, gBest, dSl, dNoPart, dPart, dgName, dgTup, dgCons, dgNil, dgSub, gSetI, dIndexT, dChain, startD, List.map_cons, List.map_nil, List.length_cons, List.length_nil, List.replicate, List.append, List.cons_append, List.nil_append, List.getElem?_cons_zero, List.getElem?_cons_succ, List.set_cons_zero, List.set_cons_succ, Option.some.injEq, Dv.d.injEq, Dv.r.injEq, PyData.tuple.injEq, PyData.list.injEq, PyData.str.injEq, PyData.int.injEq, exists_eq_left', Option.map_some, Nat.zero_add, Nat.reduceAdd, Nat.reduceSub, true_and, and_true, exists_and_left, at0, at1, at2, at3, at4, eqv_int, shaped_int, eqv_pr, shaped_pr, bes, intsD, in4, flat4, flatI, Bool.not_eq_true', decide_eq_false_iff_not, not_true_eq_false, if_true, if_false, Bool.not_true, Bool.not_false, Bool.false_eq_true, Bool.true_eq_false, Bool.or_eq_false_iff,  shaped_tn, shaped_hd, shaped_r, decide_eq_true_eq, sizeLine_eq, Nat.reduceLeDiff, Int.reduceToNat, Int.reducePow, Int.reduceMul, Int.reduceAdd, Int.reduceSub, Int.reduceNeg, Int.reduceMod, setM_same, MO.lst.injEq, setM_setM, ix0, ix1, ix2, ix3, ix4, dPick, keyOf, dSlT, dTupRng, gAppend, dAppend, g2B, dM1, eqv_tn, eqv_tnl, shaped_l, dSlM, g1N, dIsi, tyD, gListD, gListM, gTupleM, sPar, dgPair, isT_it, isT_is, isT_ib, isT_ii, isT_tt, gInS, sTry, xCall, xSeq, xIf, xThen, xRaise, dIsE, dNum, dRep1, gAddT, isT_ss, isT_st, isT_ts, dgAny, djNil, djStr, djFmt, gShow, gRmp, gSplit, gJoin, gIntS, gMulS, dAllG, dRev, gListD, gSplitM, gJoinM, gNotInS, gStrI, gMulN, dIns, daAddRep, gEqX, gAddM, gAddT, sTry, sOr, dAlt, xAlt, xRaiseB, sTryP, xCall, xRaise, xIf, xSeq, xThen, dIsX, dMadeP, dMadeN, dStrX, dNum, dCountL, dIndexL, gSFind, dRep1, gListM, cx_K, nox_K, sCont]
        refine ⟨p, rfl, .inl ⟨setM_same, ?_⟩⟩
        try simp only [sSeq, sAsg, sRet, sIf, sDrop, sNext, sNever, dOp, dUn, dVar, dC, dTest, isBool, dAnd, dOr, dNot, dAndV, dOrV, dNotV, dIf, dCons, dNil, dTup, dLst, dLstM, datas, dCall, dCB, gI0, gI, gB0, g1I, gAdd, gEqD, gNeD, gIx, gIn, g1A, g2A, gInt, gLen, gTuple, gSum, gBest, dSl, dNoPart, dPart, dgName, dgTup, dgCons, dgNil, dgSub, gSetI, dIndexT, dChain, startD, List.map_cons, List.map_nil, List.length_cons, List.length_nil, List.replicate, List.append, List.cons_append, List.nil_append, List.getElem?_cons_zero, List.getElem?_cons_succ, List.set_cons_zero, List.set_cons_succ, Option.some.injEq, Dv.d.injEq, Dv.r.injEq, PyData.tuple.injEq, PyData.list.injEq, PyData.str.injEq, PyData.int.injEq, exists_eq_left', Option.map_some, Nat.zero_add, Nat.reduceAdd, Nat.reduceSub, true_and, and_true, exists_and_left, at0, at1, at2, at3, at4, eqv_int, shaped_int, eqv_pr, shaped_pr, bes, intsD, in4, flat4, flatI, Bool.not_eq_true', decide_eq_false_iff_not, not_true_eq_false, if_true, if_false, Bool.not_true, Bool.not_false, Bool.false_eq_true, Bool.true_eq_false, Bool.or_eq_false_iff,  shaped_tn, shaped_hd, shaped_r, decide_eq_true_eq, sizeLine_eq, Nat.reduceLeDiff, Int.reduceToNat, Int.reducePow, Int.reduceMul, Int.reduceAdd, Int.reduceSub, Int.reduceNeg, Int.reduceMod, setM_same, MO.lst.injEq, setM_setM, ix0, ix1, ix2, ix3, ix4, dPick, keyOf, dSlT, dTupRng, gAppend, dAppend, g2B, dM1, eqv_tn, eqv_tnl, shaped_l, dSlM, g1N, dIsi, tyD, gListD, gListM, gTupleM, sPar, dgPair, isT_it, isT_is, isT_ib, isT_ii, isT_tt, gInS, sTry, xCall, xSeq, xIf, xThen, xRaise, dIsE, dNum, dRep1, gAddT, isT_ss, isT_st, isT_ts, dgAny, djNil, djStr, djFmt, gShow, gRmp, gSplit, gJoin, gIntS, gMulS, dAllG, dRev, gListD, gSplitM, gJoinM, gNotInS, gStrI, gMulN, dIns, daAddRep, gEqX, gAddM, gAddT, sTry, sOr, dAlt, xAlt, xRaiseB, sTryP, xCall, xRaise, xIf, xSeq, xThen, dIsX, dMadeP, dMadeN, dStrX, dNum, dCountL, dIndexL, gSFind, dRep1, gListM, cx_K, nox_K, sCont]
        refine ⟨sp, sp, ?_⟩
        rw [K11.eqv_same sp]
        try simp only [sSeq, sAsg, sRet, sIf, sDrop, sNext, sNever, dOp, dUn, dVar, dC, dTest, isBool, dAnd, dOr, dNot, dAndV, dOrV, dNotV, dIf, dCons, dNil, dTup, dLst, dLstM, datas, dCall, dCB, gI0, gI, gB0, g1I, gAdd, gEqD, gNeD, gIx, gIn, g1A, g2A, gInt, gLen, gTuple, gSum, gBest, dSl, dNoPart, dPart, dgName, dgTup, dgCons, dgNil, dgSub, gSetI, dIndexT, dChain, startD, List.map_cons, List.map_nil, List.length_cons, List.length_nil, List.replicate, List.append, List.cons_append, List.nil_append, List.getElem?_cons_zero, List.getElem?_cons_succ, List.set_cons_zero, List.set_cons_succ, Option.some.injEq, Dv.d.injEq, Dv.r.injEq, PyData.tuple.injEq, PyData.list.injEq, PyData.str.injEq, PyData.int.injEq, exists_eq_left', Option.map_some, Nat.zero_add, Nat.reduceAdd, Nat.reduceSub, true_and, and_true, exists_and_left, at0, at1, at2, at3, at4, eqv_int, shaped_int, eqv_pr, shaped_pr, bes, intsD, in4, flat4, flatI, Bool.not_eq_true', decide_eq_false_iff_not, not_true_eq_false, if_true, if_false, Bool.not_true, Bool.not_false, Bool.false_eq_true, Bool.true_eq_false, Bool.or_eq_false_iff,  shaped_tn, shaped_hd, shaped_r, decide_eq_true_eq, sizeLine_eq, Nat.reduceLeDiff, Int.reduceToNat, Int.reducePow, Int.reduceMul, Int.reduceAdd, Int.reduceSub, Int.reduceNeg, Int.reduceMod, setM_same, MO.lst.injEq, setM_setM, ix0, ix1, ix2, ix3, ix4, dPick, keyOf, dSlT, dTupRng, gAppend, dAppend, g2B, dM1, eqv_tn, eqv_tnl, shaped_l, dSlM, g1N, dIsi, tyD, gListD, gListM, gTupleM, sPar, dgPair, isT_it, isT_is, isT_ib, isT_ii, isT_tt, gInS, sTry, xCall, xSeq, xIf, xThen, xRaise, dIsE, dNum, dRep1, gAddT, isT_ss, isT_st, isT_ts, dgAny, djNil, djStr, djFmt, gShow, gRmp, gSplit, gJoin, gIntS, gMulS, dAllG, dRev, gListD, gSplitM, gJoinM, gNotInS, gStrI, gMulN, dIns, daAddRep, gEqX, gAddM, gAddT, sTry, sOr, dAlt, xAlt, xRaiseB, sTryP, xCall, xRaise, xIf, xSeq, xThen, dIsX, dMadeP, dMadeN, dStrX, dNum, dCountL, dIndexL, gSFind, dRep1, gListM, cx_K, nox_K, sCont]
        exact ⟨_, _, _, _, rfl, fun b0 o0 h => sub_new hp b0 o0 (sm b0 o0 h)⟩
      · rintro δ m' ⟨v2, v3, v4, v5, rfl, sm⟩
        try simp only [sSeq, sAsg, sRet, sIf, sDrop, sNext, sNever, dOp, dUn, dVar, dC, dTest, isBool, dAnd, dOr, dNot, dAndV, dOrV, dNotV, dIf, dCons, dNil, dTup, dLst, dLstM, datas, dCall, dCB, gI0, gI, gB0, g1I, gAdd, gEqD, gNeD, gIx, gIn, g1A, g2A, gInt, gLen, gTuple, gSum, gBest, dSl, dNoPart, dPart, dgName, dgTup, dgCons, dgNil, dgSub, gSetI, dIndexT, dChain, startD, List.map_cons, List.map_nil, List.length_cons, List.length_nil, List.replicate, List.append, List.cons_append, List.nil_append, List.getElem?_cons_zero, List.getElem?_cons_succ, List.set_cons_zero, List.set_cons_succ, Option.some.injEq, Dv.d.injEq, Dv.r.injEq, PyData.tuple.injEq, PyData.list.injEq, PyData.str.injEq, PyData.int.injEq, exists_eq_left', Option.map_some, Nat.zero_add, Nat.reduceAdd, Nat.reduceSub, true_and, and_true, exists_and_left, at0, at1, at2, at3, at4, eqv_int, shaped_int, eqv_pr, shaped_pr, bes, intsD, in4, flat4, flatI, Bool.not_eq_true', decide_eq_false_iff_not, not_true_eq_false, if_true, if_false, Bool.not_true, Bool.not_false, Bool.false_eq_true, Bool.true_eq_false, Bool.or_eq_false_iff,  shaped_tn, shaped_hd, shaped_r, decide_eq_true_eq, sizeLine_eq, Nat.reduceLeDiff, Int.reduceToNat, Int.reducePow, Int.reduceMul, Int.reduceAdd, Int.reduceSub, Int.reduceNeg, Int.reduceMod, setM_same, MO.lst.injEq, setM_setM, ix0, ix1, ix2, ix3, ix4, dPick, keyOf, dSlT, dTupRng, gAppend, dAppend, g2B, dM1, eqv_tn, eqv_tnl, shaped_l, dSlM, g1N, dIsi, tyD, gListD, gListM, gTupleM, sPar, dgPair, isT_it, isT_is, isT_ib, isT_ii, isT_tt, gInS, sTry, xCall, xSeq, xIf, xThen, xRaise, dIsE, dNum, dRep1, gAddT, isT_ss, isT_st, isT_ts, dgAny, djNil, djStr, djFmt, gShow, gRmp, gSplit, gJoin, gIntS, gMulS, dAllG, dRev, gListD, gSplitM, gJoinM, gNotInS, gStrI, gMulN, dIns, daAddRep, gEqX, gAddM, gAddT, sTry, sOr, dAlt, xAlt, xRaiseB, sTryP, xCall, xRaise, xIf, xSeq, xThen, dIsX, dMadeP, dMadeN, dStrX, dNum, dCountL, dIndexL, gSFind, dRep1, gListM, cx_K, nox_K, sCont]
        exact ⟨m, sm, z⟩
    | some t =>
      obtain ⟨a, b, c⟩ := t
      simp only [tri]
      try simp only [sSeq, sAsg, sRet, sIf, sDrop, sNext, sNever, dOp, dUn, dVar, dC, dTest, isBool, dAnd, dOr, dNot, dAndV, dOrV, dNotV, dIf, dCons, dNil, dTup, dLst, dLstM, datas, dCall, dCB, gI0, gI, gB0, g1I, gAdd, gEqD, gNeD, gIx, gIn, g1A, g2A, gInt, gLen, gTuple, gSum, gBest, dSl, dNoPart, dPart, dgName, dgTup, dgCons, dgNil, dgSub, gSetI, dIndexT, dChain, startD, List.map_cons, List.map_nil, List.length_cons, List.length_nil, List.replicate, List.append, List.cons_append, List.nil_append, List.getElem?_cons_zero, List.getElem?_cons_succ, List.set_cons_zero, List.set_cons_succ, Option.some.injEq, Dv.d.injEq, Dv.r.injEq, PyData.tuple.injEq, PyData.list.injEq, PyData.str.injEq, PyData.int.injEq, exists_eq_left', Option.map_some, Nat.zero_add, Nat.reduceAdd, Nat.reduceSub, true_and, and_true, exists_and_left, at0, at1, at2, at3, at4, eqv_int, shaped_int, eqv_pr, shaped_pr, bes, intsD, in4, flat4, flatI, Bool.not_eq_true', decide_eq_false_iff_not, not_true_eq_false, if_true, if_false, Bool.not_true, Bool.not_false, Bool.false_eq_true, Bool.true_eq_false, Bool.or_eq_false_iff,  shaped_tn, shaped_hd, shaped_r, decide_eq_true_eq, sizeLine_eq, Nat.reduceLeDiff, Int.reduceToNat, Int.reducePow, Int.reduceMul, Int.reduceAdd, Int.reduceSub, Int.reduceNeg, Int.reduceMod, setM_same, MO.lst.injEq, setM_setM, ix0, ix1, ix2, ix3, ix4, dPick, keyOf, dSlT, dTupRng, gAppend, dAppend, g2B, dM1, eqv_tn, eqv_tnl, shaped_l, dSlM, g1N, dIsi, tyD, gListD, gListM, gTupleM, sPar, dgPair, isT_it, isT_is, isT_ib, isT_ii, isT_tt, gInS, sTry, xCall, xSeq, xIf, xThen, xRaise, dIsE, dNum, dRep1, gAddT, isT_ss, isT_st, isT_ts, dgAny, djNil, djStr, djFmt, gShow, gRmp, gSplit, gJoin, gIntS, gMulS, dAllG, dRev, gListD, gSplitM, gJoinM, gNotInS, gStrI, gMulN, dIns, daAddRep, gEqX, gAddM, gAddT, sTry, sOr, dAlt, xAlt, xRaiseB, sTryP, xCall, xRaise, xIf, xSeq, xThen, dIsX, dMadeP, dMadeN, dStrX, dNum, dCountL, dIndexL, gSFind, dRep1, gListM, cx_K, nox_K, sCont]
      refine ⟨by unfold CPow; decide, ?_⟩
      by_cases cv : (1000000000000000000 : Int) < absI (val a)
      · rw [if_pos cv]
        exact ⟨m, fun _ _ h => h, z⟩
      · rw [if_neg cv]
        have hv : -(10 ^ 18) ≤ val a ∧ val a ≤ 10 ^ 18 := by unfold absI at cv; split at cv <;> omega
        obtain ⟨hb, hc⟩ := rd_cp hr0 hz.2
        have s3 := shaped_3 (val a) hb hc
        refine for_rng 2 (fun R hR => ⟨2, rfl, by decide, hR⟩) (fun i δ m' => ∃ v2 v3 v4 v5 : Option Dv, δ = [some (.d (.str z0)), some (.d (.tuple [.int (val a), .str b, .str c])), v2, v3, v4, v5] ∧ SubM m m') ⟨_, _, _, _, rfl, fun _ _ h => h⟩ ?_ ?_
        · rintro i δ m' hi ⟨v2, v3, v4, v5, rfl, sm⟩
          try simp only [sSeq, sAsg, sRet, sIf, sDrop, sNext, sNever, dOp, dUn, dVar, dC, dTest, isBool, dAnd, dOr, dNot, dAndV, dOrV, dNotV, dIf, dCons, dNil, dTup, dLst, dLstM, datas, dCall, dCB, gI0, gI, gB0, g1I, gAdd, gEqD, gNeD, gIx, gIn, g1A, g2A, gInt, gLen, gTuple, gSum, gBest, dSl, dNoPart, dPart, dgName, dgTup, dgCons, dgNil, dgSub, gSetI, dIndexT, dChain, startD, List.map_cons, List.map_nil, List.length_cons, List.length_nil, List.replicate, List.append, List.cons_append, List.nil_append, List.getElem?_cons_zero, List.getElem?_cons_succ, List.set_cons_zero, List.set_cons_succ, Option.some.injEq, Dv.d.injEq, Dv.r.injEq, PyData.tuple.injEq, PyData.list.injEq, PyData.str.injEq, PyData.int.injEq, exists_eq_left', Option.map_some, Nat.zero_add, Nat.reduceAdd, Nat.reduceSub, true_and, and_true, exists_and_left, at0, at1, at2, at3, at4, eqv_int, shaped_int, eqv_pr, shaped_pr, bes, intsD, in4, flat4, flatI, Bool.not_eq_true', decide_eq_false_iff_not, not_true_eq_false, if_true, if_false, Bool.not_true, Bool.not_false, Bool.false_eq_true, Bool.true_eq_false, Bool.or_eq_false_iff,  shaped_tn, shaped_hd, shaped_r, decide_eq_true_eq, sizeLine_eq, Nat.reduceLeDiff, Int.reduceToNat, Int.reducePow, Int.reduceMul, Int.reduceAdd, Int.reduceSub, Int.reduceNeg, Int.reduceMod, setM_same, MO.lst.injEq, setM_setM, ix0, ix1, ix2, ix3, ix4, dPick, keyOf, dSlT, dTupRng, gAppend, dAppend, g2B, dM1, eqv_tn, eqv_tnl, shaped_l, dSlM, g1N, dIsi, tyD, gListD, gListM, gTupleM, sPar, dgPair, isT_it, isT_is, isT_ib, isT_ii, isT_tt, gInS, sTry, xCall, xSeq, xIf, xThen, xRaise, dIsE, dNum, dRep1, gAddT, isT_ss, isT_st, isT_ts, dgAny, djNil, djStr, djFmt, gShow, gRmp, gSplit, gJoin, gIntS, gMulS, dAllG, dRev, gListD, gSplitM, gJoinM, gNotInS, gStrI, gMulN, dIns, daAddRep, gEqX, gAddM, gAddT, sTry, sOr, dAlt, xAlt, xRaiseB, sTryP, xCall, xRaise, xIf, xSeq, xThen, dIsX, dMadeP, dMadeN, dStrX, dNum, dCountL, dIndexL, gSFind, dRep1, gListM, cx_K, nox_K, sCont]
          refine .inr (.inr ⟨z0, a, b, c, rfl, hz, sm _ _ hP, hr0, hv, ?_⟩)
          simp only [tri]
          try simp only [sSeq, sAsg, sRet, sIf, sDrop, sNext, sNever, dOp, dUn, dVar, dC, dTest, isBool, dAnd, dOr, dNot, dAndV, dOrV, dNotV, dIf, dCons, dNil, dTup, dLst, dLstM, datas, dCall, dCB, gI0, gI, gB0, g1I, gAdd, gEqD, gNeD, gIx, gIn, g1A, g2A, gInt, gLen, gTuple, gSum, gBest, dSl, dNoPart, dPart, dgName, dgTup, dgCons, dgNil, dgSub, gSetI, dIndexT, dChain, startD, List.map_cons, List.map_nil, List.length_cons, List.length_nil, List.replicate, List.append, List.cons_append, List.nil_append, List.getElem?_cons_zero, List.getElem?_cons_succ, List.set_cons_zero, List.set_cons_succ, Option.some.injEq, Dv.d.injEq, Dv.r.injEq, PyData.tuple.injEq, PyData.list.injEq, PyData.str.injEq, PyData.int.injEq, exists_eq_left', Option.map_some, Nat.zero_add, Nat.reduceAdd, Nat.reduceSub, true_and, and_true, exists_and_left, at0, at1, at2, at3, at4, eqv_int, shaped_int, eqv_pr, shaped_pr, bes, intsD, in4, flat4, flatI, Bool.not_eq_true', decide_eq_false_iff_not, not_true_eq_false, if_true, if_false, Bool.not_true, Bool.not_false, Bool.false_eq_true, Bool.true_eq_false, Bool.or_eq_false_iff,  shaped_tn, shaped_hd, shaped_r, decide_eq_true_eq, sizeLine_eq, Nat.reduceLeDiff, Int.reduceToNat, Int.reducePow, Int.reduceMul, Int.reduceAdd, Int.reduceSub, Int.reduceNeg, Int.reduceMod, setM_same, MO.lst.injEq, setM_setM, ix0, ix1, ix2, ix3, ix4, dPick, keyOf, dSlT, dTupRng, gAppend, dAppend, g2B, dM1, eqv_tn, eqv_tnl, shaped_l, dSlM, g1N, dIsi, tyD, gListD, gListM, gTupleM, sPar, dgPair, isT_it, isT_is, isT_ib, isT_ii, isT_tt, gInS, sTry, xCall, xSeq, xIf, xThen, xRaise, dIsE, dNum, dRep1, gAddT, isT_ss, isT_st, isT_ts, dgAny, djNil, djStr, djFmt, gShow, gRmp, gSplit, gJoin, gIntS, gMulS, dAllG, dRev, gListD, gSplitM, gJoinM, gNotInS, gStrI, gMulN, dIns, daAddRep, gEqX, gAddM, gAddT, sTry, sOr, dAlt, xAlt, xRaiseB, sTryP, xCall, xRaise, xIf, xSeq, xThen, dIsX, dMadeP, dMadeN, dStrX, dNum, dCountL, dIndexL, gSFind, dRep1, gListM, cx_K, nox_K, sCont]
          refine ⟨s3, s3, ?_⟩
          rw [K11.eqv_same s3]
          try simp only [sSeq, sAsg, sRet, sIf, sDrop, sNext, sNever, dOp, dUn, dVar, dC, dTest, isBool, dAnd, dOr, dNot, dAndV, dOrV, dNotV, dIf, dCons, dNil, dTup, dLst, dLstM, datas, dCall, dCB, gI0, gI, gB0, g1I, gAdd, gEqD, gNeD, gIx, gIn, g1A, g2A, gInt, gLen, gTuple, gSum, gBest, dSl, dNoPart, dPart, dgName, dgTup, dgCons, dgNil, dgSub, gSetI, dIndexT, dChain, startD, List.map_cons, List.map_nil, List.length_cons, List.length_nil, List.replicate, List.append, List.cons_append, List.nil_append, List.getElem?_cons_zero, List.getElem?_cons_succ, List.set_cons_zero, List.set_cons_succ, Option.some.injEq, Dv.d.injEq, Dv.r.injEq, PyData.tuple.injEq, PyData.list.injEq, PyData.str.injEq, PyData.int.injEq, exists_eq_left', Option.map_some, Nat.zero_add, Nat.reduceAdd, Nat.reduceSub, true_and, and_true, exists_and_left, at0, at1, at2, at3, at4, eqv_int, shaped_int, eqv_pr, shaped_pr, bes, intsD, in4, flat4, flatI, Bool.not_eq_true', decide_eq_false_iff_not, not_true_eq_false, if_true, if_false, Bool.not_true, Bool.not_false, Bool.false_eq_true, Bool.true_eq_false, Bool.or_eq_false_iff,  shaped_tn, shaped_hd, shaped_r, decide_eq_true_eq, sizeLine_eq, Nat.reduceLeDiff, Int.reduceToNat, Int.reducePow, Int.reduceMul, Int.reduceAdd, Int.reduceSub, Int.reduceNeg, Int.reduceMod, setM_same, MO.lst.injEq, setM_setM, ix0, ix1, ix2, ix3, ix4, dPick, keyOf, dSlT, dTupRng, gAppend, dAppend, g2B, dM1, eqv_tn, eqv_tnl, shaped_l, dSlM, g1N, dIsi, tyD, gListD, gListM, gTupleM, sPar, dgPair, isT_it, isT_is, isT_ib, isT_ii, isT_tt, gInS, sTry, xCall, xSeq, xIf, xThen, xRaise, dIsE, dNum, dRep1, gAddT, isT_ss, isT_st, isT_ts, dgAny, djNil, djStr, djFmt, gShow, gRmp, gSplit, gJoin, gIntS, gMulS, dAllG, dRev, gListD, gSplitM, gJoinM, gNotInS, gStrI, gMulN, dIns, daAddRep, gEqX, gAddM, gAddT, sTry, sOr, dAlt, xAlt, xRaiseB, sTryP, xCall, xRaise, xIf, xSeq, xThen, dIsX, dMadeP, dMadeN, dStrX, dNum, dCountL, dIndexL, gSFind, dRep1, gListM, cx_K, nox_K, sCont]
          exact ⟨_, _, _, _, rfl, sm⟩
        · rintro δ m' ⟨v2, v3, v4, v5, rfl, sm⟩
          try simp only [sSeq, sAsg, sRet, sIf, sDrop, sNext, sNever, dOp, dUn, dVar, dC, dTest, isBool, dAnd, dOr, dNot, dAndV, dOrV, dNotV, dIf, dCons, dNil, dTup, dLst, dLstM, datas, dCall, dCB, gI0, gI, gB0, g1I, gAdd, gEqD, gNeD, gIx, gIn, g1A, g2A, gInt, gLen, gTuple, gSum, gBest, dSl, dNoPart, dPart, dgName, dgTup, dgCons, dgNil, dgSub, gSetI, dIndexT, dChain, startD, List.map_cons, List.map_nil, List.length_cons, List.length_nil, List.replicate, List.append, List.cons_append, List.nil_append, List.getElem?_cons_zero, List.getElem?_cons_succ, List.set_cons_zero, List.set_cons_succ, Option.some.injEq, Dv.d.injEq, Dv.r.injEq, PyData.tuple.injEq, PyData.list.injEq, PyData.str.injEq, PyData.int.injEq, exists_eq_left', Option.map_some, Nat.zero_add, Nat.reduceAdd, Nat.reduceSub, true_and, and_true, exists_and_left, at0, at1, at2, at3, at4, eqv_int, shaped_int, eqv_pr, shaped_pr, bes, intsD, in4, flat4, flatI, Bool.not_eq_true', decide_eq_false_iff_not, not_true_eq_false, if_true, if_false, Bool.not_true, Bool.not_false, Bool.false_eq_true, Bool.true_eq_false, Bool.or_eq_false_iff,  shaped_tn, shaped_hd, shaped_r, decide_eq_true_eq, sizeLine_eq, Nat.reduceLeDiff, Int.reduceToNat, Int.reducePow, Int.reduceMul, Int.reduceAdd, Int.reduceSub, Int.reduceNeg, Int.reduceMod, setM_same, MO.lst.injEq, setM_setM, ix0, ix1, ix2, ix3, ix4, dPick, keyOf, dSlT, dTupRng, gAppend, dAppend, g2B, dM1, eqv_tn, eqv_tnl, shaped_l, dSlM, g1N, dIsi, tyD, gListD, gListM, gTupleM, sPar, dgPair, isT_it, isT_is, isT_ib, isT_ii, isT_tt, gInS, sTry, xCall, xSeq, xIf, xThen, xRaise, dIsE, dNum, dRep1, gAddT, isT_ss, isT_st, isT_ts, dgAny, djNil, djStr, djFmt, gShow, gRmp, gSplit, gJoin, gIntS, gMulS, dAllG, dRev, gListD, gSplitM, gJoinM, gNotInS, gStrI, gMulN, dIns, daAddRep, gEqX, gAddM, gAddT, sTry, sOr, dAlt, xAlt, xRaiseB, sTryP, xCall, xRaise, xIf, xSeq, xThen, dIsX, dMadeP, dMadeN, dStrX, dNum, dCountL, dIndexL, gSFind, dRep1, gListM, cx_K, nox_K, sCont]
          exact ⟨m, sm, z⟩
theorem sc_law : FnScope ["script", "deck", "turn", "spiral", "text", "some", "k", "odd", "said", "fixed"] ["script"] (defScope s_law) := ⟨rfl, rfl, rfl, by decide +kernel, rfl, by decide +kernel, by decide +kernel⟩
theorem ok_law (T : Tx P w K mg base) : FnOk P w K mg base CX0 5 T.a_law T.fd_law ["script"] (spD K (F_law T.aP)) := by
  refine Fun.okD T.F_law sc_law mo_law (fun ds m Q h => ?_) (fun cdv A outer s H E hr => ?_)
  · unfold F_law at h; obtain ⟨ns, rfl, l, hP, z⟩ := h; rfl
  · refine ⟨_, (dss_cons (ds_set (i := 1) sc_law.nd rfl (by first | exact Or.inl rfl | exact Or.inr rfl) (de_call mo__law_deck ((ok__law_deck T).mono (by decide : 1 ≤ 4)) hr (by rfl) T.m__law_deck T.F__law_deck.kp T.n__law_deck (da_cons (dv 0) da_nil)))
      (dss_cons (ds_for PassesOwn.never rfl (di_range1 (by rfl) T.b_range (da_cons de_int da_nil)) (dg_name (i := 2) sc_law.nd rfl (by first | exact Or.inl rfl | exact Or.inr rfl)) (dss_cons (ds_set (i := 3) sc_law.nd rfl (by first | exact Or.inl rfl | exact Or.inr rfl) (de_call mo__law_spiral ((ok__law_spiral T).mono (by decide : 4 ≤ 4)) hr (by rfl) T.m__law_spiral T.F__law_spiral.kp T.n__law_spiral (da_cons (dv 1) da_nil)))
      (dss_cons (ds_set (i := 4) sc_law.nd rfl (by first | exact Or.inl rfl | exact Or.inr rfl) (de_joinL de_str (de_lst (da_cons (de_strI (by rfl) T.b_str (da_cons (de_ix (dv 3) de_int) da_nil)) (da_cons (de_ix (dv 3) de_int) (da_cons (de_ix (dv 3) de_int) da_nil))))))
      (dss_cons (ds_setLc (k := 5) rfl sc_law.nd rfl rfl (sw_true rfl rfl rfl (by decide +kernel)) (di_range1 (by rfl) T.b_range (da_cons de_int da_nil)) (blkOk_by (own := [("k", 6)]) (N := ["script", "deck", "turn", "spiral", "text", "some", "k", "odd", "said", "fixed"]) (sc := defScope s_law) (by decide +kernel)) rfl (fun _ _ _ _ _ => rfl) (fun _ _ _ _ _ => dts_nil) (fun _ _ _ _ _ => (de_call mo__law_spoilt ((ok__law_spoilt T).mono (by decide : 4 ≤ 4)) hr (by rfl) T.m__law_spoilt T.F__law_spoilt.kp T.n__law_spoilt (da_cons (dv 1) (da_cons (dv 4) da_nil)))))
      (dss_cons (ds_set (i := 5) sc_law.nd rfl (by first | exact Or.inl rfl | exact Or.inr rfl) (de_addM (dv 5) (de_lst (da_cons (de_add de_str (dv 4)) (da_cons (de_add (dv 4) de_str) (da_cons (de_add (dv 4) de_str) (da_cons (de_add de_str (dv 4)) (da_addRep (i := 4) rfl (by first | exact Or.inl rfl | exact Or.inr (Or.inl rfl) | exact Or.inr (Or.inr rfl)) (by decide +kernel) (by decide +kernel) (by decide +kernel) (by decide +kernel) (da_cons (dv 4) da_nil)))))))))
      (dss_cons (ds_expr (de_append (dv 5) (de_add (de_mulN (de_add (dv 4) de_str) de_int) (de_call mo__law_sign ((ok__law_sign T).mono (by decide : 3 ≤ 4)) hr (by rfl) T.m__law_sign T.F__law_sign.kp T.n__law_sign (da_cons (dv 1) da_nil)))))
      (dss_one (ds_if (dt_ne hr (de_lc rfl sc_law.nd (di_listA (de_addM (dv 5) (de_lst (da_cons (de_call mo__law_sign ((ok__law_sign T).mono (by decide : 3 ≤ 4)) hr (by rfl) T.m__law_sign T.F__law_sign.kp T.n__law_sign (da_cons (dv 1) da_nil)) (da_cons (de_slice (dv 4) do_none (do_some (de_neg de_int))) da_nil))))) (blkOk_by (own := [("odd", 7)]) (N := ["script", "deck", "turn", "spiral", "text", "some", "k", "odd", "said", "fixed"]) (sc := defScope s_law) (by decide +kernel)) rfl (fun _ _ _ _ _ => rfl) (fun _ _ _ _ _ => (dts_one (dt_not (dt_val (de_call mo__law_right ((ok__law_right T).mono (by decide : 3 ≤ 4)) hr (by rfl) T.m__law_right T.F__law_right.kp T.n__law_right (da_cons (dv 7) da_nil)))))) (fun _ _ _ _ _ => (dv 7))) (de_lst da_nil)) (dss_one (ds_ret de_bl)) dss_nil))))))))
      (dss_cons (ds_set (i := 8) sc_law.nd rfl (by first | exact Or.inl rfl | exact Or.inr rfl) (de_ix (de_lst (da_cons de_str (da_cons de_str (da_cons de_str (da_cons (de_add (de_mulN de_str de_int) de_str) da_nil))))) (de_call mo__law_next ((ok__law_next T).mono (by decide : 2 ≤ 4)) hr (by rfl) T.m__law_next T.F__law_next.kp T.n__law_next (da_cons (dv 1) (da_cons de_int da_nil)))))
      (dss_cons (ds_if (dt_ne hr (de_lst (da_cons (de_strX hr (strX3 T.S_NoBox T.S_NoSpiral T.S_NoAsk) (by rfl) T.b_str (de_madeP T.P_NoAsk (by rfl) T.m_NoAsk (dv 8))) (da_cons (de_strX hr (strX3 T.S_NoBox T.S_NoSpiral T.S_NoAsk) (by rfl) T.b_str (de_madeP T.P_NoBox (by rfl) T.m_NoBox (dv 8))) (da_cons (de_strX hr (strX3 T.S_NoBox T.S_NoSpiral T.S_NoAsk) (by rfl) T.b_str (de_madeP T.P_NoSpiral (by rfl) T.m_NoSpiral (dv 8))) da_nil)))) (de_rep1 (dv 8) de_int)) (dss_one (ds_ret de_bl)) dss_nil)
      (dss_cons (ds_if (dt_ne hr (de_call mo__law_kind ((ok__law_kind T).mono (by decide : 1 ≤ 4)) hr (by rfl) T.m__law_kind T.F__law_kind.kp T.n__law_kind (da_cons (de_madeN (T.Nu _) (hr.mono (by decide : 1 ≤ 4)) (by rfl) T.m_NoNumber (de_neg de_int)) da_nil)) (de_tup (da_cons de_str (da_cons (de_neg de_int) da_nil)))) (dss_one (ds_ret de_bl)) dss_nil)
      (dss_cons (ds_set (i := 9) sc_law.nd rfl (by first | exact Or.inl rfl | exact Or.inr rfl) (de_lst (da_cons de_str (da_cons de_str (da_cons de_str (da_cons de_str (da_cons de_str (da_cons de_str (da_cons de_str (da_cons de_str (da_cons de_str (da_cons de_str (da_cons de_str (da_cons (de_mulN de_str de_int) da_nil))))))))))))))
      (dss_one (ds_ret (de_eq hr (de_lc rfl sc_law.nd (di_list (dv 9)) (blkOk_by (own := [("text", 4)]) (N := ["script", "deck", "turn", "spiral", "text", "some", "k", "odd", "said", "fixed"]) (sc := defScope s_law) (by decide +kernel)) rfl (fun _ _ _ _ _ => rfl) (fun _ _ _ _ _ => (dts_one (dt_not (dt_val (de_call mo__law_right ((ok__law_right T).mono (by decide : 3 ≤ 4)) hr (by rfl) T.m__law_right T.F__law_right.kp T.n__law_right (da_cons (dv 4) da_nil)))))) (fun _ _ _ _ _ => (dv 4))) (de_lst da_nil)))))))))), fun ds m Q h => ?_⟩
    obtain ⟨ns, rfl, l, hP, z⟩ := h
    try simp only [sSeq, sAsg, sRet, sIf, sDrop, sNext, sNever, dOp, dUn, dVar, dC, dTest, isBool, dAnd, dOr, dNot, dAndV, dOrV, dNotV, dIf, dCons, dNil, dTup, dLst, dLstM, datas, dCall, dCB, gI0, gI, gB0, g1I, gAdd, gEqD, gNeD, gIx, gIn, g1A, g2A, gInt, gLen, gTuple, gSum, gBest, dSl, dNoPart, dPart, dgName, dgTup, dgCons, dgNil, dgSub, gSetI, dIndexT, dChain, startD, List.map_cons, List.map_nil, List.length_cons, List.length_nil, List.replicate, List.append, List.cons_append, List.nil_append, List.getElem?_cons_zero, List.getElem?_cons_succ, List.set_cons_zero, List.set_cons_succ, Option.some.injEq, Dv.d.injEq, Dv.r.injEq, PyData.tuple.injEq, PyData.list.injEq, PyData.str.injEq, PyData.int.injEq, exists_eq_left', Option.map_some, Nat.zero_add, Nat.reduceAdd, Nat.reduceSub, true_and, and_true, exists_and_left, at0, at1, at2, at3, at4, eqv_int, shaped_int, eqv_pr, shaped_pr, bes, intsD, in4, flat4, flatI, Bool.not_eq_true', decide_eq_false_iff_not, not_true_eq_false, if_true, if_false, Bool.not_true, Bool.not_false, Bool.false_eq_true, Bool.true_eq_false, Bool.or_eq_false_iff,  shaped_tn, shaped_hd, shaped_r, decide_eq_true_eq, sizeLine_eq, Nat.reduceLeDiff, Int.reduceToNat, Int.reducePow, Int.reduceMul, Int.reduceAdd, Int.reduceSub, Int.reduceNeg, Int.reduceMod, setM_same, MO.lst.injEq, setM_setM, ix0, ix1, ix2, ix3, ix4, dPick, keyOf, dSlT, dTupRng, gAppend, dAppend, g2B, dM1, eqv_tn, eqv_tnl, shaped_l, dSlM, g1N, dIsi, tyD, gListD, gListM, gTupleM, sPar, dgPair, isT_it, isT_is, isT_ib, isT_ii, isT_tt, gInS, sTry, xCall, xSeq, xIf, xThen, xRaise, dIsE, dNum, dRep1, gAddT, isT_ss, isT_st, isT_ts, dgAny, djNil, djStr, djFmt, gShow, gRmp, gSplit, gJoin, gIntS, gMulS, dAllG, dRev, gListD, gSplitM, gJoinM, gNotInS, gStrI, gMulN, dIns, daAddRep, gEqX, gAddM, gAddT, sTry, sOr, dAlt, xAlt, xRaiseB, sTryP, xCall, xRaise, xIf, xSeq, xThen, dIsX, dMadeP, dMadeN, dStrX, dNum, dCountL, dIndexL, gSFind, dRep1, gListM, cx_K, nox_K, sCont]
    refine ⟨ns, rfl, l, fun p o hp hd => ?_⟩
    have pP : p ≠ T.aP := fun e => by rw [e, hP] at hp; cases hp
    have hPp : ∀ o', setM m p o' T.aP = some mTbl := fun o' => by rw [setM_ne (Ne.symm pP)]; exact hP
    try simp only [sSeq, sAsg, sRet, sIf, sDrop, sNext, sNever, dOp, dUn, dVar, dC, dTest, isBool, dAnd, dOr, dNot, dAndV, dOrV, dNotV, dIf, dCons, dNil, dTup, dLst, dLstM, datas, dCall, dCB, gI0, gI, gB0, g1I, gAdd, gEqD, gNeD, gIx, gIn, g1A, g2A, gInt, gLen, gTuple, gSum, gBest, dSl, dNoPart, dPart, dgName, dgTup, dgCons, dgNil, dgSub, gSetI, dIndexT, dChain, startD, List.map_cons, List.map_nil, List.length_cons, List.length_nil, List.replicate, List.append, List.cons_append, List.nil_append, List.getElem?_cons_zero, List.getElem?_cons_succ, List.set_cons_zero, List.set_cons_succ, Option.some.injEq, Dv.d.injEq, Dv.r.injEq, PyData.tuple.injEq, PyData.list.injEq, PyData.str.injEq, PyData.int.injEq, exists_eq_left', Option.map_some, Nat.zero_add, Nat.reduceAdd, Nat.reduceSub, true_and, and_true, exists_and_left, at0, at1, at2, at3, at4, eqv_int, shaped_int, eqv_pr, shaped_pr, bes, intsD, in4, flat4, flatI, Bool.not_eq_true', decide_eq_false_iff_not, not_true_eq_false, if_true, if_false, Bool.not_true, Bool.not_false, Bool.false_eq_true, Bool.true_eq_false, Bool.or_eq_false_iff,  shaped_tn, shaped_hd, shaped_r, decide_eq_true_eq, sizeLine_eq, Nat.reduceLeDiff, Int.reduceToNat, Int.reducePow, Int.reduceMul, Int.reduceAdd, Int.reduceSub, Int.reduceNeg, Int.reduceMod, setM_same, MO.lst.injEq, setM_setM, ix0, ix1, ix2, ix3, ix4, dPick, keyOf, dSlT, dTupRng, gAppend, dAppend, g2B, dM1, eqv_tn, eqv_tnl, shaped_l, dSlM, g1N, dIsi, tyD, gListD, gListM, gTupleM, sPar, dgPair, isT_it, isT_is, isT_ib, isT_ii, isT_tt, gInS, sTry, xCall, xSeq, xIf, xThen, xRaise, dIsE, dNum, dRep1, gAddT, isT_ss, isT_st, isT_ts, dgAny, djNil, djStr, djFmt, gShow, gRmp, gSplit, gJoin, gIntS, gMulS, dAllG, dRev, gListD, gSplitM, gJoinM, gNotInS, gStrI, gMulN, dIns, daAddRep, gEqX, gAddM, gAddT, sTry, sOr, dAlt, xAlt, xRaiseB, sTryP, xCall, xRaise, xIf, xSeq, xThen, dIsX, dMadeP, dMadeN, dStrX, dNum, dCountL, dIndexL, gSFind, dRep1, gListM, cx_K, nox_K, sCont]
    refine for_rng 6 (fun R hR => ⟨6, rfl, by decide, hR⟩) (fun i δ m' => ∃ (v2 v3 v4 v5 v6 v7 : Option Dv) (o' : MO), δ = [some (.d (.list (ns.map .int))), some (.r p), v2, v3, v4, v5, v6, v7, none, none] ∧ m' p = some o' ∧ DeckIs o' (300 * i) ∧ m' T.aP = some mTbl) ⟨_, _, _, _, _, _, o, rfl, setM_same, hd, hPp _⟩ ?_ ?_
    · rintro i δ m' hi ⟨v2, v3, v4, v5, v6, v7, o', rfl, mp, d', mP⟩
      try simp only [sSeq, sAsg, sRet, sIf, sDrop, sNext, sNever, dOp, dUn, dVar, dC, dTest, isBool, dAnd, dOr, dNot, dAndV, dOrV, dNotV, dIf, dCons, dNil, dTup, dLst, dLstM, datas, dCall, dCB, gI0, gI, gB0, g1I, gAdd, gEqD, gNeD, gIx, gIn, g1A, g2A, gInt, gLen, gTuple, gSum, gBest, dSl, dNoPart, dPart, dgName, dgTup, dgCons, dgNil, dgSub, gSetI, dIndexT, dChain, startD, List.map_cons, List.map_nil, List.length_cons, List.length_nil, List.replicate, List.append, List.cons_append, List.nil_append, List.getElem?_cons_zero, List.getElem?_cons_succ, List.set_cons_zero, List.set_cons_succ, Option.some.injEq, Dv.d.injEq, Dv.r.injEq, PyData.tuple.injEq, PyData.list.injEq, PyData.str.injEq, PyData.int.injEq, exists_eq_left', Option.map_some, Nat.zero_add, Nat.reduceAdd, Nat.reduceSub, true_and, and_true, exists_and_left, at0, at1, at2, at3, at4, eqv_int, shaped_int, eqv_pr, shaped_pr, bes, intsD, in4, flat4, flatI, Bool.not_eq_true', decide_eq_false_iff_not, not_true_eq_false, if_true, if_false, Bool.not_true, Bool.not_false, Bool.false_eq_true, Bool.true_eq_false, Bool.or_eq_false_iff,  shaped_tn, shaped_hd, shaped_r, decide_eq_true_eq, sizeLine_eq, Nat.reduceLeDiff, Int.reduceToNat, Int.reducePow, Int.reduceMul, Int.reduceAdd, Int.reduceSub, Int.reduceNeg, Int.reduceMod, setM_same, MO.lst.injEq, setM_setM, ix0, ix1, ix2, ix3, ix4, dPick, keyOf, dSlT, dTupRng, gAppend, dAppend, g2B, dM1, eqv_tn, eqv_tnl, shaped_l, dSlM, g1N, dIsi, tyD, gListD, gListM, gTupleM, sPar, dgPair, isT_it, isT_is, isT_ib, isT_ii, isT_tt, gInS, sTry, xCall, xSeq, xIf, xThen, xRaise, dIsE, dNum, dRep1, gAddT, isT_ss, isT_st, isT_ts, dgAny, djNil, djStr, djFmt, gShow, gRmp, gSplit, gJoin, gIntS, gMulS, dAllG, dRev, gListD, gSplitM, gJoinM, gNotInS, gStrI, gMulN, dIns, daAddRep, gEqX, gAddM, gAddT, sTry, sOr, dAlt, xAlt, xRaiseB, sTryP, xCall, xRaise, xIf, xSeq, xThen, dIsX, dMadeP, dMadeN, dStrX, dNum, dCountL, dIndexL, gSFind, dRep1, gListM, cx_K, nox_K, sCont]
      refine ⟨p, _, _, rfl, mp, d', by omega, fun s q r o1 hs hq d1 => ?_⟩
      have hsn : Sn s := by omega
      have h1 := shw_len hsn
      have h2 := spt_len hsn q r
      try simp only [sSeq, sAsg, sRet, sIf, sDrop, sNext, sNever, dOp, dUn, dVar, dC, dTest, isBool, dAnd, dOr, dNot, dAndV, dOrV, dNotV, dIf, dCons, dNil, dTup, dLst, dLstM, datas, dCall, dCB, gI0, gI, gB0, g1I, gAdd, gEqD, gNeD, gIx, gIn, g1A, g2A, gInt, gLen, gTuple, gSum, gBest, dSl, dNoPart, dPart, dgName, dgTup, dgCons, dgNil, dgSub, gSetI, dIndexT, dChain, startD, List.map_cons, List.map_nil, List.length_cons, List.length_nil, List.replicate, List.append, List.cons_append, List.nil_append, List.getElem?_cons_zero, List.getElem?_cons_succ, List.set_cons_zero, List.set_cons_succ, Option.some.injEq, Dv.d.injEq, Dv.r.injEq, PyData.tuple.injEq, PyData.list.injEq, PyData.str.injEq, PyData.int.injEq, exists_eq_left', Option.map_some, Nat.zero_add, Nat.reduceAdd, Nat.reduceSub, true_and, and_true, exists_and_left, at0, at1, at2, at3, at4, eqv_int, shaped_int, eqv_pr, shaped_pr, bes, intsD, in4, flat4, flatI, Bool.not_eq_true', decide_eq_false_iff_not, not_true_eq_false, if_true, if_false, Bool.not_true, Bool.not_false, Bool.false_eq_true, Bool.true_eq_false, Bool.or_eq_false_iff,  shaped_tn, shaped_hd, shaped_r, decide_eq_true_eq, sizeLine_eq, Nat.reduceLeDiff, Int.reduceToNat, Int.reducePow, Int.reduceMul, Int.reduceAdd, Int.reduceSub, Int.reduceNeg, Int.reduceMod, setM_same, MO.lst.injEq, setM_setM, ix0, ix1, ix2, ix3, ix4, dPick, keyOf, dSlT, dTupRng, gAppend, dAppend, g2B, dM1, eqv_tn, eqv_tnl, shaped_l, dSlM, g1N, dIsi, tyD, gListD, gListM, gTupleM, sPar, dgPair, isT_it, isT_is, isT_ib, isT_ii, isT_tt, gInS, sTry, xCall, xSeq, xIf, xThen, xRaise, dIsE, dNum, dRep1, gAddT, isT_ss, isT_st, isT_ts, dgAny, djNil, djStr, djFmt, gShow, gRmp, gSplit, gJoin, gIntS, gMulS, dAllG, dRev, gListD, gSplitM, gJoinM, gNotInS, gStrI, gMulN, dIns, daAddRep, gEqX, gAddM, gAddT, sTry, sOr, dAlt, xAlt, xRaiseB, sTryP, xCall, xRaise, xIf, xSeq, xThen, dIsX, dMadeP, dMadeN, dStrX, dNum, dCountL, dIndexL, gSFind, dRep1, gListM, cx_K, nox_K, sCont]
      refine ⟨⟨_, rfl⟩, ?_⟩
      try simp only [sSeq, sAsg, sRet, sIf, sDrop, sNext, sNever, dOp, dUn, dVar, dC, dTest, isBool, dAnd, dOr, dNot, dAndV, dOrV, dNotV, dIf, dCons, dNil, dTup, dLst, dLstM, datas, dCall, dCB, gI0, gI, gB0, g1I, gAdd, gEqD, gNeD, gIx, gIn, g1A, g2A, gInt, gLen, gTuple, gSum, gBest, dSl, dNoPart, dPart, dgName, dgTup, dgCons, dgNil, dgSub, gSetI, dIndexT, dChain, startD, List.map_cons, List.map_nil, List.length_cons, List.length_nil, List.replicate, List.append, List.cons_append, List.nil_append, List.getElem?_cons_zero, List.getElem?_cons_succ, List.set_cons_zero, List.set_cons_succ, Option.some.injEq, Dv.d.injEq, Dv.r.injEq, PyData.tuple.injEq, PyData.list.injEq, PyData.str.injEq, PyData.int.injEq, exists_eq_left', Option.map_some, Nat.zero_add, Nat.reduceAdd, Nat.reduceSub, true_and, and_true, exists_and_left, at0, at1, at2, at3, at4, eqv_int, shaped_int, eqv_pr, shaped_pr, bes, intsD, in4, flat4, flatI, Bool.not_eq_true', decide_eq_false_iff_not, not_true_eq_false, if_true, if_false, Bool.not_true, Bool.not_false, Bool.false_eq_true, Bool.true_eq_false, Bool.or_eq_false_iff,  shaped_tn, shaped_hd, shaped_r, decide_eq_true_eq, sizeLine_eq, Nat.reduceLeDiff, Int.reduceToNat, Int.reducePow, Int.reduceMul, Int.reduceAdd, Int.reduceSub, Int.reduceNeg, Int.reduceMod, setM_same, MO.lst.injEq, setM_setM, ix0, ix1, ix2, ix3, ix4, dPick, keyOf, dSlT, dTupRng, gAppend, dAppend, g2B, dM1, eqv_tn, eqv_tnl, shaped_l, dSlM, g1N, dIsi, tyD, gListD, gListM, gTupleM, sPar, dgPair, isT_it, isT_is, isT_ib, isT_ii, isT_tt, gInS, sTry, xCall, xSeq, xIf, xThen, xRaise, dIsE, dNum, dRep1, gAddT, isT_ss, isT_st, isT_ts, dgAny, djNil, djStr, djFmt, gShow, gRmp, gSplit, gJoin, gIntS, gMulS, dAllG, dRev, gListD, gSplitM, gJoinM, gNotInS, gStrI, gMulN, dIns, daAddRep, gEqX, gAddM, gAddT, sTry, sOr, dAlt, xAlt, xRaiseB, sTryP, xCall, xRaise, xIf, xSeq, xThen, dIsX, dMadeP, dMadeN, dStrX, dNum, dCountL, dIndexL, gSFind, dRep1, gListM, cx_K, nox_K, sCont]
      have hlg : s.natAbs.log2 < 1920 := by
        by_cases h0 : s.natAbs = 0
        · rw [h0]; decide
        · have := (Nat.log2_lt h0 (k := 100)).mpr (by omega)
          omega
      refine ⟨hlg, [shw s, hdS q, tnS r], rfl, ?_, ?_⟩
      · simp only [List.map_cons, List.map_nil, List.sum_cons, List.sum_nil, List.length_cons, List.length_nil, hdS_len, tnS_len]
        rw [show (Str.ofString " ").length = 1 by decide +kernel]
        omega
      rw [join3]
      have ej : Str.join ⟨#[32]⟩ [shw s, hdS q, tnS r] = spt s q r := rfl
      rw [ej]
      have hWC := spt_cp s q r
      generalize spt s q r = wz at h2 hWC ⊢
      clear ej h1 hlg hsn
      refine ⟨6, rfl, by decide, by simp, fun D hD => ?_⟩
      have hpD : p ≠ D := fun e => by rw [← e, setM_same] at hD; cases hD
      have hDm : m' D = none := by rw [setM_ne (Ne.symm hpD)] at hD; exact hD
      refine ⟨fun j acc m2 => ∃ o2, m2 = setM m' p o2 ∧ DeckIs o2 (300 * i + 9 + 40 * j) ∧ acc.length = j ∧ ∀ x ∈ acc, TxD x, ⟨o1, rfl, d1, rfl, by simp⟩, ?_, ?_, ?_⟩
      · rintro j acc m2 ⟨o2, rfl, d2, hla, hA⟩
        first | exact ⟨by rw [setM_ne (Ne.symm hpD)]; exact hDm, trivial⟩ | (rw [setM_ne (Ne.symm hpD)]; exact hDm)
      · rintro j x acc m2 hx ⟨o2, rfl, d2, hla, hA⟩
        have hj : j < 6 := by have := (List.getElem?_eq_some_iff.mp hx).1; simpa using this
        simp only [wipeD, dYes, if_true]
        try simp only [sSeq, sAsg, sRet, sIf, sDrop, sNext, sNever, dOp, dUn, dVar, dC, dTest, isBool, dAnd, dOr, dNot, dAndV, dOrV, dNotV, dIf, dCons, dNil, dTup, dLst, dLstM, datas, dCall, dCB, gI0, gI, gB0, g1I, gAdd, gEqD, gNeD, gIx, gIn, g1A, g2A, gInt, gLen, gTuple, gSum, gBest, dSl, dNoPart, dPart, dgName, dgTup, dgCons, dgNil, dgSub, gSetI, dIndexT, dChain, startD, List.map_cons, List.map_nil, List.length_cons, List.length_nil, List.replicate, List.append, List.cons_append, List.nil_append, List.getElem?_cons_zero, List.getElem?_cons_succ, List.set_cons_zero, List.set_cons_succ, Option.some.injEq, Dv.d.injEq, Dv.r.injEq, PyData.tuple.injEq, PyData.list.injEq, PyData.str.injEq, PyData.int.injEq, exists_eq_left', Option.map_some, Nat.zero_add, Nat.reduceAdd, Nat.reduceSub, true_and, and_true, exists_and_left, at0, at1, at2, at3, at4, eqv_int, shaped_int, eqv_pr, shaped_pr, bes, intsD, in4, flat4, flatI, Bool.not_eq_true', decide_eq_false_iff_not, not_true_eq_false, if_true, if_false, Bool.not_true, Bool.not_false, Bool.false_eq_true, Bool.true_eq_false, Bool.or_eq_false_iff,  shaped_tn, shaped_hd, shaped_r, decide_eq_true_eq, sizeLine_eq, Nat.reduceLeDiff, Int.reduceToNat, Int.reducePow, Int.reduceMul, Int.reduceAdd, Int.reduceSub, Int.reduceNeg, Int.reduceMod, setM_same, MO.lst.injEq, setM_setM, ix0, ix1, ix2, ix3, ix4, dPick, keyOf, dSlT, dTupRng, gAppend, dAppend, g2B, dM1, eqv_tn, eqv_tnl, shaped_l, dSlM, g1N, dIsi, tyD, gListD, gListM, gTupleM, sPar, dgPair, isT_it, isT_is, isT_ib, isT_ii, isT_tt, gInS, sTry, xCall, xSeq, xIf, xThen, xRaise, dIsE, dNum, dRep1, gAddT, isT_ss, isT_st, isT_ts, dgAny, djNil, djStr, djFmt, gShow, gRmp, gSplit, gJoin, gIntS, gMulS, dAllG, dRev, gListD, gSplitM, gJoinM, gNotInS, gStrI, gMulN, dIns, daAddRep, gEqX, gAddM, gAddT, sTry, sOr, dAlt, xAlt, xRaiseB, sTryP, xCall, xRaise, xIf, xSeq, xThen, dIsX, dMadeP, dMadeN, dStrX, dNum, dCountL, dIndexL, gSFind, dRep1, gListM, cx_K, nox_K, sCont]
        refine ⟨p, _, _, wz, rfl, by rw [setM_ne hpD]; exact setM_same, d2, by omega, ⟨by omega, hWC⟩, fun z' o3 hz' d3 => ?_⟩
        try simp only [sSeq, sAsg, sRet, sIf, sDrop, sNext, sNever, dOp, dUn, dVar, dC, dTest, isBool, dAnd, dOr, dNot, dAndV, dOrV, dNotV, dIf, dCons, dNil, dTup, dLst, dLstM, datas, dCall, dCB, gI0, gI, gB0, g1I, gAdd, gEqD, gNeD, gIx, gIn, g1A, g2A, gInt, gLen, gTuple, gSum, gBest, dSl, dNoPart, dPart, dgName, dgTup, dgCons, dgNil, dgSub, gSetI, dIndexT, dChain, startD, List.map_cons, List.map_nil, List.length_cons, List.length_nil, List.replicate, List.append, List.cons_append, List.nil_append, List.getElem?_cons_zero, List.getElem?_cons_succ, List.set_cons_zero, List.set_cons_succ, Option.some.injEq, Dv.d.injEq, Dv.r.injEq, PyData.tuple.injEq, PyData.list.injEq, PyData.str.injEq, PyData.int.injEq, exists_eq_left', Option.map_some, Nat.zero_add, Nat.reduceAdd, Nat.reduceSub, true_and, and_true, exists_and_left, at0, at1, at2, at3, at4, eqv_int, shaped_int, eqv_pr, shaped_pr, bes, intsD, in4, flat4, flatI, Bool.not_eq_true', decide_eq_false_iff_not, not_true_eq_false, if_true, if_false, Bool.not_true, Bool.not_false, Bool.false_eq_true, Bool.true_eq_false, Bool.or_eq_false_iff,  shaped_tn, shaped_hd, shaped_r, decide_eq_true_eq, sizeLine_eq, Nat.reduceLeDiff, Int.reduceToNat, Int.reducePow, Int.reduceMul, Int.reduceAdd, Int.reduceSub, Int.reduceNeg, Int.reduceMod, setM_same, MO.lst.injEq, setM_setM, ix0, ix1, ix2, ix3, ix4, dPick, keyOf, dSlT, dTupRng, gAppend, dAppend, g2B, dM1, eqv_tn, eqv_tnl, shaped_l, dSlM, g1N, dIsi, tyD, gListD, gListM, gTupleM, sPar, dgPair, isT_it, isT_is, isT_ib, isT_ii, isT_tt, gInS, sTry, xCall, xSeq, xIf, xThen, xRaise, dIsE, dNum, dRep1, gAddT, isT_ss, isT_st, isT_ts, dgAny, djNil, djStr, djFmt, gShow, gRmp, gSplit, gJoin, gIntS, gMulS, dAllG, dRev, gListD, gSplitM, gJoinM, gNotInS, gStrI, gMulN, dIns, daAddRep, gEqX, gAddM, gAddT, sTry, sOr, dAlt, xAlt, xRaiseB, sTryP, xCall, xRaise, xIf, xSeq, xThen, dIsX, dMadeP, dMadeN, dStrX, dNum, dCountL, dIndexL, gSFind, dRep1, gListM, cx_K, nox_K, sCont]
        refine ⟨by rw [setM_ne (Ne.symm hpD)]; exact setM_same, o3, del_draw hpD hDm, d3.mono (by omega), by simp [hla], fun x hx => ?_⟩
        rcases List.mem_append.mp hx with h | h
        · exact hA x h
        · simp only [List.mem_cons, List.not_mem_nil, or_false] at h
          subst h
          exact ⟨z', rfl, by omega, hz'.2⟩
      · rintro acc m2 ⟨o2, rfl, d2, hla, hA⟩
        have hla : acc.length = 6 := by simpa using hla
        have d2 : DeckIs o2 (300 * i + 9 + 240) := by simpa using d2
        clear hD hpD hDm
        have sl : (Str.ofString " ").length = 1 := by decide +kernel
        have sn : (Str.ofString "\n").length = 1 := by decide +kernel
        have s0 : (Str.ofString "0").length = 1 := by decide +kernel
        have s2 : (Str.ofString "  ").length = 2 := by decide +kernel
        have sm : (Str.ofString "-").length = 1 := by decide +kernel
        have cl : Cp (Str.ofString " ") := by show ∀ c ∈ _, c < 1114112; decide +kernel
        have cn : Cp (Str.ofString "\n") := by show ∀ c ∈ _, c < 1114112; decide +kernel
        have c0 : Cp (Str.ofString "0") := by show ∀ c ∈ _, c < 1114112; decide +kernel
        have c2 : Cp (Str.ofString "  ") := by show ∀ c ∈ _, c < 1114112; decide +kernel
        have cm : Cp (Str.ofString "-") := by show ∀ c ∈ _, c < 1114112; decide +kernel
        refine ⟨by omega, by omega, by omega, by omega, by omega, fun r1 hr1 => ?_⟩
        have hr2 := rep_ok hr1 hWC c2
        have hr3 : r1.length ≤ 400 := by
          have := hr1.1
          rw [s2] at this
          omega
        refine ⟨acc, rfl, _, rfl, by rw [hla]; simp, fun F hF => ?_⟩
        have pF : p ≠ F := fun e => by rw [← e, setM_same] at hF; cases hF
        have FP : F ≠ T.aP := fun e => by rw [e, setM_ne (Ne.symm pP), mP] at hF; cases hF
        refine ⟨⟨_, rfl⟩, by omega, by decide, by decide, by rw [PySem.strLen_append]; omega, ?_⟩
        refine ⟨p, o2, _, rfl, by rw [setM_ne pF]; exact setM_same, d2, by omega, fun k o3 hk d3 => ?_⟩
        try simp only [sSeq, sAsg, sRet, sIf, sDrop, sNext, sNever, dOp, dUn, dVar, dC, dTest, isBool, dAnd, dOr, dNot, dAndV, dOrV, dNotV, dIf, dCons, dNil, dTup, dLst, dLstM, datas, dCall, dCB, gI0, gI, gB0, g1I, gAdd, gEqD, gNeD, gIx, gIn, g1A, g2A, gInt, gLen, gTuple, gSum, gBest, dSl, dNoPart, dPart, dgName, dgTup, dgCons, dgNil, dgSub, gSetI, dIndexT, dChain, startD, List.map_cons, List.map_nil, List.length_cons, List.length_nil, List.replicate, List.append, List.cons_append, List.nil_append, List.getElem?_cons_zero, List.getElem?_cons_succ, List.set_cons_zero, List.set_cons_succ, Option.some.injEq, Dv.d.injEq, Dv.r.injEq, PyData.tuple.injEq, PyData.list.injEq, PyData.str.injEq, PyData.int.injEq, exists_eq_left', Option.map_some, Nat.zero_add, Nat.reduceAdd, Nat.reduceSub, true_and, and_true, exists_and_left, at0, at1, at2, at3, at4, eqv_int, shaped_int, eqv_pr, shaped_pr, bes, intsD, in4, flat4, flatI, Bool.not_eq_true', decide_eq_false_iff_not, not_true_eq_false, if_true, if_false, Bool.not_true, Bool.not_false, Bool.false_eq_true, Bool.true_eq_false, Bool.or_eq_false_iff,  shaped_tn, shaped_hd, shaped_r, decide_eq_true_eq, sizeLine_eq, Nat.reduceLeDiff, Int.reduceToNat, Int.reducePow, Int.reduceMul, Int.reduceAdd, Int.reduceSub, Int.reduceNeg, Int.reduceMod, setM_same, MO.lst.injEq, setM_setM, ix0, ix1, ix2, ix3, ix4, dPick, keyOf, dSlT, dTupRng, gAppend, dAppend, g2B, dM1, eqv_tn, eqv_tnl, shaped_l, dSlM, g1N, dIsi, tyD, gListD, gListM, gTupleM, sPar, dgPair, isT_it, isT_is, isT_ib, isT_ii, isT_tt, gInS, sTry, xCall, xSeq, xIf, xThen, xRaise, dIsE, dNum, dRep1, gAddT, isT_ss, isT_st, isT_ts, dgAny, djNil, djStr, djFmt, gShow, gRmp, gSplit, gJoin, gIntS, gMulS, dAllG, dRev, gListD, gSplitM, gJoinM, gNotInS, gStrI, gMulN, dIns, daAddRep, gEqX, gAddM, gAddT, sTry, sOr, dAlt, xAlt, xRaiseB, sTryP, xCall, xRaise, xIf, xSeq, xThen, dIsX, dMadeP, dMadeN, dStrX, dNum, dCountL, dIndexL, gSFind, dRep1, gListM, cx_K, nox_K, sCont]
        refine ⟨by rw [repS_len, PySem.strLen_append]; show _ + 1 ≤ _; omega, _, by rw [setM_ne (Ne.symm pF)]; exact setM_same, by rw [List.length_map, List.length_append, hla]; simp, ?_⟩
        obtain ⟨LL, hLL⟩ : ∃ LL : List PyData, LL = acc ++ [PyData.str (Str.ofString " " ++ wz), PyData.str (wz ++ Str.ofString " "), PyData.str (wz ++ Str.ofString "\n"), PyData.str (Str.ofString "0" ++ wz), PyData.str (Str.ofString "-" ++ wz), PyData.str r1, PyData.str wz] ++ [PyData.str (repS (wz ++ Str.ofString " ") 5 ++ ⟨#[k]⟩)] := ⟨_, rfl⟩
        have hLd : (List.map Dv.d (acc ++ [PyData.str (Str.ofString " " ++ wz), PyData.str (wz ++ Str.ofString " "), PyData.str (wz ++ Str.ofString "\n"), PyData.str (Str.ofString "0" ++ wz), PyData.str (Str.ofString "-" ++ wz), PyData.str r1, PyData.str wz]) ++ [Dv.d (PyData.str (repS (wz ++ Str.ofString " ") 5 ++ ⟨#[k]⟩))]) = LL.map .d := by rw [hLL, List.map_append (l₂ := [_])]; rfl
        have hLT : LL.length = 14 ∧ ∀ x ∈ LL, TxD x := by
          rw [hLL]
          refine ⟨by simp [hla], fun x hx => ?_⟩
          rcases List.mem_append.mp hx with hx | hx
          · rcases List.mem_append.mp hx with hx | hx
            · exact hA x hx
            · simp only [List.mem_cons, List.not_mem_nil, or_false] at hx
              rcases hx with rfl | rfl | rfl | rfl | rfl | rfl | rfl
              · exact ⟨_, rfl, by rw [PySem.strLen_append]; omega, app_cp cl hWC⟩
              · exact ⟨_, rfl, by rw [PySem.strLen_append]; omega, app_cp hWC cl⟩
              · exact ⟨_, rfl, by rw [PySem.strLen_append]; omega, app_cp hWC cn⟩
              · exact ⟨_, rfl, by rw [PySem.strLen_append]; omega, app_cp c0 hWC⟩
              · exact ⟨_, rfl, by rw [PySem.strLen_append]; omega, app_cp cm hWC⟩
              · exact ⟨_, rfl, by omega, hr2⟩
              · exact ⟨_, rfl, by omega, hWC⟩
          · simp only [List.mem_cons, List.not_mem_nil, or_false] at hx
            subst hx
            exact ⟨_, rfl, by rw [PySem.strLen_append, repS_len, PySem.strLen_append]; show _ + 1 ≤ _; omega, app_cp (rep_cp (app_cp hWC cl) 5) (one_cp hk)⟩
        rw [hLd]
        clear hLd
        have hM1 : ∀ M0 : M, setM (setM (setM (setM m' p o2) F (.lst (List.map Dv.d (acc ++ [PyData.str (Str.ofString " " ++ wz), PyData.str (wz ++ Str.ofString " "), PyData.str (wz ++ Str.ofString "\n"), PyData.str (Str.ofString "0" ++ wz), PyData.str (Str.ofString "-" ++ wz), PyData.str r1, PyData.str wz])))) p o3) F (.lst (LL.map .d)) = M0 → M0 p = some o3 ∧ M0 F = some (.lst (LL.map .d)) ∧ M0 T.aP = some mTbl := fun M0 e => by
          subst e
          refine ⟨by rw [setM_ne pF]; exact setM_same, setM_same, ?_⟩
          rw [setM_ne (Ne.symm FP), setM_ne (Ne.symm pP), setM_ne (Ne.symm FP), setM_ne (Ne.symm pP)]
          exact mP
        generalize setM (setM (setM (setM m' p o2) F (.lst (List.map Dv.d (acc ++ [PyData.str (Str.ofString " " ++ wz), PyData.str (wz ++ Str.ofString " "), PyData.str (wz ++ Str.ofString "\n"), PyData.str (Str.ofString "0" ++ wz), PyData.str (Str.ofString "-" ++ wz), PyData.str r1, PyData.str wz])))) p o3) F (.lst (LL.map .d)) = M0 at hM1 ⊢
        obtain ⟨Mp, MF, MP⟩ := hM1 M0 rfl
        clear hM1 hLL
        show dItA _ _ _ _
        unfold dItA
        try simp only [sSeq, sAsg, sRet, sIf, sDrop, sNext, sNever, dOp, dUn, dVar, dC, dTest, isBool, dAnd, dOr, dNot, dAndV, dOrV, dNotV, dIf, dCons, dNil, dTup, dLst, dLstM, datas, dCall, dCB, gI0, gI, gB0, g1I, gAdd, gEqD, gNeD, gIx, gIn, g1A, g2A, gInt, gLen, gTuple, gSum, gBest, dSl, dNoPart, dPart, dgName, dgTup, dgCons, dgNil, dgSub, gSetI, dIndexT, dChain, startD, List.map_cons, List.map_nil, List.length_cons, List.length_nil, List.replicate, List.append, List.cons_append, List.nil_append, List.getElem?_cons_zero, List.getElem?_cons_succ, List.set_cons_zero, List.set_cons_succ, Option.some.injEq, Dv.d.injEq, Dv.r.injEq, PyData.tuple.injEq, PyData.list.injEq, PyData.str.injEq, PyData.int.injEq, exists_eq_left', Option.map_some, Nat.zero_add, Nat.reduceAdd, Nat.reduceSub, true_and, and_true, exists_and_left, at0, at1, at2, at3, at4, eqv_int, shaped_int, eqv_pr, shaped_pr, bes, intsD, in4, flat4, flatI, Bool.not_eq_true', decide_eq_false_iff_not, not_true_eq_false, if_true, if_false, Bool.not_true, Bool.not_false, Bool.false_eq_true, Bool.true_eq_false, Bool.or_eq_false_iff,  shaped_tn, shaped_hd, shaped_r, decide_eq_true_eq, sizeLine_eq, Nat.reduceLeDiff, Int.reduceToNat, Int.reducePow, Int.reduceMul, Int.reduceAdd, Int.reduceSub, Int.reduceNeg, Int.reduceMod, setM_same, MO.lst.injEq, setM_setM, ix0, ix1, ix2, ix3, ix4, dPick, keyOf, dSlT, dTupRng, gAppend, dAppend, g2B, dM1, eqv_tn, eqv_tnl, shaped_l, dSlM, g1N, dIsi, tyD, gListD, gListM, gTupleM, sPar, dgPair, isT_it, isT_is, isT_ib, isT_ii, isT_tt, gInS, sTry, xCall, xSeq, xIf, xThen, xRaise, dIsE, dNum, dRep1, gAddT, isT_ss, isT_st, isT_ts, dgAny, djNil, djStr, djFmt, gShow, gRmp, gSplit, gJoin, gIntS, gMulS, dAllG, dRev, gListD, gSplitM, gJoinM, gNotInS, gStrI, gMulN, dIns, daAddRep, gEqX, gAddM, gAddT, sTry, sOr, dAlt, xAlt, xRaiseB, sTryP, xCall, xRaise, xIf, xSeq, xThen, dIsX, dMadeP, dMadeN, dStrX, dNum, dCountL, dIndexL, gSFind, dRep1, gListM, cx_K, nox_K, sCont]
        refine ⟨p, _, _, rfl, Mp, d3, by omega, fun k2 o4 hk2 d4 => ?_⟩
        try simp only [sSeq, sAsg, sRet, sIf, sDrop, sNext, sNever, dOp, dUn, dVar, dC, dTest, isBool, dAnd, dOr, dNot, dAndV, dOrV, dNotV, dIf, dCons, dNil, dTup, dLst, dLstM, datas, dCall, dCB, gI0, gI, gB0, g1I, gAdd, gEqD, gNeD, gIx, gIn, g1A, g2A, gInt, gLen, gTuple, gSum, gBest, dSl, dNoPart, dPart, dgName, dgTup, dgCons, dgNil, dgSub, gSetI, dIndexT, dChain, startD, List.map_cons, List.map_nil, List.length_cons, List.length_nil, List.replicate, List.append, List.cons_append, List.nil_append, List.getElem?_cons_zero, List.getElem?_cons_succ, List.set_cons_zero, List.set_cons_succ, Option.some.injEq, Dv.d.injEq, Dv.r.injEq, PyData.tuple.injEq, PyData.list.injEq, PyData.str.injEq, PyData.int.injEq, exists_eq_left', Option.map_some, Nat.zero_add, Nat.reduceAdd, Nat.reduceSub, true_and, and_true, exists_and_left, at0, at1, at2, at3, at4, eqv_int, shaped_int, eqv_pr, shaped_pr, bes, intsD, in4, flat4, flatI, Bool.not_eq_true', decide_eq_false_iff_not, not_true_eq_false, if_true, if_false, Bool.not_true, Bool.not_false, Bool.false_eq_true, Bool.true_eq_false, Bool.or_eq_false_iff,  shaped_tn, shaped_hd, shaped_r, decide_eq_true_eq, sizeLine_eq, Nat.reduceLeDiff, Int.reduceToNat, Int.reducePow, Int.reduceMul, Int.reduceAdd, Int.reduceSub, Int.reduceNeg, Int.reduceMod, setM_same, MO.lst.injEq, setM_setM, ix0, ix1, ix2, ix3, ix4, dPick, keyOf, dSlT, dTupRng, gAppend, dAppend, g2B, dM1, eqv_tn, eqv_tnl, shaped_l, dSlM, g1N, dIsi, tyD, gListD, gListM, gTupleM, sPar, dgPair, isT_it, isT_is, isT_ib, isT_ii, isT_tt, gInS, sTry, xCall, xSeq, xIf, xThen, xRaise, dIsE, dNum, dRep1, gAddT, isT_ss, isT_st, isT_ts, dgAny, djNil, djStr, djFmt, gShow, gRmp, gSplit, gJoin, gIntS, gMulS, dAllG, dRev, gListD, gSplitM, gJoinM, gNotInS, gStrI, gMulN, dIns, daAddRep, gEqX, gAddM, gAddT, sTry, sOr, dAlt, xAlt, xRaiseB, sTryP, xCall, xRaise, xIf, xSeq, xThen, dIsX, dMadeP, dMadeN, dStrX, dNum, dCountL, dIndexL, gSFind, dRep1, gListM, cx_K, nox_K, sCont]
        refine ⟨by omega, LL, ⟨_, rfl, by rw [setM_ne (Ne.symm pF)]; exact MF⟩, _, rfl, by rw [hLT.1]; simp, fun G hG => .inr ?_⟩
        have pG : p ≠ G := fun e => by rw [← e, setM_same] at hG; cases hG
        have GP : G ≠ T.aP := fun e => by rw [e, setM_ne (Ne.symm pP), MP] at hG; cases hG
        have hTx : ∀ x ∈ LL ++ [PyData.str ⟨#[k2]⟩, PyData.str (cutS wz none (some (-1)))], TxD x := fun x hx => by
          rcases List.mem_append.mp hx with hx | hx
          · exact hLT.2 x hx
          · simp only [List.mem_cons, List.not_mem_nil, or_false] at hx
            rcases hx with rfl | rfl
            · exact ⟨_, rfl, by show 1 ≤ 1000; decide, one_cp hk2⟩
            · exact ⟨_, rfl, by have := cutS_len wz none (some (-1)); omega, cutS_cp hWC _ _⟩
        have hll : (LL ++ [PyData.str ⟨#[k2]⟩, PyData.str (cutS wz none (some (-1)))]).length = 16 := by simp [hLT.1]
        generalize LL ++ [PyData.str ⟨#[k2]⟩, PyData.str (cutS wz none (some (-1)))] = L2 at hTx hll ⊢
        have N1 : setM (setM M0 p o4) G (.lst (L2.map .d)) p = some o4 := by rw [setM_ne pG]; exact setM_same
        have N2 : setM (setM M0 p o4) G (.lst (L2.map .d)) T.aP = some mTbl := by rw [setM_ne (Ne.symm GP), setM_ne (Ne.symm pP)]; exact MP
        have N3 : setM (setM M0 p o4) G (.lst (L2.map .d)) G = some (.lst (L2.map .d)) := setM_same
        generalize setM (setM M0 p o4) G (.lst (L2.map .d)) = M2 at N1 N2 N3 ⊢
        clear hG pG GP Mp MF MP hLT LL M0
        refine ⟨by rw [List.length_map, hll]; decide, fun D hD => ⟨fun j acc m2 => m2 = M2 ∧ acc = [], ⟨rfl, rfl⟩, ?_, ?_, ?_⟩⟩
        · rintro j acc m2 ⟨rfl, rfl⟩
          exact ⟨hD, by rw [setM_ne (fun e => by rw [e, hD] at N3; cases N3)]; exact N3⟩
        · rintro j x acc m2 hx ⟨rfl, rfl⟩
          simp only [wipeD]
          try simp only [sSeq, sAsg, sRet, sIf, sDrop, sNext, sNever, dOp, dUn, dVar, dC, dTest, isBool, dAnd, dOr, dNot, dAndV, dOrV, dNotV, dIf, dCons, dNil, dTup, dLst, dLstM, datas, dCall, dCB, gI0, gI, gB0, g1I, gAdd, gEqD, gNeD, gIx, gIn, g1A, g2A, gInt, gLen, gTuple, gSum, gBest, dSl, dNoPart, dPart, dgName, dgTup, dgCons, dgNil, dgSub, gSetI, dIndexT, dChain, startD, List.map_cons, List.map_nil, List.length_cons, List.length_nil, List.replicate, List.append, List.cons_append, List.nil_append, List.getElem?_cons_zero, List.getElem?_cons_succ, List.set_cons_zero, List.set_cons_succ, Option.some.injEq, Dv.d.injEq, Dv.r.injEq, PyData.tuple.injEq, PyData.list.injEq, PyData.str.injEq, PyData.int.injEq, exists_eq_left', Option.map_some, Nat.zero_add, Nat.reduceAdd, Nat.reduceSub, true_and, and_true, exists_and_left, at0, at1, at2, at3, at4, eqv_int, shaped_int, eqv_pr, shaped_pr, bes, intsD, in4, flat4, flatI, Bool.not_eq_true', decide_eq_false_iff_not, not_true_eq_false, if_true, if_false, Bool.not_true, Bool.not_false, Bool.false_eq_true, Bool.true_eq_false, Bool.or_eq_false_iff,  shaped_tn, shaped_hd, shaped_r, decide_eq_true_eq, sizeLine_eq, Nat.reduceLeDiff, Int.reduceToNat, Int.reducePow, Int.reduceMul, Int.reduceAdd, Int.reduceSub, Int.reduceNeg, Int.reduceMod, setM_same, MO.lst.injEq, setM_setM, ix0, ix1, ix2, ix3, ix4, dPick, keyOf, dSlT, dTupRng, gAppend, dAppend, g2B, dM1, eqv_tn, eqv_tnl, shaped_l, dSlM, g1N, dIsi, tyD, gListD, gListM, gTupleM, sPar, dgPair, isT_it, isT_is, isT_ib, isT_ii, isT_tt, gInS, sTry, xCall, xSeq, xIf, xThen, xRaise, dIsE, dNum, dRep1, gAddT, isT_ss, isT_st, isT_ts, dgAny, djNil, djStr, djFmt, gShow, gRmp, gSplit, gJoin, gIntS, gMulS, dAllG, dRev, gListD, gSplitM, gJoinM, gNotInS, gStrI, gMulN, dIns, daAddRep, gEqX, gAddM, gAddT, sTry, sOr, dAlt, xAlt, xRaiseB, sTryP, xCall, xRaise, xIf, xSeq, xThen, dIsX, dMadeP, dMadeN, dStrX, dNum, dCountL, dIndexL, gSFind, dRep1, gListM, cx_K, nox_K, sCont]
          rw [List.getElem?_map] at hx
          obtain ⟨y, hy, rfl⟩ := Option.map_eq_some_iff.mp hx
          obtain ⟨zy, rfl, hzy⟩ := hTx _ (List.mem_of_getElem? hy)
          refine ⟨zy, rfl, hzy, by rw [setM_ne (fun e => by rw [← e, N2] at hD; cases hD)]; exact N2, ?_⟩
          try simp only [sSeq, sAsg, sRet, sIf, sDrop, sNext, sNever, dOp, dUn, dVar, dC, dTest, isBool, dAnd, dOr, dNot, dAndV, dOrV, dNotV, dIf, dCons, dNil, dTup, dLst, dLstM, datas, dCall, dCB, gI0, gI, gB0, g1I, gAdd, gEqD, gNeD, gIx, gIn, g1A, g2A, gInt, gLen, gTuple, gSum, gBest, dSl, dNoPart, dPart, dgName, dgTup, dgCons, dgNil, dgSub, gSetI, dIndexT, dChain, startD, List.map_cons, List.map_nil, List.length_cons, List.length_nil, List.replicate, List.append, List.cons_append, List.nil_append, List.getElem?_cons_zero, List.getElem?_cons_succ, List.set_cons_zero, List.set_cons_succ, Option.some.injEq, Dv.d.injEq, Dv.r.injEq, PyData.tuple.injEq, PyData.list.injEq, PyData.str.injEq, PyData.int.injEq, exists_eq_left', Option.map_some, Nat.zero_add, Nat.reduceAdd, Nat.reduceSub, true_and, and_true, exists_and_left, at0, at1, at2, at3, at4, eqv_int, shaped_int, eqv_pr, shaped_pr, bes, intsD, in4, flat4, flatI, Bool.not_eq_true', decide_eq_false_iff_not, not_true_eq_false, if_true, if_false, Bool.not_true, Bool.not_false, Bool.false_eq_true, Bool.true_eq_false, Bool.or_eq_false_iff,  shaped_tn, shaped_hd, shaped_r, decide_eq_true_eq, sizeLine_eq, Nat.reduceLeDiff, Int.reduceToNat, Int.reducePow, Int.reduceMul, Int.reduceAdd, Int.reduceSub, Int.reduceNeg, Int.reduceMod, setM_same, MO.lst.injEq, setM_setM, ix0, ix1, ix2, ix3, ix4, dPick, keyOf, dSlT, dTupRng, gAppend, dAppend, g2B, dM1, eqv_tn, eqv_tnl, shaped_l, dSlM, g1N, dIsi, tyD, gListD, gListM, gTupleM, sPar, dgPair, isT_it, isT_is, isT_ib, isT_ii, isT_tt, gInS, sTry, xCall, xSeq, xIf, xThen, xRaise, dIsE, dNum, dRep1, gAddT, isT_ss, isT_st, isT_ts, dgAny, djNil, djStr, djFmt, gShow, gRmp, gSplit, gJoin, gIntS, gMulS, dAllG, dRev, gListD, gSplitM, gJoinM, gNotInS, gStrI, gMulN, dIns, daAddRep, gEqX, gAddM, gAddT, sTry, sOr, dAlt, xAlt, xRaiseB, sTryP, xCall, xRaise, xIf, xSeq, xThen, dIsX, dMadeP, dMadeN, dStrX, dNum, dCountL, dIndexL, gSFind, dRep1, gListM, cx_K, nox_K, sCont]
          exact delM_setM hD
        · rintro acc m2 ⟨rfl, rfl⟩
          try simp only [sSeq, sAsg, sRet, sIf, sDrop, sNext, sNever, dOp, dUn, dVar, dC, dTest, isBool, dAnd, dOr, dNot, dAndV, dOrV, dNotV, dIf, dCons, dNil, dTup, dLst, dLstM, datas, dCall, dCB, gI0, gI, gB0, g1I, gAdd, gEqD, gNeD, gIx, gIn, g1A, g2A, gInt, gLen, gTuple, gSum, gBest, dSl, dNoPart, dPart, dgName, dgTup, dgCons, dgNil, dgSub, gSetI, dIndexT, dChain, startD, List.map_cons, List.map_nil, List.length_cons, List.length_nil, List.replicate, List.append, List.cons_append, List.nil_append, List.getElem?_cons_zero, List.getElem?_cons_succ, List.set_cons_zero, List.set_cons_succ, Option.some.injEq, Dv.d.injEq, Dv.r.injEq, PyData.tuple.injEq, PyData.list.injEq, PyData.str.injEq, PyData.int.injEq, exists_eq_left', Option.map_some, Nat.zero_add, Nat.reduceAdd, Nat.reduceSub, true_and, and_true, exists_and_left, at0, at1, at2, at3, at4, eqv_int, shaped_int, eqv_pr, shaped_pr, bes, intsD, in4, flat4, flatI, Bool.not_eq_true', decide_eq_false_iff_not, not_true_eq_false, if_true, if_false, Bool.not_true, Bool.not_false, Bool.false_eq_true, Bool.true_eq_false, Bool.or_eq_false_iff,  shaped_tn, shaped_hd, shaped_r, decide_eq_true_eq, sizeLine_eq, Nat.reduceLeDiff, Int.reduceToNat, Int.reducePow, Int.reduceMul, Int.reduceAdd, Int.reduceSub, Int.reduceNeg, Int.reduceMod, setM_same, MO.lst.injEq, setM_setM, ix0, ix1, ix2, ix3, ix4, dPick, keyOf, dSlT, dTupRng, gAppend, dAppend, g2B, dM1, eqv_tn, eqv_tnl, shaped_l, dSlM, g1N, dIsi, tyD, gListD, gListM, gTupleM, sPar, dgPair, isT_it, isT_is, isT_ib, isT_ii, isT_tt, gInS, sTry, xCall, xSeq, xIf, xThen, xRaise, dIsE, dNum, dRep1, gAddT, isT_ss, isT_st, isT_ts, dgAny, djNil, djStr, djFmt, gShow, gRmp, gSplit, gJoin, gIntS, gMulS, dAllG, dRev, gListD, gSplitM, gJoinM, gNotInS, gStrI, gMulN, dIns, daAddRep, gEqX, gAddM, gAddT, sTry, sOr, dAlt, xAlt, xRaiseB, sTryP, xCall, xRaise, xIf, xSeq, xThen, dIsX, dMadeP, dMadeN, dStrX, dNum, dCountL, dIndexL, gSFind, dRep1, gListM, cx_K, nox_K, sCont]
          refine ⟨by decide +kernel, by decide +kernel, ?_⟩
          rw [if_neg (by decide +kernel)]
          exact ⟨_, _, _, _, _, _, rfl, o4, N1, d4.mono (by omega), N2⟩
    · rintro δ m' ⟨v2, v3, v4, v5, v6, v7, o', rfl, mp, d', mP⟩
      try simp only [sSeq, sAsg, sRet, sIf, sDrop, sNext, sNever, dOp, dUn, dVar, dC, dTest, isBool, dAnd, dOr, dNot, dAndV, dOrV, dNotV, dIf, dCons, dNil, dTup, dLst, dLstM, datas, dCall, dCB, gI0, gI, gB0, g1I, gAdd, gEqD, gNeD, gIx, gIn, g1A, g2A, gInt, gLen, gTuple, gSum, gBest, dSl, dNoPart, dPart, dgName, dgTup, dgCons, dgNil, dgSub, gSetI, dIndexT, dChain, startD, List.map_cons, List.map_nil, List.length_cons, List.length_nil, List.replicate, List.append, List.cons_append, List.nil_append, List.getElem?_cons_zero, List.getElem?_cons_succ, List.set_cons_zero, List.set_cons_succ, Option.some.injEq, Dv.d.injEq, Dv.r.injEq, PyData.tuple.injEq, PyData.list.injEq, PyData.str.injEq, PyData.int.injEq, exists_eq_left', Option.map_some, Nat.zero_add, Nat.reduceAdd, Nat.reduceSub, true_and, and_true, exists_and_left, at0, at1, at2, at3, at4, eqv_int, shaped_int, eqv_pr, shaped_pr, bes, intsD, in4, flat4, flatI, Bool.not_eq_true', decide_eq_false_iff_not, not_true_eq_false, if_true, if_false, Bool.not_true, Bool.not_false, Bool.false_eq_true, Bool.true_eq_false, Bool.or_eq_false_iff,  shaped_tn, shaped_hd, shaped_r, decide_eq_true_eq, sizeLine_eq, Nat.reduceLeDiff, Int.reduceToNat, Int.reducePow, Int.reduceMul, Int.reduceAdd, Int.reduceSub, Int.reduceNeg, Int.reduceMod, setM_same, MO.lst.injEq, setM_setM, ix0, ix1, ix2, ix3, ix4, dPick, keyOf, dSlT, dTupRng, gAppend, dAppend, g2B, dM1, eqv_tn, eqv_tnl, shaped_l, dSlM, g1N, dIsi, tyD, gListD, gListM, gTupleM, sPar, dgPair, isT_it, isT_is, isT_ib, isT_ii, isT_tt, gInS, sTry, xCall, xSeq, xIf, xThen, xRaise, dIsE, dNum, dRep1, gAddT, isT_ss, isT_st, isT_ts, dgAny, djNil, djStr, djFmt, gShow, gRmp, gSplit, gJoin, gIntS, gMulS, dAllG, dRev, gListD, gSplitM, gJoinM, gNotInS, gStrI, gMulN, dIns, daAddRep, gEqX, gAddM, gAddT, sTry, sOr, dAlt, xAlt, xRaiseB, sTryP, xCall, xRaise, xIf, xSeq, xThen, dIsX, dMadeP, dMadeN, dStrX, dNum, dCountL, dIndexL, gSFind, dRep1, gListM, cx_K, nox_K, sCont]
      have sx : (Str.ofString "x").length = 1 := by decide +kernel
      have sn : (Str.ofString "\n").length = 1 := by decide +kernel
      have cx : Cp (Str.ofString "x") := by show ∀ c ∈ _, c < 1114112; decide +kernel
      have cn : Cp (Str.ofString "\n") := by show ∀ c ∈ _, c < 1114112; decide +kernel
      refine ⟨by decide, by decide, by rw [sx]; decide, by rw [repS_len, sx, sn]; decide, p, _, _, _, rfl, by decide, mp, d', by omega, fun v8 o5 l5 u5 d5 => ?_⟩
      try simp only [sSeq, sAsg, sRet, sIf, sDrop, sNext, sNever, dOp, dUn, dVar, dC, dTest, isBool, dAnd, dOr, dNot, dAndV, dOrV, dNotV, dIf, dCons, dNil, dTup, dLst, dLstM, datas, dCall, dCB, gI0, gI, gB0, g1I, gAdd, gEqD, gNeD, gIx, gIn, g1A, g2A, gInt, gLen, gTuple, gSum, gBest, dSl, dNoPart, dPart, dgName, dgTup, dgCons, dgNil, dgSub, gSetI, dIndexT, dChain, startD, List.map_cons, List.map_nil, List.length_cons, List.length_nil, List.replicate, List.append, List.cons_append, List.nil_append, List.getElem?_cons_zero, List.getElem?_cons_succ, List.set_cons_zero, List.set_cons_succ, Option.some.injEq, Dv.d.injEq, Dv.r.injEq, PyData.tuple.injEq, PyData.list.injEq, PyData.str.injEq, PyData.int.injEq, exists_eq_left', Option.map_some, Nat.zero_add, Nat.reduceAdd, Nat.reduceSub, true_and, and_true, exists_and_left, at0, at1, at2, at3, at4, eqv_int, shaped_int, eqv_pr, shaped_pr, bes, intsD, in4, flat4, flatI, Bool.not_eq_true', decide_eq_false_iff_not, not_true_eq_false, if_true, if_false, Bool.not_true, Bool.not_false, Bool.false_eq_true, Bool.true_eq_false, Bool.or_eq_false_iff,  shaped_tn, shaped_hd, shaped_r, decide_eq_true_eq, sizeLine_eq, Nat.reduceLeDiff, Int.reduceToNat, Int.reducePow, Int.reduceMul, Int.reduceAdd, Int.reduceSub, Int.reduceNeg, Int.reduceMod, setM_same, MO.lst.injEq, setM_setM, ix0, ix1, ix2, ix3, ix4, dPick, keyOf, dSlT, dTupRng, gAppend, dAppend, g2B, dM1, eqv_tn, eqv_tnl, shaped_l, dSlM, g1N, dIsi, tyD, gListD, gListM, gTupleM, sPar, dgPair, isT_it, isT_is, isT_ib, isT_ii, isT_tt, gInS, sTry, xCall, xSeq, xIf, xThen, xRaise, dIsE, dNum, dRep1, gAddT, isT_ss, isT_st, isT_ts, dgAny, djNil, djStr, djFmt, gShow, gRmp, gSplit, gJoin, gIntS, gMulS, dAllG, dRev, gListD, gSplitM, gJoinM, gNotInS, gStrI, gMulN, dIns, daAddRep, gEqX, gAddM, gAddT, sTry, sOr, dAlt, xAlt, xRaiseB, sTryP, xCall, xRaise, xIf, xSeq, xThen, dIsX, dMadeP, dMadeN, dStrX, dNum, dCountL, dIndexL, gSFind, dRep1, gListM, cx_K, nox_K, sCont]
      have hsd : ∃ sd, atI [PyData.str (Str.ofString " No such: 7"), PyData.str (Str.ofString ""), PyData.str (Str.ofString "a  B"), PyData.str (repS (Str.ofString "x") 60 ++ Str.ofString "\n")] v8 = some (.str sd) ∧ Cp sd := by
        rcases (show v8 = 0 ∨ v8 = 1 ∨ v8 = 2 ∨ v8 = 3 by omega) with rfl | rfl | rfl | rfl
        · exact ⟨_, at0, by show ∀ c ∈ _, c < 1114112; decide +kernel⟩
        · exact ⟨_, at1, by show ∀ c ∈ _, c < 1114112; decide +kernel⟩
        · exact ⟨_, at2, by show ∀ c ∈ _, c < 1114112; decide +kernel⟩
        · exact ⟨_, at3, app_cp (rep_cp cx 60) cn⟩
      obtain ⟨sd, esd, hsd⟩ := hsd
      refine ⟨_, esd, sd, rfl, fun p1 hp1 => ⟨_, _, rfl, by simp, sd, rfl, fun p2 hp2 => ⟨_, _, rfl, by simp, sd, rfl, fun p3 hp3 => ⟨_, _, rfl, by simp, ?_⟩⟩⟩⟩
      refine ⟨by decide, by decide, ?_⟩
      have ss : SeqAt.shaped (PyData.list [PyData.str sd, PyData.str sd, PyData.str sd]) = true := by
        have h1 := shaped_str hsd
        unfold SeqAt.shaped at h1 ⊢
        simp [PyData.canLay0, PyData.canLayAll0, PyData.depth, PyData.depthAll] at h1 ⊢
        exact h1
      refine ⟨ss, ss, ?_⟩
      rw [if_neg (fun h => Bool.noConfusion ((K11.eqv_same ss).symm.trans h))]
      have q0 : setM m' p o5 T.aP = some mTbl := by rw [setM_ne (Ne.symm pP)]; exact mP
      have q1 : setM (setM m' p o5) p1 (mPlnS T.a_NoAsk sd p1) T.aP = some mTbl := by rw [setM_ne (fun e => by rw [← e, q0] at hp1; cases hp1)]; exact q0
      have q2 : setM (setM (setM m' p o5) p1 (mPlnS T.a_NoAsk sd p1)) p2 (mPlnS T.a_NoBox sd p2) T.aP = some mTbl := by rw [setM_ne (fun e => by rw [← e, q1] at hp2; cases hp2)]; exact q1
      have q3 : setM (setM (setM (setM m' p o5) p1 (mPlnS T.a_NoAsk sd p1)) p2 (mPlnS T.a_NoBox sd p2)) p3 (mPlnS T.a_NoSpiral sd p3) T.aP = some mTbl := by rw [setM_ne (fun e => by rw [← e, q2] at hp3; cases hp3)]; exact q2
      generalize setM (setM (setM (setM m' p o5) p1 (mPlnS T.a_NoAsk sd p1)) p2 (mPlnS T.a_NoBox sd p2)) p3 (mPlnS T.a_NoSpiral sd p3) = M3 at q3 ⊢
      clear q0 q1 q2 hp1 hp2 hp3
      refine ⟨by decide, fun p4 hp4 => ?_⟩
      have q4 : setM M3 p4 (mExc T.a_NoNumber (-7) p4) T.aP = some mTbl := by rw [setM_ne (fun e => by rw [← e, q3] at hp4; cases hp4)]; exact q3
      refine ⟨p4, rfl, .inr ⟨-7, setM_same, ?_⟩⟩
      generalize setM M3 p4 (mExc T.a_NoNumber (-7) p4) = M4 at q4 ⊢
      try simp only [sSeq, sAsg, sRet, sIf, sDrop, sNext, sNever, dOp, dUn, dVar, dC, dTest, isBool, dAnd, dOr, dNot, dAndV, dOrV, dNotV, dIf, dCons, dNil, dTup, dLst, dLstM, datas, dCall, dCB, gI0, gI, gB0, g1I, gAdd, gEqD, gNeD, gIx, gIn, g1A, g2A, gInt, gLen, gTuple, gSum, gBest, dSl, dNoPart, dPart, dgName, dgTup, dgCons, dgNil, dgSub, gSetI, dIndexT, dChain, startD, List.map_cons, List.map_nil, List.length_cons, List.length_nil, List.replicate, List.append, List.cons_append, List.nil_append, List.getElem?_cons_zero, List.getElem?_cons_succ, List.set_cons_zero, List.set_cons_succ, Option.some.injEq, Dv.d.injEq, Dv.r.injEq, PyData.tuple.injEq, PyData.list.injEq, PyData.str.injEq, PyData.int.injEq, exists_eq_left', Option.map_some, Nat.zero_add, Nat.reduceAdd, Nat.reduceSub, true_and, and_true, exists_and_left, at0, at1, at2, at3, at4, eqv_int, shaped_int, eqv_pr, shaped_pr, bes, intsD, in4, flat4, flatI, Bool.not_eq_true', decide_eq_false_iff_not, not_true_eq_false, if_true, if_false, Bool.not_true, Bool.not_false, Bool.false_eq_true, Bool.true_eq_false, Bool.or_eq_false_iff,  shaped_tn, shaped_hd, shaped_r, decide_eq_true_eq, sizeLine_eq, Nat.reduceLeDiff, Int.reduceToNat, Int.reducePow, Int.reduceMul, Int.reduceAdd, Int.reduceSub, Int.reduceNeg, Int.reduceMod, setM_same, MO.lst.injEq, setM_setM, ix0, ix1, ix2, ix3, ix4, dPick, keyOf, dSlT, dTupRng, gAppend, dAppend, g2B, dM1, eqv_tn, eqv_tnl, shaped_l, dSlM, g1N, dIsi, tyD, gListD, gListM, gTupleM, sPar, dgPair, isT_it, isT_is, isT_ib, isT_ii, isT_tt, gInS, sTry, xCall, xSeq, xIf, xThen, xRaise, dIsE, dNum, dRep1, gAddT, isT_ss, isT_st, isT_ts, dgAny, djNil, djStr, djFmt, gShow, gRmp, gSplit, gJoin, gIntS, gMulS, dAllG, dRev, gListD, gSplitM, gJoinM, gNotInS, gStrI, gMulN, dIns, daAddRep, gEqX, gAddM, gAddT, sTry, sOr, dAlt, xAlt, xRaiseB, sTryP, xCall, xRaise, xIf, xSeq, xThen, dIsX, dMadeP, dMadeN, dStrX, dNum, dCountL, dIndexL, gSFind, dRep1, gListM, cx_K, nox_K, sCont]
      refine ⟨by decide +kernel, by decide +kernel, ?_⟩
      rw [if_neg (by decide +kernel)]
      have sw : (Str.ofString "~").length = 1 := by decide +kernel
      have cw : Cp (Str.ofString "~") := by show ∀ c ∈ _, c < 1114112; decide +kernel
      refine ⟨by decide, by decide, by rw [sw]; decide, ?_⟩
      obtain ⟨fx, hfx⟩ : ∃ fx, fx = [PyData.str (Str.ofString ""), PyData.str (Str.ofString " "), PyData.str (Str.ofString "1 e"), PyData.str (Str.ofString "1 e l r"), PyData.str (Str.ofString "1 l e"), PyData.str (Str.ofString "-0 e l"), PyData.str (Str.ofString "0 e l"), PyData.str (Str.ofString "e l 1"), PyData.str (Str.ofString "1,e,l"), PyData.str (Str.ofString "1 el r"), PyData.str (Str.ofString "1 e\nl"), PyData.str (repS (Str.ofString "~") 200)] := ⟨_, rfl⟩
      have hTx : fx.length = 12 ∧ ∀ x ∈ fx, TxD x := by
        subst hfx
        refine ⟨rfl, fun x hx => ?_⟩
        simp only [List.mem_cons, List.not_mem_nil, or_false] at hx
        rcases hx with rfl | rfl | rfl | rfl | rfl | rfl | rfl | rfl | rfl | rfl | rfl | rfl
        all_goals first | exact ⟨_, rfl, by rw [repS_len, sw]; decide, rep_cp cw 200⟩ | exact ⟨_, rfl, by decide +kernel, by show ∀ c ∈ _, c < 1114112; decide +kernel⟩
      rw [← hfx]
      clear hfx
      unfold dLc dItL
      try simp only [sSeq, sAsg, sRet, sIf, sDrop, sNext, sNever, dOp, dUn, dVar, dC, dTest, isBool, dAnd, dOr, dNot, dAndV, dOrV, dNotV, dIf, dCons, dNil, dTup, dLst, dLstM, datas, dCall, dCB, gI0, gI, gB0, g1I, gAdd, gEqD, gNeD, gIx, gIn, g1A, g2A, gInt, gLen, gTuple, gSum, gBest, dSl, dNoPart, dPart, dgName, dgTup, dgCons, dgNil, dgSub, gSetI, dIndexT, dChain, startD, List.map_cons, List.map_nil, List.length_cons, List.length_nil, List.replicate, List.append, List.cons_append, List.nil_append, List.getElem?_cons_zero, List.getElem?_cons_succ, List.set_cons_zero, List.set_cons_succ, Option.some.injEq, Dv.d.injEq, Dv.r.injEq, PyData.tuple.injEq, PyData.list.injEq, PyData.str.injEq, PyData.int.injEq, exists_eq_left', Option.map_some, Nat.zero_add, Nat.reduceAdd, Nat.reduceSub, true_and, and_true, exists_and_left, at0, at1, at2, at3, at4, eqv_int, shaped_int, eqv_pr, shaped_pr, bes, intsD, in4, flat4, flatI, Bool.not_eq_true', decide_eq_false_iff_not, not_true_eq_false, if_true, if_false, Bool.not_true, Bool.not_false, Bool.false_eq_true, Bool.true_eq_false, Bool.or_eq_false_iff,  shaped_tn, shaped_hd, shaped_r, decide_eq_true_eq, sizeLine_eq, Nat.reduceLeDiff, Int.reduceToNat, Int.reducePow, Int.reduceMul, Int.reduceAdd, Int.reduceSub, Int.reduceNeg, Int.reduceMod, setM_same, MO.lst.injEq, setM_setM, ix0, ix1, ix2, ix3, ix4, dPick, keyOf, dSlT, dTupRng, gAppend, dAppend, g2B, dM1, eqv_tn, eqv_tnl, shaped_l, dSlM, g1N, dIsi, tyD, gListD, gListM, gTupleM, sPar, dgPair, isT_it, isT_is, isT_ib, isT_ii, isT_tt, gInS, sTry, xCall, xSeq, xIf, xThen, xRaise, dIsE, dNum, dRep1, gAddT, isT_ss, isT_st, isT_ts, dgAny, djNil, djStr, djFmt, gShow, gRmp, gSplit, gJoin, gIntS, gMulS, dAllG, dRev, gListD, gSplitM, gJoinM, gNotInS, gStrI, gMulN, dIns, daAddRep, gEqX, gAddM, gAddT, sTry, sOr, dAlt, xAlt, xRaiseB, sTryP, xCall, xRaise, xIf, xSeq, xThen, dIsX, dMadeP, dMadeN, dStrX, dNum, dCountL, dIndexL, gSFind, dRep1, gListM, cx_K, nox_K, sCont]
      refine ⟨by rw [List.length_map, hTx.1]; decide, fun D hD => ⟨fun j acc m2 => m2 = M4 ∧ acc = [], ⟨rfl, rfl⟩, ?_, ?_, ?_⟩⟩
      · rintro j acc m2 ⟨rfl, rfl⟩
        first | exact ⟨hD, trivial⟩ | exact hD
      · rintro j x acc m2 hx ⟨rfl, rfl⟩
        simp only [wipeD]
        try simp only [sSeq, sAsg, sRet, sIf, sDrop, sNext, sNever, dOp, dUn, dVar, dC, dTest, isBool, dAnd, dOr, dNot, dAndV, dOrV, dNotV, dIf, dCons, dNil, dTup, dLst, dLstM, datas, dCall, dCB, gI0, gI, gB0, g1I, gAdd, gEqD, gNeD, gIx, gIn, g1A, g2A, gInt, gLen, gTuple, gSum, gBest, dSl, dNoPart, dPart, dgName, dgTup, dgCons, dgNil, dgSub, gSetI, dIndexT, dChain, startD, List.map_cons, List.map_nil, List.length_cons, List.length_nil, List.replicate, List.append, List.cons_append, List.nil_append, List.getElem?_cons_zero, List.getElem?_cons_succ, List.set_cons_zero, List.set_cons_succ, Option.some.injEq, Dv.d.injEq, Dv.r.injEq, PyData.tuple.injEq, PyData.list.injEq, PyData.str.injEq, PyData.int.injEq, exists_eq_left', Option.map_some, Nat.zero_add, Nat.reduceAdd, Nat.reduceSub, true_and, and_true, exists_and_left, at0, at1, at2, at3, at4, eqv_int, shaped_int, eqv_pr, shaped_pr, bes, intsD, in4, flat4, flatI, Bool.not_eq_true', decide_eq_false_iff_not, not_true_eq_false, if_true, if_false, Bool.not_true, Bool.not_false, Bool.false_eq_true, Bool.true_eq_false, Bool.or_eq_false_iff,  shaped_tn, shaped_hd, shaped_r, decide_eq_true_eq, sizeLine_eq, Nat.reduceLeDiff, Int.reduceToNat, Int.reducePow, Int.reduceMul, Int.reduceAdd, Int.reduceSub, Int.reduceNeg, Int.reduceMod, setM_same, MO.lst.injEq, setM_setM, ix0, ix1, ix2, ix3, ix4, dPick, keyOf, dSlT, dTupRng, gAppend, dAppend, g2B, dM1, eqv_tn, eqv_tnl, shaped_l, dSlM, g1N, dIsi, tyD, gListD, gListM, gTupleM, sPar, dgPair, isT_it, isT_is, isT_ib, isT_ii, isT_tt, gInS, sTry, xCall, xSeq, xIf, xThen, xRaise, dIsE, dNum, dRep1, gAddT, isT_ss, isT_st, isT_ts, dgAny, djNil, djStr, djFmt, gShow, gRmp, gSplit, gJoin, gIntS, gMulS, dAllG, dRev, gListD, gSplitM, gJoinM, gNotInS, gStrI, gMulN, dIns, daAddRep, gEqX, gAddM, gAddT, sTry, sOr, dAlt, xAlt, xRaiseB, sTryP, xCall, xRaise, xIf, xSeq, xThen, dIsX, dMadeP, dMadeN, dStrX, dNum, dCountL, dIndexL, gSFind, dRep1, gListM, cx_K, nox_K, sCont]
        rw [List.getElem?_map] at hx
        obtain ⟨y, hy, rfl⟩ := Option.map_eq_some_iff.mp hx
        obtain ⟨zy, rfl, hzy⟩ := hTx.2 _ (List.mem_of_getElem? hy)
        refine ⟨zy, rfl, hzy, by rw [setM_ne (fun e => by rw [← e, q4] at hD; cases hD)]; exact q4, ?_⟩
        try simp only [sSeq, sAsg, sRet, sIf, sDrop, sNext, sNever, dOp, dUn, dVar, dC, dTest, isBool, dAnd, dOr, dNot, dAndV, dOrV, dNotV, dIf, dCons, dNil, dTup, dLst, dLstM, datas, dCall, dCB, gI0, gI, gB0, g1I, gAdd, gEqD, gNeD, gIx, gIn, g1A, g2A, gInt, gLen, gTuple, gSum, gBest, dSl, dNoPart, dPart, dgName, dgTup, dgCons, dgNil, dgSub, gSetI, dIndexT, dChain, startD, List.map_cons, List.map_nil, List.length_cons, List.length_nil, List.replicate, List.append, List.cons_append, List.nil_append, List.getElem?_cons_zero, List.getElem?_cons_succ, List.set_cons_zero, List.set_cons_succ, Option.some.injEq, Dv.d.injEq, Dv.r.injEq, PyData.tuple.injEq, PyData.list.injEq, PyData.str.injEq, PyData.int.injEq, exists_eq_left', Option.map_some, Nat.zero_add, Nat.reduceAdd, Nat.reduceSub, true_and, and_true, exists_and_left, at0, at1, at2, at3, at4, eqv_int, shaped_int, eqv_pr, shaped_pr, bes, intsD, in4, flat4, flatI, Bool.not_eq_true', decide_eq_false_iff_not, not_true_eq_false, if_true, if_false, Bool.not_true, Bool.not_false, Bool.false_eq_true, Bool.true_eq_false, Bool.or_eq_false_iff,  shaped_tn, shaped_hd, shaped_r, decide_eq_true_eq, sizeLine_eq, Nat.reduceLeDiff, Int.reduceToNat, Int.reducePow, Int.reduceMul, Int.reduceAdd, Int.reduceSub, Int.reduceNeg, Int.reduceMod, setM_same, MO.lst.injEq, setM_setM, ix0, ix1, ix2, ix3, ix4, dPick, keyOf, dSlT, dTupRng, gAppend, dAppend, g2B, dM1, eqv_tn, eqv_tnl, shaped_l, dSlM, g1N, dIsi, tyD, gListD, gListM, gTupleM, sPar, dgPair, isT_it, isT_is, isT_ib, isT_ii, isT_tt, gInS, sTry, xCall, xSeq, xIf, xThen, xRaise, dIsE, dNum, dRep1, gAddT, isT_ss, isT_st, isT_ts, dgAny, djNil, djStr, djFmt, gShow, gRmp, gSplit, gJoin, gIntS, gMulS, dAllG, dRev, gListD, gSplitM, gJoinM, gNotInS, gStrI, gMulN, dIns, daAddRep, gEqX, gAddM, gAddT, sTry, sOr, dAlt, xAlt, xRaiseB, sTryP, xCall, xRaise, xIf, xSeq, xThen, dIsX, dMadeP, dMadeN, dStrX, dNum, dCountL, dIndexL, gSFind, dRep1, gListM, cx_K, nox_K, sCont]
        exact delM_setM hD
      · rintro acc m2 ⟨rfl, rfl⟩
        try simp only [sSeq, sAsg, sRet, sIf, sDrop, sNext, sNever, dOp, dUn, dVar, dC, dTest, isBool, dAnd, dOr, dNot, dAndV, dOrV, dNotV, dIf, dCons, dNil, dTup, dLst, dLstM, datas, dCall, dCB, gI0, gI, gB0, g1I, gAdd, gEqD, gNeD, gIx, gIn, g1A, g2A, gInt, gLen, gTuple, gSum, gBest, dSl, dNoPart, dPart, dgName, dgTup, dgCons, dgNil, dgSub, gSetI, dIndexT, dChain, startD, List.map_cons, List.map_nil, List.length_cons, List.length_nil, List.replicate, List.append, List.cons_append, List.nil_append, List.getElem?_cons_zero, List.getElem?_cons_succ, List.set_cons_zero, List.set_cons_succ, Option.some.injEq, Dv.d.injEq, Dv.r.injEq, PyData.tuple.injEq, PyData.list.injEq, PyData.str.injEq, PyData.int.injEq, exists_eq_left', Option.map_some, Nat.zero_add, Nat.reduceAdd, Nat.reduceSub, true_and, and_true, exists_and_left, at0, at1, at2, at3, at4, eqv_int, shaped_int, eqv_pr, shaped_pr, bes, intsD, in4, flat4, flatI, Bool.not_eq_true', decide_eq_false_iff_not, not_true_eq_false, if_true, if_false, Bool.not_true, Bool.not_false, Bool.false_eq_true, Bool.true_eq_false, Bool.or_eq_false_iff,  shaped_tn, shaped_hd, shaped_r, decide_eq_true_eq, sizeLine_eq, Nat.reduceLeDiff, Int.reduceToNat, Int.reducePow, Int.reduceMul, Int.reduceAdd, Int.reduceSub, Int.reduceNeg, Int.reduceMod, setM_same, MO.lst.injEq, setM_setM, ix0, ix1, ix2, ix3, ix4, dPick, keyOf, dSlT, dTupRng, gAppend, dAppend, g2B, dM1, eqv_tn, eqv_tnl, shaped_l, dSlM, g1N, dIsi, tyD, gListD, gListM, gTupleM, sPar, dgPair, isT_it, isT_is, isT_ib, isT_ii, isT_tt, gInS, sTry, xCall, xSeq, xIf, xThen, xRaise, dIsE, dNum, dRep1, gAddT, isT_ss, isT_st, isT_ts, dgAny, djNil, djStr, djFmt, gShow, gRmp, gSplit, gJoin, gIntS, gMulS, dAllG, dRev, gListD, gSplitM, gJoinM, gNotInS, gStrI, gMulN, dIns, daAddRep, gEqX, gAddM, gAddT, sTry, sOr, dAlt, xAlt, xRaiseB, sTryP, xCall, xRaise, xIf, xSeq, xThen, dIsX, dMadeP, dMadeN, dStrX, dNum, dCountL, dIndexL, gSFind, dRep1, gListM, cx_K, nox_K, sCont]
        refine ⟨by decide +kernel, by decide +kernel, ?_⟩
        have e : PyData.eqv (.list []) (.list []) = true := by decide +kernel
        rw [e]
        exact z _
end
theorem fin_mk {P : Program} {w : World} {K : PySem.W.Frag} {h : Heap} {mg : Str → Option Value} {fa : Addr} (X : K.In h) (G : h.Ns mainGlobals mg) (hfa : mg "law" = some (.ref fa))
    {a__law_deck : Addr} {oc__law_deck kV__law_deck dc__law_deck pm__law_deck cd__law_deck ct__law_deck : Value} {od__law_deck an__law_deck : Option Addr} {sl__law_deck : Array (Option Value)}
    {a__law_mix : Addr} {oc__law_mix kV__law_mix dc__law_mix pm__law_mix cd__law_mix ct__law_mix : Value} {od__law_mix an__law_mix : Option Addr} {sl__law_mix : Array (Option Value)}
    {a__law_next : Addr} {oc__law_next kV__law_next dc__law_next pm__law_next cd__law_next ct__law_next : Value} {od__law_next an__law_next : Option Addr} {sl__law_next : Array (Option Value)}
    {a__law_great : Addr} {oc__law_great kV__law_great dc__law_great pm__law_great cd__law_great ct__law_great : Value} {od__law_great an__law_great : Option Addr} {sl__law_great : Array (Option Value)}
    {a__law_spiral : Addr} {oc__law_spiral kV__law_spiral dc__law_spiral pm__law_spiral cd__law_spiral ct__law_spiral : Value} {od__law_spiral an__law_spiral : Option Addr} {sl__law_spiral : Array (Option Value)}
    {a__law_kind : Addr} {oc__law_kind kV__law_kind dc__law_kind pm__law_kind cd__law_kind ct__law_kind : Value} {od__law_kind an__law_kind : Option Addr} {sl__law_kind : Array (Option Value)}
    {a__law_sign : Addr} {oc__law_sign kV__law_sign dc__law_sign pm__law_sign cd__law_sign ct__law_sign : Value} {od__law_sign an__law_sign : Option Addr} {sl__law_sign : Array (Option Value)}
    {a__law_spoilt : Addr} {oc__law_spoilt kV__law_spoilt dc__law_spoilt pm__law_spoilt cd__law_spoilt ct__law_spoilt : Value} {od__law_spoilt an__law_spoilt : Option Addr} {sl__law_spoilt : Array (Option Value)}
    {a_is_written_number : Addr} {oc_is_written_number kV_is_written_number dc_is_written_number pm_is_written_number cd_is_written_number ct_is_written_number : Value} {od_is_written_number an_is_written_number : Option Addr} {sl_is_written_number : Array (Option Value)}
    {a_read_spiral : Addr} {oc_read_spiral kV_read_spiral dc_read_spiral pm_read_spiral cd_read_spiral ct_read_spiral : Value} {od_read_spiral an_read_spiral : Option Addr} {sl_read_spiral : Array (Option Value)}
    {a__law_due : Addr} {oc__law_due kV__law_due dc__law_due pm__law_due cd__law_due ct__law_due : Value} {od__law_due an__law_due : Option Addr} {sl__law_due : Array (Option Value)}
    {a__law_right : Addr} {oc__law_right kV__law_right dc__law_right pm__law_right cd__law_right ct__law_right : Value} {od__law_right an__law_right : Option Addr} {sl__law_right : Array (Option Value)}
    {a_law : Addr} {oc_law kV_law dc_law pm_law cd_law ct_law : Value} {od_law an_law : Option Addr} {sl_law : Array (Option Value)}
    {a_HEADINGS : Addr}
    {t0_HEADINGS t1_HEADINGS t2_HEADINGS t3_HEADINGS : Tok} {n_HEADINGS : Nat} {sl_HEADINGS : Array (Option Value)}
    {a_TURNS : Addr}
    {t0_TURNS t1_TURNS : Tok} {n_TURNS : Nat} {sl_TURNS : Array (Option Value)}
    {a_LaidError : Addr}
    {a_NoSpiral : Addr}
    {a_NoBox : Addr}
    {a_NoAsk : Addr}
    {a_NoNumber : Addr}
    {cq_NoBox : ClassData}
    {cq_NoNumber : ClassData}
    {cq_NoSpiral : ClassData}
    {cq_NoAsk : ClassData}
    {cq_LaidError : ClassData}
    {aP aC : Addr} {odC : Option Addr} {vsC : Array Value} {slC : Array (Option Value)} {fileC : Str} {tfC tgC ttC t_FIGURES : Tok} {flC txC : Int} {inC : Bool}
    (na__law_deck : PySem.W.nsIn K mainGlobals "_law_deck" = some (some (.ref a__law_deck))) (l__law_deck : K.lookup a__law_deck = some ⟨oc__law_deck, od__law_deck, .func (PySem.W.fnOf "_law_deck" "_law_deck" (defArgs s__law_deck) (defBody s__law_deck) (defScope s__law_deck) .none kV__law_deck dc__law_deck pm__law_deck an__law_deck cd__law_deck ct__law_deck), sl__law_deck⟩) (c__law_deck : PySem.W.codeIn K cd__law_deck "_law_deck" = true) (k__law_deck : PySem.W.keepIn K (.ref a__law_deck) = true)
    (na__law_mix : PySem.W.nsIn K mainGlobals "_law_mix" = some (some (.ref a__law_mix))) (l__law_mix : K.lookup a__law_mix = some ⟨oc__law_mix, od__law_mix, .func (PySem.W.fnOf "_law_mix" "_law_mix" (defArgs s__law_mix) (defBody s__law_mix) (defScope s__law_mix) .none kV__law_mix dc__law_mix pm__law_mix an__law_mix cd__law_mix ct__law_mix), sl__law_mix⟩) (c__law_mix : PySem.W.codeIn K cd__law_mix "_law_mix" = true) (k__law_mix : PySem.W.keepIn K (.ref a__law_mix) = true)
    (na__law_next : PySem.W.nsIn K mainGlobals "_law_next" = some (some (.ref a__law_next))) (l__law_next : K.lookup a__law_next = some ⟨oc__law_next, od__law_next, .func (PySem.W.fnOf "_law_next" "_law_next" (defArgs s__law_next) (defBody s__law_next) (defScope s__law_next) .none kV__law_next dc__law_next pm__law_next an__law_next cd__law_next ct__law_next), sl__law_next⟩) (c__law_next : PySem.W.codeIn K cd__law_next "_law_next" = true) (k__law_next : PySem.W.keepIn K (.ref a__law_next) = true)
    (na__law_great : PySem.W.nsIn K mainGlobals "_law_great" = some (some (.ref a__law_great))) (l__law_great : K.lookup a__law_great = some ⟨oc__law_great, od__law_great, .func (PySem.W.fnOf "_law_great" "_law_great" (defArgs s__law_great) (defBody s__law_great) (defScope s__law_great) .none kV__law_great dc__law_great pm__law_great an__law_great cd__law_great ct__law_great), sl__law_great⟩) (c__law_great : PySem.W.codeIn K cd__law_great "_law_great" = true) (k__law_great : PySem.W.keepIn K (.ref a__law_great) = true)
    (na__law_spiral : PySem.W.nsIn K mainGlobals "_law_spiral" = some (some (.ref a__law_spiral))) (l__law_spiral : K.lookup a__law_spiral = some ⟨oc__law_spiral, od__law_spiral, .func (PySem.W.fnOf "_law_spiral" "_law_spiral" (defArgs s__law_spiral) (defBody s__law_spiral) (defScope s__law_spiral) .none kV__law_spiral dc__law_spiral pm__law_spiral an__law_spiral cd__law_spiral ct__law_spiral), sl__law_spiral⟩) (c__law_spiral : PySem.W.codeIn K cd__law_spiral "_law_spiral" = true) (k__law_spiral : PySem.W.keepIn K (.ref a__law_spiral) = true)
    (na__law_kind : PySem.W.nsIn K mainGlobals "_law_kind" = some (some (.ref a__law_kind))) (l__law_kind : K.lookup a__law_kind = some ⟨oc__law_kind, od__law_kind, .func (PySem.W.fnOf "_law_kind" "_law_kind" (defArgs s__law_kind) (defBody s__law_kind) (defScope s__law_kind) .none kV__law_kind dc__law_kind pm__law_kind an__law_kind cd__law_kind ct__law_kind), sl__law_kind⟩) (c__law_kind : PySem.W.codeIn K cd__law_kind "_law_kind" = true) (k__law_kind : PySem.W.keepIn K (.ref a__law_kind) = true)
    (na__law_sign : PySem.W.nsIn K mainGlobals "_law_sign" = some (some (.ref a__law_sign))) (l__law_sign : K.lookup a__law_sign = some ⟨oc__law_sign, od__law_sign, .func (PySem.W.fnOf "_law_sign" "_law_sign" (defArgs s__law_sign) (defBody s__law_sign) (defScope s__law_sign) .none kV__law_sign dc__law_sign pm__law_sign an__law_sign cd__law_sign ct__law_sign), sl__law_sign⟩) (c__law_sign : PySem.W.codeIn K cd__law_sign "_law_sign" = true) (k__law_sign : PySem.W.keepIn K (.ref a__law_sign) = true)
    (na__law_spoilt : PySem.W.nsIn K mainGlobals "_law_spoilt" = some (some (.ref a__law_spoilt))) (l__law_spoilt : K.lookup a__law_spoilt = some ⟨oc__law_spoilt, od__law_spoilt, .func (PySem.W.fnOf "_law_spoilt" "_law_spoilt" (defArgs s__law_spoilt) (defBody s__law_spoilt) (defScope s__law_spoilt) .none kV__law_spoilt dc__law_spoilt pm__law_spoilt an__law_spoilt cd__law_spoilt ct__law_spoilt), sl__law_spoilt⟩) (c__law_spoilt : PySem.W.codeIn K cd__law_spoilt "_law_spoilt" = true) (k__law_spoilt : PySem.W.keepIn K (.ref a__law_spoilt) = true)
    (na_is_written_number : PySem.W.nsIn K mainGlobals "is_written_number" = some (some (.ref a_is_written_number))) (l_is_written_number : K.lookup a_is_written_number = some ⟨oc_is_written_number, od_is_written_number, .func (PySem.W.fnOf "is_written_number" "is_written_number" (defArgs s_is_written_number) (defBody s_is_written_number) (defScope s_is_written_number) .none kV_is_written_number dc_is_written_number pm_is_written_number an_is_written_number cd_is_written_number ct_is_written_number), sl_is_written_number⟩) (c_is_written_number : PySem.W.codeIn K cd_is_written_number "is_written_number" = true) (k_is_written_number : PySem.W.keepIn K (.ref a_is_written_number) = true)
    (na_read_spiral : PySem.W.nsIn K mainGlobals "read_spiral" = some (some (.ref a_read_spiral))) (l_read_spiral : K.lookup a_read_spiral = some ⟨oc_read_spiral, od_read_spiral, .func (PySem.W.fnOf "read_spiral" "read_spiral" (defArgs s_read_spiral) (defBody s_read_spiral) (defScope s_read_spiral) .none kV_read_spiral dc_read_spiral pm_read_spiral an_read_spiral cd_read_spiral ct_read_spiral), sl_read_spiral⟩) (c_read_spiral : PySem.W.codeIn K cd_read_spiral "read_spiral" = true) (k_read_spiral : PySem.W.keepIn K (.ref a_read_spiral) = true)
    (na__law_due : PySem.W.nsIn K mainGlobals "_law_due" = some (some (.ref a__law_due))) (l__law_due : K.lookup a__law_due = some ⟨oc__law_due, od__law_due, .func (PySem.W.fnOf "_law_due" "_law_due" (defArgs s__law_due) (defBody s__law_due) (defScope s__law_due) .none kV__law_due dc__law_due pm__law_due an__law_due cd__law_due ct__law_due), sl__law_due⟩) (c__law_due : PySem.W.codeIn K cd__law_due "_law_due" = true) (k__law_due : PySem.W.keepIn K (.ref a__law_due) = true)
    (na__law_right : PySem.W.nsIn K mainGlobals "_law_right" = some (some (.ref a__law_right))) (l__law_right : K.lookup a__law_right = some ⟨oc__law_right, od__law_right, .func (PySem.W.fnOf "_law_right" "_law_right" (defArgs s__law_right) (defBody s__law_right) (defScope s__law_right) .none kV__law_right dc__law_right pm__law_right an__law_right cd__law_right ct__law_right), sl__law_right⟩) (c__law_right : PySem.W.codeIn K cd__law_right "_law_right" = true) (k__law_right : PySem.W.keepIn K (.ref a__law_right) = true)
    (na_law : PySem.W.nsIn K mainGlobals "law" = some (some (.ref a_law))) (l_law : K.lookup a_law = some ⟨oc_law, od_law, .func (PySem.W.fnOf "law" "law" (defArgs s_law) (defBody s_law) (defScope s_law) .none kV_law dc_law pm_law an_law cd_law ct_law), sl_law⟩) (c_law : PySem.W.codeIn K cd_law "law" = true) (k_law : PySem.W.keepIn K (.ref a_law) = true)
    (z_ValueError : PySem.W.nsIn K mainGlobals "ValueError" = some none)
    (z_abs : PySem.W.nsIn K mainGlobals "abs" = some none)
    (z_all : PySem.W.nsIn K mainGlobals "all" = some none)
    (z_bool : PySem.W.nsIn K mainGlobals "bool" = some none)
    (z_int : PySem.W.nsIn K mainGlobals "int" = some none)
    (z_isinstance : PySem.W.nsIn K mainGlobals "isinstance" = some none)
    (z_len : PySem.W.nsIn K mainGlobals "len" = some none)
    (z_max : PySem.W.nsIn K mainGlobals "max" = some none)
    (z_range : PySem.W.nsIn K mainGlobals "range" = some none)
    (z_str : PySem.W.nsIn K mainGlobals "str" = some none)
    (z_sum : PySem.W.nsIn K mainGlobals "sum" = some none)
    (z_tuple : PySem.W.nsIn K mainGlobals "tuple" = some none)
    (na_HEADINGS : PySem.W.nsIn K mainGlobals "HEADINGS" = some (some (.ref a_HEADINGS)))
    (l_HEADINGS : K.lookup a_HEADINGS = some ⟨.type "tuple", none, .seq #[.str "e" t0_HEADINGS, .str "n" t1_HEADINGS, .str "w" t2_HEADINGS, .str "s" t3_HEADINGS] n_HEADINGS, sl_HEADINGS⟩)
    (na_TURNS : PySem.W.nsIn K mainGlobals "TURNS" = some (some (.ref a_TURNS)))
    (l_TURNS : K.lookup a_TURNS = some ⟨.type "tuple", none, .seq #[.str "l" t0_TURNS, .str "r" t1_TURNS] n_TURNS, sl_TURNS⟩)
    (na_LaidError : PySem.W.nsIn K mainGlobals "LaidError" = some (some (.ref a_LaidError)))
    (na_NoSpiral : PySem.W.nsIn K mainGlobals "NoSpiral" = some (some (.ref a_NoSpiral)))
    (na_NoBox : PySem.W.nsIn K mainGlobals "NoBox" = some (some (.ref a_NoBox)))
    (na_NoAsk : PySem.W.nsIn K mainGlobals "NoAsk" = some (some (.ref a_NoAsk)))
    (na_NoNumber : PySem.W.nsIn K mainGlobals "NoNumber" = some (some (.ref a_NoNumber)))
    (suB_VE : PySem.W.subIn K (.ref a_NoSpiral) (.type "ValueError") = some true) (uuB : Under K a_NoSpiral a_LaidError) (egB : PySem.W.findIn K (.ref a_NoSpiral) "__getattribute__" = some (some (.builtin "BaseException.__getattribute__"))) (ehB : PySem.W.findIn K (.ref a_NoSpiral) "__getattr__" = some none) (ebB : PySem.W.mroIn K a_NoSpiral (.type "BaseException") = some true) (edB : PySem.W.hasDictIn K a_NoSpiral = true) (eaB : PySem.W.findIn K (.ref a_NoSpiral) "__class__" = some (some (.builtin "object.__class__"))) (emB : PySem.W.mroIn K a_NoSpiral (.type "object") = some true) (enuB : PySem.W.findIn K (.ref a_NoSpiral) "number" = some none) (plB : Pln K a_NoSpiral)
    (uu : Under K a_NoNumber a_LaidError) (eg : PySem.W.findIn K (.ref a_NoNumber) "__getattribute__" = some (some (.builtin "BaseException.__getattribute__"))) (eh : PySem.W.findIn K (.ref a_NoNumber) "__getattr__" = some none) (eb : PySem.W.mroIn K a_NoNumber (.type "BaseException") = some true) (ed : PySem.W.hasDictIn K a_NoNumber = true) (ea : PySem.W.findIn K (.ref a_NoNumber) "__class__" = some (some (.builtin "object.__class__"))) (en : PySem.W.specialIn K (.builtin "object.__class__") "__get__" = some (some (.builtin "getset_descriptor.__get__"))) (et : PySem.W.takesIn K (.builtin "object.__class__") = some true) (em : PySem.W.mroIn K a_NoNumber (.type "object") = some true) (enu : PySem.W.findIn K (.ref a_NoNumber) "number" = some none) (nu : ∀ base, Num P w K mg base a_NoNumber)
    (cc4_NoBox : PySem.W.clsIn K a_NoBox = some cq_NoBox) (ty4_NoBox : PySem.W.typeIn K (.ref a_NoBox) = some (.type "type"))
    (cc4_NoNumber : PySem.W.clsIn K a_NoNumber = some cq_NoNumber) (ty4_NoNumber : PySem.W.typeIn K (.ref a_NoNumber) = some (.type "type"))
    (cc4_NoSpiral : PySem.W.clsIn K a_NoSpiral = some cq_NoSpiral) (ty4_NoSpiral : PySem.W.typeIn K (.ref a_NoSpiral) = some (.type "type"))
    (cc4_NoAsk : PySem.W.clsIn K a_NoAsk = some cq_NoAsk) (ty4_NoAsk : PySem.W.typeIn K (.ref a_NoAsk) = some (.type "type"))
    (cc4_LaidError : PySem.W.clsIn K a_LaidError = some cq_LaidError) (ty4_LaidError : PySem.W.typeIn K (.ref a_LaidError) = some (.type "type"))
    (eg4_NoBox : PySem.W.findIn K (.ref a_NoBox) "__getattribute__" = some (some (.builtin "BaseException.__getattribute__"))) (eh4_NoBox : PySem.W.findIn K (.ref a_NoBox) "__getattr__" = some none) (eb4_NoBox : PySem.W.mroIn K a_NoBox (.type "BaseException") = some true) (ed4_NoBox : PySem.W.hasDictIn K a_NoBox = true) (ea4_NoBox : PySem.W.findIn K (.ref a_NoBox) "__class__" = some (some (.builtin "object.__class__"))) (em4_NoBox : PySem.W.mroIn K a_NoBox (.type "object") = some true) (enu4_NoBox : PySem.W.findIn K (.ref a_NoBox) "number" = some none)
    (ne4_NoBox_NoNumber : (Value.ref a_NoBox == Value.ref a_NoNumber) = false) (su4_NoBox_NoNumber : PySem.W.subIn K (.ref a_NoBox) (.ref a_NoNumber) = some false)
    (ne4_NoBox_NoSpiral : (Value.ref a_NoBox == Value.ref a_NoSpiral) = false) (su4_NoBox_NoSpiral : PySem.W.subIn K (.ref a_NoBox) (.ref a_NoSpiral) = some false)
    (ne4_NoBox_NoAsk : (Value.ref a_NoBox == Value.ref a_NoAsk) = false) (su4_NoBox_NoAsk : PySem.W.subIn K (.ref a_NoBox) (.ref a_NoAsk) = some false)
    (ne4_NoBox_LaidError : (Value.ref a_NoBox == Value.ref a_LaidError) = false) (su4_NoBox_LaidError : PySem.W.subIn K (.ref a_NoBox) (.ref a_LaidError) = some true)
    (sv4_NoBox : PySem.W.subIn K (.ref a_NoBox) (.type "ValueError") = some true)
    (pl4_NoBox : Pln K a_NoBox) (st4_NoBox : PySem.W.findIn K (.ref a_NoBox) "__str__" = some (some (.builtin "BaseException.__str__")))
    (eg4_NoNumber : PySem.W.findIn K (.ref a_NoNumber) "__getattribute__" = some (some (.builtin "BaseException.__getattribute__"))) (eh4_NoNumber : PySem.W.findIn K (.ref a_NoNumber) "__getattr__" = some none) (eb4_NoNumber : PySem.W.mroIn K a_NoNumber (.type "BaseException") = some true) (ed4_NoNumber : PySem.W.hasDictIn K a_NoNumber = true) (ea4_NoNumber : PySem.W.findIn K (.ref a_NoNumber) "__class__" = some (some (.builtin "object.__class__"))) (em4_NoNumber : PySem.W.mroIn K a_NoNumber (.type "object") = some true) (enu4_NoNumber : PySem.W.findIn K (.ref a_NoNumber) "number" = some none)
    (ne4_NoNumber_NoBox : (Value.ref a_NoNumber == Value.ref a_NoBox) = false) (su4_NoNumber_NoBox : PySem.W.subIn K (.ref a_NoNumber) (.ref a_NoBox) = some false)
    (ne4_NoNumber_NoSpiral : (Value.ref a_NoNumber == Value.ref a_NoSpiral) = false) (su4_NoNumber_NoSpiral : PySem.W.subIn K (.ref a_NoNumber) (.ref a_NoSpiral) = some false)
    (ne4_NoNumber_NoAsk : (Value.ref a_NoNumber == Value.ref a_NoAsk) = false) (su4_NoNumber_NoAsk : PySem.W.subIn K (.ref a_NoNumber) (.ref a_NoAsk) = some false)
    (ne4_NoNumber_LaidError : (Value.ref a_NoNumber == Value.ref a_LaidError) = false) (su4_NoNumber_LaidError : PySem.W.subIn K (.ref a_NoNumber) (.ref a_LaidError) = some true)
    (sv4_NoNumber : PySem.W.subIn K (.ref a_NoNumber) (.type "ValueError") = some true)
    (eg4_NoSpiral : PySem.W.findIn K (.ref a_NoSpiral) "__getattribute__" = some (some (.builtin "BaseException.__getattribute__"))) (eh4_NoSpiral : PySem.W.findIn K (.ref a_NoSpiral) "__getattr__" = some none) (eb4_NoSpiral : PySem.W.mroIn K a_NoSpiral (.type "BaseException") = some true) (ed4_NoSpiral : PySem.W.hasDictIn K a_NoSpiral = true) (ea4_NoSpiral : PySem.W.findIn K (.ref a_NoSpiral) "__class__" = some (some (.builtin "object.__class__"))) (em4_NoSpiral : PySem.W.mroIn K a_NoSpiral (.type "object") = some true) (enu4_NoSpiral : PySem.W.findIn K (.ref a_NoSpiral) "number" = some none)
    (ne4_NoSpiral_NoBox : (Value.ref a_NoSpiral == Value.ref a_NoBox) = false) (su4_NoSpiral_NoBox : PySem.W.subIn K (.ref a_NoSpiral) (.ref a_NoBox) = some false)
    (ne4_NoSpiral_NoNumber : (Value.ref a_NoSpiral == Value.ref a_NoNumber) = false) (su4_NoSpiral_NoNumber : PySem.W.subIn K (.ref a_NoSpiral) (.ref a_NoNumber) = some false)
    (ne4_NoSpiral_NoAsk : (Value.ref a_NoSpiral == Value.ref a_NoAsk) = false) (su4_NoSpiral_NoAsk : PySem.W.subIn K (.ref a_NoSpiral) (.ref a_NoAsk) = some false)
    (ne4_NoSpiral_LaidError : (Value.ref a_NoSpiral == Value.ref a_LaidError) = false) (su4_NoSpiral_LaidError : PySem.W.subIn K (.ref a_NoSpiral) (.ref a_LaidError) = some true)
    (sv4_NoSpiral : PySem.W.subIn K (.ref a_NoSpiral) (.type "ValueError") = some true)
    (pl4_NoSpiral : Pln K a_NoSpiral) (st4_NoSpiral : PySem.W.findIn K (.ref a_NoSpiral) "__str__" = some (some (.builtin "BaseException.__str__")))
    (eg4_NoAsk : PySem.W.findIn K (.ref a_NoAsk) "__getattribute__" = some (some (.builtin "BaseException.__getattribute__"))) (eh4_NoAsk : PySem.W.findIn K (.ref a_NoAsk) "__getattr__" = some none) (eb4_NoAsk : PySem.W.mroIn K a_NoAsk (.type "BaseException") = some true) (ed4_NoAsk : PySem.W.hasDictIn K a_NoAsk = true) (ea4_NoAsk : PySem.W.findIn K (.ref a_NoAsk) "__class__" = some (some (.builtin "object.__class__"))) (em4_NoAsk : PySem.W.mroIn K a_NoAsk (.type "object") = some true) (enu4_NoAsk : PySem.W.findIn K (.ref a_NoAsk) "number" = some none)
    (ne4_NoAsk_NoBox : (Value.ref a_NoAsk == Value.ref a_NoBox) = false) (su4_NoAsk_NoBox : PySem.W.subIn K (.ref a_NoAsk) (.ref a_NoBox) = some false)
    (ne4_NoAsk_NoNumber : (Value.ref a_NoAsk == Value.ref a_NoNumber) = false) (su4_NoAsk_NoNumber : PySem.W.subIn K (.ref a_NoAsk) (.ref a_NoNumber) = some false)
    (ne4_NoAsk_NoSpiral : (Value.ref a_NoAsk == Value.ref a_NoSpiral) = false) (su4_NoAsk_NoSpiral : PySem.W.subIn K (.ref a_NoAsk) (.ref a_NoSpiral) = some false)
    (ne4_NoAsk_LaidError : (Value.ref a_NoAsk == Value.ref a_LaidError) = false) (su4_NoAsk_LaidError : PySem.W.subIn K (.ref a_NoAsk) (.ref a_LaidError) = some true)
    (sv4_NoAsk : PySem.W.subIn K (.ref a_NoAsk) (.type "ValueError") = some true)
    (pl4_NoAsk : Pln K a_NoAsk) (st4_NoAsk : PySem.W.findIn K (.ref a_NoAsk) "__str__" = some (some (.builtin "BaseException.__str__")))
    (eC : cd_is_written_number = .ref aC) (lC : K.lookup aC = some ⟨.type "code", odC, .fields vsC, slC⟩) (h11 : vsC[11]? = some (.ref aP)) (h18 : vsC.getD 18 .none = .str fileC tfC) (h7 : vsC.getD 7 .none = .int flC tgC) (h9 : vsC.getD 9 .none = .bool inC) (h10 : vsC.getD 10 .none = .int txC ttC) (noP : K.lookup aP = none) (na_FIGURES : PySem.W.nsIn K mainGlobals "FIGURES" = some (some (.str "0123456789" t_FIGURES))) :
    ∃ Pt : Addr, DL.TblK K mg "is_written_number" Pt ∧ ∃ fd : FuncData, (∀ (s : Shared) (v : Value), BindsTo s fd ⟨[v], []⟩ [("script", v)]) ∧ ∀ base : Heap, K.In base → base.Ns mainGlobals mg → BmB base mg → FnOk P w K mg base CX0 5 fa fd ["script"] (spD K (F_law Pt)) := by
  obtain rfl : a_law = fa := by
    have e := hfa.symm.trans (PySem.W.mg_of X G na_law)
    cases e; rfl
  let T : ∀ base : Heap, BmB base mg → Tx P w K mg base := fun base bB => {
    a__law_deck := a__law_deck, fd__law_deck := _, F__law_deck := fun_mk (st := s__law_deck) l__law_deck c__law_deck k__law_deck, m__law_deck := PySem.W.mg_of X G na__law_deck, n__law_deck := (fun_mk (st := s__law_deck) l__law_deck c__law_deck k__law_deck).binds (ps := ["script"]) fun _ _ _ _ _ _ us hl => match us, hl with | [_], _ => rfl,
    a__law_mix := a__law_mix, fd__law_mix := _, F__law_mix := fun_mk (st := s__law_mix) l__law_mix c__law_mix k__law_mix, m__law_mix := PySem.W.mg_of X G na__law_mix, n__law_mix := (fun_mk (st := s__law_mix) l__law_mix c__law_mix k__law_mix).binds (ps := ["cell", "k"]) fun _ _ _ _ _ _ us hl => match us, hl with | [_, _], _ => rfl,
    a__law_next := a__law_next, fd__law_next := _, F__law_next := fun_mk (st := s__law_next) l__law_next c__law_next k__law_next, m__law_next := PySem.W.mg_of X G na__law_next, n__law_next := (fun_mk (st := s__law_next) l__law_next c__law_next k__law_next).binds (ps := ["deck", "many"]) fun _ _ _ _ _ _ us hl => match us, hl with | [_, _], _ => rfl,
    a__law_great := a__law_great, fd__law_great := _, F__law_great := fun_mk (st := s__law_great) l__law_great c__law_great k__law_great, m__law_great := PySem.W.mg_of X G na__law_great, n__law_great := (fun_mk (st := s__law_great) l__law_great c__law_great k__law_great).binds (ps := ["deck", "most"]) fun _ _ _ _ _ _ us hl => match us, hl with | [_, _], _ => rfl,
    a__law_spiral := a__law_spiral, fd__law_spiral := _, F__law_spiral := fun_mk (st := s__law_spiral) l__law_spiral c__law_spiral k__law_spiral, m__law_spiral := PySem.W.mg_of X G na__law_spiral, n__law_spiral := (fun_mk (st := s__law_spiral) l__law_spiral c__law_spiral k__law_spiral).binds (ps := ["deck"]) fun _ _ _ _ _ _ us hl => match us, hl with | [_], _ => rfl,
    a__law_kind := a__law_kind, fd__law_kind := _, F__law_kind := fun_mk (st := s__law_kind) l__law_kind c__law_kind k__law_kind, m__law_kind := PySem.W.mg_of X G na__law_kind, n__law_kind := (fun_mk (st := s__law_kind) l__law_kind c__law_kind k__law_kind).binds (ps := ["caught"]) fun _ _ _ _ _ _ us hl => match us, hl with | [_], _ => rfl,
    a__law_sign := a__law_sign, fd__law_sign := _, F__law_sign := fun_mk (st := s__law_sign) l__law_sign c__law_sign k__law_sign, m__law_sign := PySem.W.mg_of X G na__law_sign, n__law_sign := (fun_mk (st := s__law_sign) l__law_sign c__law_sign k__law_sign).binds (ps := ["deck"]) fun _ _ _ _ _ _ us hl => match us, hl with | [_], _ => rfl,
    a__law_spoilt := a__law_spoilt, fd__law_spoilt := _, F__law_spoilt := fun_mk (st := s__law_spoilt) l__law_spoilt c__law_spoilt k__law_spoilt, m__law_spoilt := PySem.W.mg_of X G na__law_spoilt, n__law_spoilt := (fun_mk (st := s__law_spoilt) l__law_spoilt c__law_spoilt k__law_spoilt).binds (ps := ["deck", "text"]) fun _ _ _ _ _ _ us hl => match us, hl with | [_, _], _ => rfl,
    a_is_written_number := a_is_written_number, fd_is_written_number := _, F_is_written_number := fun_mk (st := s_is_written_number) l_is_written_number c_is_written_number k_is_written_number, m_is_written_number := PySem.W.mg_of X G na_is_written_number, n_is_written_number := (fun_mk (st := s_is_written_number) l_is_written_number c_is_written_number k_is_written_number).binds (ps := ["text"]) fun _ _ _ _ _ _ us hl => match us, hl with | [_], _ => rfl,
    a_read_spiral := a_read_spiral, fd_read_spiral := _, F_read_spiral := fun_mk (st := s_read_spiral) l_read_spiral c_read_spiral k_read_spiral, m_read_spiral := PySem.W.mg_of X G na_read_spiral, n_read_spiral := (fun_mk (st := s_read_spiral) l_read_spiral c_read_spiral k_read_spiral).binds (ps := ["text"]) fun _ _ _ _ _ _ us hl => match us, hl with | [_], _ => rfl,
    a__law_due := a__law_due, fd__law_due := _, F__law_due := fun_mk (st := s__law_due) l__law_due c__law_due k__law_due, m__law_due := PySem.W.mg_of X G na__law_due, n__law_due := (fun_mk (st := s__law_due) l__law_due c__law_due k__law_due).binds (ps := ["text"]) fun _ _ _ _ _ _ us hl => match us, hl with | [_], _ => rfl,
    a__law_right := a__law_right, fd__law_right := _, F__law_right := fun_mk (st := s__law_right) l__law_right c__law_right k__law_right, m__law_right := PySem.W.mg_of X G na__law_right, n__law_right := (fun_mk (st := s__law_right) l__law_right c__law_right k__law_right).binds (ps := ["text"]) fun _ _ _ _ _ _ us hl => match us, hl with | [_], _ => rfl,
    a_law := a_law, fd_law := _, F_law := fun_mk (st := s_law) l_law c_law k_law, m_law := PySem.W.mg_of X G na_law, n_law := (fun_mk (st := s_law) l_law c_law k_law).binds (ps := ["script"]) fun _ _ _ _ _ _ us hl => match us, hl with | [_], _ => rfl,
    b_ValueError := PySem.W.mg_none_of X G z_ValueError,
    b_abs := PySem.W.mg_none_of X G z_abs,
    b_all := PySem.W.mg_none_of X G z_all,
    b_bool := PySem.W.mg_none_of X G z_bool,
    b_int := PySem.W.mg_none_of X G z_int,
    b_isinstance := PySem.W.mg_none_of X G z_isinstance,
    b_len := PySem.W.mg_none_of X G z_len,
    b_max := PySem.W.mg_none_of X G z_max,
    b_range := PySem.W.mg_none_of X G z_range,
    b_str := PySem.W.mg_none_of X G z_str,
    b_sum := PySem.W.mg_none_of X G z_sum,
    b_tuple := PySem.W.mg_none_of X G z_tuple,
    a_HEADINGS := a_HEADINGS, m_HEADINGS := PySem.W.mg_of X G na_HEADINGS, d_HEADINGS := fun I => Dp.tup ((fun I => .inr ⟨_, _, _, l_HEADINGS, rfl, rfl, szk (k := 4) (by decide), (.cons (relS _ _) (.cons (relS _ _) (.cons (relS _ _) (.cons (relS _ _) .nil))))⟩) I) (.cons (Dp.str _) (.cons (Dp.str _) (.cons (Dp.str _) (.cons (Dp.str _) .nil)))), t_HEADINGS := _, c_HEADINGS := _, l_HEADINGS := _, k_HEADINGS := l_HEADINGS, s_HEADINGS := (fun I => .inr ⟨_, _, _, l_HEADINGS, rfl, rfl, szk (k := 4) (by decide), (.cons (relS _ _) (.cons (relS _ _) (.cons (relS _ _) (.cons (relS _ _) .nil))))⟩), a_HEADINGS_all := fun I => (.cons (Dp.str _) (.cons (Dp.str _) (.cons (Dp.str _) (.cons (Dp.str _) .nil)))),
    a_TURNS := a_TURNS, m_TURNS := PySem.W.mg_of X G na_TURNS, d_TURNS := fun I => Dp.tup ((fun I => .inr ⟨_, _, _, l_TURNS, rfl, rfl, szk (k := 2) (by decide), (.cons (relS _ _) (.cons (relS _ _) .nil))⟩) I) (.cons (Dp.str _) (.cons (Dp.str _) .nil)), t_TURNS := _, c_TURNS := _, l_TURNS := _, k_TURNS := l_TURNS, s_TURNS := (fun I => .inr ⟨_, _, _, l_TURNS, rfl, rfl, szk (k := 2) (by decide), (.cons (relS _ _) (.cons (relS _ _) .nil))⟩), a_TURNS_all := fun I => (.cons (Dp.str _) (.cons (Dp.str _) .nil)),
    a_LaidError := a_LaidError, m_LaidError := PySem.W.mg_of X G na_LaidError,
    a_NoSpiral := a_NoSpiral, m_NoSpiral := PySem.W.mg_of X G na_NoSpiral,
    a_NoBox := a_NoBox, m_NoBox := PySem.W.mg_of X G na_NoBox,
    a_NoAsk := a_NoAsk, m_NoAsk := PySem.W.mg_of X G na_NoAsk,
    a_NoNumber := a_NoNumber, m_NoNumber := PySem.W.mg_of X G na_NoNumber,
    kB_ValueError := kitOne_VE suB_VE, UB := uuB, EB := ⟨egB, ehB, ebB, edB, eaB, en, et, emB, enuB⟩, Pl := plB,
    X_NoBox := ⟨eg4_NoBox, eh4_NoBox, eb4_NoBox, ed4_NoBox, ea4_NoBox, en, et, em4_NoBox, enu4_NoBox⟩,
    q_NoBox_NoBox := kitOne_same,
    q_NoBox_NoNumber := kitOne_of ne4_NoBox_NoNumber cc4_NoNumber ty4_NoNumber su4_NoBox_NoNumber,
    q_NoBox_NoSpiral := kitOne_of ne4_NoBox_NoSpiral cc4_NoSpiral ty4_NoSpiral su4_NoBox_NoSpiral,
    q_NoBox_NoAsk := kitOne_of ne4_NoBox_NoAsk cc4_NoAsk ty4_NoAsk su4_NoBox_NoAsk,
    q_NoBox_LaidError := kitOne_of ne4_NoBox_LaidError cc4_LaidError ty4_LaidError su4_NoBox_LaidError,
    q_NoBox_ValueError := kitOne_VE sv4_NoBox,
    P_NoBox := pl4_NoBox, S_NoBox := ⟨⟨eg4_NoBox, eh4_NoBox, eb4_NoBox, ed4_NoBox, ea4_NoBox, en, et, em4_NoBox, enu4_NoBox⟩, st4_NoBox⟩,
    X_NoNumber := ⟨eg4_NoNumber, eh4_NoNumber, eb4_NoNumber, ed4_NoNumber, ea4_NoNumber, en, et, em4_NoNumber, enu4_NoNumber⟩,
    q_NoNumber_NoBox := kitOne_of ne4_NoNumber_NoBox cc4_NoBox ty4_NoBox su4_NoNumber_NoBox,
    q_NoNumber_NoNumber := kitOne_same,
    q_NoNumber_NoSpiral := kitOne_of ne4_NoNumber_NoSpiral cc4_NoSpiral ty4_NoSpiral su4_NoNumber_NoSpiral,
    q_NoNumber_NoAsk := kitOne_of ne4_NoNumber_NoAsk cc4_NoAsk ty4_NoAsk su4_NoNumber_NoAsk,
    q_NoNumber_LaidError := kitOne_of ne4_NoNumber_LaidError cc4_LaidError ty4_LaidError su4_NoNumber_LaidError,
    q_NoNumber_ValueError := kitOne_VE sv4_NoNumber,
    X_NoSpiral := ⟨eg4_NoSpiral, eh4_NoSpiral, eb4_NoSpiral, ed4_NoSpiral, ea4_NoSpiral, en, et, em4_NoSpiral, enu4_NoSpiral⟩,
    q_NoSpiral_NoBox := kitOne_of ne4_NoSpiral_NoBox cc4_NoBox ty4_NoBox su4_NoSpiral_NoBox,
    q_NoSpiral_NoNumber := kitOne_of ne4_NoSpiral_NoNumber cc4_NoNumber ty4_NoNumber su4_NoSpiral_NoNumber,
    q_NoSpiral_NoSpiral := kitOne_same,
    q_NoSpiral_NoAsk := kitOne_of ne4_NoSpiral_NoAsk cc4_NoAsk ty4_NoAsk su4_NoSpiral_NoAsk,
    q_NoSpiral_LaidError := kitOne_of ne4_NoSpiral_LaidError cc4_LaidError ty4_LaidError su4_NoSpiral_LaidError,
    q_NoSpiral_ValueError := kitOne_VE sv4_NoSpiral,
    P_NoSpiral := pl4_NoSpiral, S_NoSpiral := ⟨⟨eg4_NoSpiral, eh4_NoSpiral, eb4_NoSpiral, ed4_NoSpiral, ea4_NoSpiral, en, et, em4_NoSpiral, enu4_NoSpiral⟩, st4_NoSpiral⟩,
    X_NoAsk := ⟨eg4_NoAsk, eh4_NoAsk, eb4_NoAsk, ed4_NoAsk, ea4_NoAsk, en, et, em4_NoAsk, enu4_NoAsk⟩,
    q_NoAsk_NoBox := kitOne_of ne4_NoAsk_NoBox cc4_NoBox ty4_NoBox su4_NoAsk_NoBox,
    q_NoAsk_NoNumber := kitOne_of ne4_NoAsk_NoNumber cc4_NoNumber ty4_NoNumber su4_NoAsk_NoNumber,
    q_NoAsk_NoSpiral := kitOne_of ne4_NoAsk_NoSpiral cc4_NoSpiral ty4_NoSpiral su4_NoAsk_NoSpiral,
    q_NoAsk_NoAsk := kitOne_same,
    q_NoAsk_LaidError := kitOne_of ne4_NoAsk_LaidError cc4_LaidError ty4_LaidError su4_NoAsk_LaidError,
    q_NoAsk_ValueError := kitOne_VE sv4_NoAsk,
    P_NoAsk := pl4_NoAsk, S_NoAsk := ⟨⟨eg4_NoAsk, eh4_NoAsk, eb4_NoAsk, ed4_NoAsk, ea4_NoAsk, en, et, em4_NoAsk, enu4_NoAsk⟩, st4_NoAsk⟩,
    U := uu, E := ⟨eg, eh, eb, ed, ea, en, et, em, enu⟩, Nu := nu,
    aP := aP, aC := aC, gk := ⟨⟨_, _, _, _, _, _, _, _, _, lC, rfl, rfl, h11, h18, h7, h9, h10⟩, noP⟩, bm := bB, gc := eC, t_FIGURES := t_FIGURES, m_FIGURES := PySem.W.mg_of X G na_FIGURES }
  exact ⟨aP, ⟨⟨_, _, _, _, _, aC, _, _, _, _, PySem.W.mg_of X G na_is_written_number, l_is_written_number, eC, lC, h11⟩, noP⟩, fdOfL l_law, fun s v => .of_eq rfl, fun base _ _ bB => ok_law (T base bB)⟩
end K02
open PySem PySem.W PyProof.Rows
set_option maxRecDepth 100000 in
set_option maxHeartbeats 0 in
theorem PySem.Challenge.cw_laidround_k02_texts_of_no_spirals_holds : PySem.Challenge.rw_laidround_k02_texts_of_no_spirals.Holds := by
  w_on; o_law; k_head; (case hw => w_witness2)
  k_fill
  refine DL.walk_ofP (l := PySem.Challenge.rw_laidround_k02_texts_of_no_spirals) (n := 63) (k := 5) (x := "script") (nm := "is_written_number") (F0 := _root_.K02.F_law) rfl (by decide) rfl ⟨rfl, by decide, by decide⟩ (fun w h Y => PySem.W.kIn_of Y) (by rfl) ?F ?S ?hmo
  case F =>
    intro w mg fa h KX G hmg
    refine' _root_.K02.fin_mk KX G hmg ?na__law_deck ?l__law_deck ?c__law_deck ?k__law_deck ?na__law_mix ?l__law_mix ?c__law_mix ?k__law_mix ?na__law_next ?l__law_next ?c__law_next ?k__law_next ?na__law_great ?l__law_great ?c__law_great ?k__law_great ?na__law_spiral ?l__law_spiral ?c__law_spiral ?k__law_spiral ?na__law_kind ?l__law_kind ?c__law_kind ?k__law_kind ?na__law_sign ?l__law_sign ?c__law_sign ?k__law_sign ?na__law_spoilt ?l__law_spoilt ?c__law_spoilt ?k__law_spoilt ?na_is_written_number ?l_is_written_number ?c_is_written_number ?k_is_written_number ?na_read_spiral ?l_read_spiral ?c_read_spiral ?k_read_spiral ?na__law_due ?l__law_due ?c__law_due ?k__law_due ?na__law_right ?l__law_right ?c__law_right ?k__law_right ?na_law ?l_law ?c_law ?k_law ?z_ValueError ?z_abs ?z_all ?z_bool ?z_int ?z_isinstance ?z_len ?z_max ?z_range ?z_str ?z_sum ?z_tuple ?na_HEADINGS ?l_HEADINGS ?na_TURNS ?l_TURNS ?na_LaidError ?na_NoSpiral ?na_NoBox ?na_NoAsk ?na_NoNumber ?suB_VE ?uuB ?egB ?ehB ?ebB ?edB ?eaB ?emB ?enuB ?plB ?uu ?eg ?eh ?eb ?ed ?ea ?en ?et ?em ?enu ?nu ?cc4_NoBox ?ty4_NoBox ?cc4_NoNumber ?ty4_NoNumber ?cc4_NoSpiral ?ty4_NoSpiral ?cc4_NoAsk ?ty4_NoAsk ?cc4_LaidError ?ty4_LaidError ?eg4_NoBox ?eh4_NoBox ?eb4_NoBox ?ed4_NoBox ?ea4_NoBox ?em4_NoBox ?enu4_NoBox ?ne4_NoBox_NoNumber ?su4_NoBox_NoNumber ?ne4_NoBox_NoSpiral ?su4_NoBox_NoSpiral ?ne4_NoBox_NoAsk ?su4_NoBox_NoAsk ?ne4_NoBox_LaidError ?su4_NoBox_LaidError ?sv4_NoBox ?pl4_NoBox ?st4_NoBox ?eg4_NoNumber ?eh4_NoNumber ?eb4_NoNumber ?ed4_NoNumber ?ea4_NoNumber ?em4_NoNumber ?enu4_NoNumber ?ne4_NoNumber_NoBox ?su4_NoNumber_NoBox ?ne4_NoNumber_NoSpiral ?su4_NoNumber_NoSpiral ?ne4_NoNumber_NoAsk ?su4_NoNumber_NoAsk ?ne4_NoNumber_LaidError ?su4_NoNumber_LaidError ?sv4_NoNumber ?eg4_NoSpiral ?eh4_NoSpiral ?eb4_NoSpiral ?ed4_NoSpiral ?ea4_NoSpiral ?em4_NoSpiral ?enu4_NoSpiral ?ne4_NoSpiral_NoBox ?su4_NoSpiral_NoBox ?ne4_NoSpiral_NoNumber ?su4_NoSpiral_NoNumber ?ne4_NoSpiral_NoAsk ?su4_NoSpiral_NoAsk ?ne4_NoSpiral_LaidError ?su4_NoSpiral_LaidError ?sv4_NoSpiral ?pl4_NoSpiral ?st4_NoSpiral ?eg4_NoAsk ?eh4_NoAsk ?eb4_NoAsk ?ed4_NoAsk ?ea4_NoAsk ?em4_NoAsk ?enu4_NoAsk ?ne4_NoAsk_NoBox ?su4_NoAsk_NoBox ?ne4_NoAsk_NoNumber ?su4_NoAsk_NoNumber ?ne4_NoAsk_NoSpiral ?su4_NoAsk_NoSpiral ?ne4_NoAsk_LaidError ?su4_NoAsk_LaidError ?sv4_NoAsk ?pl4_NoAsk ?st4_NoAsk ?eC ?lC ?h11 ?h18 ?h7 ?h9 ?h10 ?noP ?na_FIGURES
    (case na__law_deck => k_is)
    (case l__law_deck => k_is)
    (case c__law_deck => k_is)
    (case k__law_deck => k_is)
    (case na__law_mix => k_is)
    (case l__law_mix => k_is)
    (case c__law_mix => k_is)
    (case k__law_mix => k_is)
    (case na__law_next => k_is)
    (case l__law_next => k_is)
    (case c__law_next => k_is)
    (case k__law_next => k_is)
    (case na__law_great => k_is)
    (case l__law_great => k_is)
    (case c__law_great => k_is)
    (case k__law_great => k_is)
    (case na__law_spiral => k_is)
    (case l__law_spiral => k_is)
    (case c__law_spiral => k_is)
    (case k__law_spiral => k_is)
    (case na__law_kind => k_is)
    (case l__law_kind => k_is)
    (case c__law_kind => k_is)
    (case k__law_kind => k_is)
    (case na__law_sign => k_is)
    (case l__law_sign => k_is)
    (case c__law_sign => k_is)
    (case k__law_sign => k_is)
    (case na__law_spoilt => k_is)
    (case l__law_spoilt => k_is)
    (case c__law_spoilt => k_is)
    (case k__law_spoilt => k_is)
    (case na_is_written_number => k_is)
    (case l_is_written_number => k_is)
    (case c_is_written_number => k_is)
    (case k_is_written_number => k_is)
    (case na_read_spiral => k_is)
    (case l_read_spiral => k_is)
    (case c_read_spiral => k_is)
    (case k_read_spiral => k_is)
    (case na__law_due => k_is)
    (case l__law_due => k_is)
    (case c__law_due => k_is)
    (case k__law_due => k_is)
    (case na__law_right => k_is)
    (case l__law_right => k_is)
    (case c__law_right => k_is)
    (case k__law_right => k_is)
    (case na_law => k_is)
    (case l_law => k_is)
    (case c_law => k_is)
    (case k_law => k_is)
    (case z_ValueError => k_is)
    (case z_abs => k_is)
    (case z_all => k_is)
    (case z_bool => k_is)
    (case z_int => k_is)
    (case z_isinstance => k_is)
    (case z_len => k_is)
    (case z_max => k_is)
    (case z_range => k_is)
    (case z_str => k_is)
    (case z_sum => k_is)
    (case z_tuple => k_is)
    (case na_HEADINGS => k_is)
    (case l_HEADINGS => k_is)
    (case na_TURNS => k_is)
    (case l_TURNS => k_is)
    (case na_LaidError => k_is)
    (case na_NoSpiral => k_is)
    (case na_NoBox => k_is)
    (case na_NoAsk => k_is)
    (case na_NoNumber => k_is)
    (case suB_VE => k_is)
    (case uuB => refine' DL.under_of ?u1 ?u2 ?u3 ?u4; (case u1 => k_is); (case u2 => first | rfl | decide); (case u3 => k_is); (case u4 => first | rfl | decide))
    (case egB => k_is)
    (case ehB => k_is)
    (case ebB => k_is)
    (case edB => k_is)
    (case eaB => k_is)
    (case emB => k_is)
    (case enuB => k_is)
    (case plB => refine' DL.pln_of ?p1 ?p2 ?p3 ?p4 ?p5 ?p6 ?p7; (case p1 => k_is); (case p2 => k_is); (case p3 => kernel_rfl); (case p4 => k_is); (case p5 => k_is); (case p6 => kernel_rfl); (case p7 => k_is))
    (case uu => refine' DL.under_of ?u1 ?u2 ?u3 ?u4; (case u1 => k_is); (case u2 => first | rfl | decide); (case u3 => k_is); (case u4 => first | rfl | decide))
    (case eg => k_is)
    (case eh => k_is)
    (case eb => k_is)
    (case ed => k_is)
    (case ea => k_is)
    (case en => k_is)
    (case et => k_is)
    (case em => k_is)
    (case enu => k_is)
    (case nu => intro base; refine' DL.num_of ?hC ?hcN ?hni ?hL ?hLN ?hLi ?hf ?hcd ?hcc ?hvs ?hfile ?htop ?hcell ?hz ?hkp ?hsub ?hop ?hal ?h1 ?h2 ?he ?hi ?hsw ?hsw2 ?hbind ?hcells ?hpre ?hk ?hks ?hkc ?hkn ?hke ?hp ?har ?hco ?hgen; (case hC => k_is); (case hcN => kernel_rfl); (case hni => k_is); (case hL => k_is); (case hLN => kernel_rfl); (case hLi => k_is); (case hf => k_is); (case hcd => k_is); (case hcc => k_is); (case hvs => rfl); (case hfile => first | rfl | decide +kernel); (case htop => first | rfl | decide +kernel); (case hcell => k_is); (case hz => k_is); (case hkp => k_is); (case hsub => k_is); (case hop => k_is); (case hal => kernel_rfl); (case h1 => k_is); (case h2 => k_is); (case he => exact fun _ => rfl); (case hi => exact fun _ => rfl); (case hsw => exact fun _ => rfl); (case hsw2 => exact fun _ => rfl); (case hbind => exact fun _ _ _ _ => .of_eq rfl); (case hcells => decide); (case hpre => decide +kernel); (case hk => rfl); (case hks => rfl); (case hkc => rfl); (case hkn => rfl); (case hke => rfl); (case hp => rfl); (case har => rfl); (case hco => rfl); (case hgen => rfl))
    (case cc4_NoBox => k_is)
    (case ty4_NoBox => k_is)
    (case cc4_NoNumber => k_is)
    (case ty4_NoNumber => k_is)
    (case cc4_NoSpiral => k_is)
    (case ty4_NoSpiral => k_is)
    (case cc4_NoAsk => k_is)
    (case ty4_NoAsk => k_is)
    (case cc4_LaidError => k_is)
    (case ty4_LaidError => k_is)
    (case eg4_NoBox => k_is)
    (case eh4_NoBox => k_is)
    (case eb4_NoBox => k_is)
    (case ed4_NoBox => k_is)
    (case ea4_NoBox => k_is)
    (case em4_NoBox => k_is)
    (case enu4_NoBox => k_is)
    (case ne4_NoBox_NoNumber => first | rfl | decide)
    (case su4_NoBox_NoNumber => k_is)
    (case ne4_NoBox_NoSpiral => first | rfl | decide)
    (case su4_NoBox_NoSpiral => k_is)
    (case ne4_NoBox_NoAsk => first | rfl | decide)
    (case su4_NoBox_NoAsk => k_is)
    (case ne4_NoBox_LaidError => first | rfl | decide)
    (case su4_NoBox_LaidError => k_is)
    (case sv4_NoBox => k_is)
    (case pl4_NoBox => refine' DL.pln_of ?p1 ?p2 ?p3 ?p4 ?p5 ?p6 ?p7; (case p1 => k_is); (case p2 => k_is); (case p3 => kernel_rfl); (case p4 => k_is); (case p5 => k_is); (case p6 => kernel_rfl); (case p7 => k_is))
    (case st4_NoBox => k_is)
    (case eg4_NoNumber => k_is)
    (case eh4_NoNumber => k_is)
    (case eb4_NoNumber => k_is)
    (case ed4_NoNumber => k_is)
    (case ea4_NoNumber => k_is)
    (case em4_NoNumber => k_is)
    (case enu4_NoNumber => k_is)
    (case ne4_NoNumber_NoBox => first | rfl | decide)
    (case su4_NoNumber_NoBox => k_is)
    (case ne4_NoNumber_NoSpiral => first | rfl | decide)
    (case su4_NoNumber_NoSpiral => k_is)
    (case ne4_NoNumber_NoAsk => first | rfl | decide)
    (case su4_NoNumber_NoAsk => k_is)
    (case ne4_NoNumber_LaidError => first | rfl | decide)
    (case su4_NoNumber_LaidError => k_is)
    (case sv4_NoNumber => k_is)
    (case eg4_NoSpiral => k_is)
    (case eh4_NoSpiral => k_is)
    (case eb4_NoSpiral => k_is)
    (case ed4_NoSpiral => k_is)
    (case ea4_NoSpiral => k_is)
    (case em4_NoSpiral => k_is)
    (case enu4_NoSpiral => k_is)
    (case ne4_NoSpiral_NoBox => first | rfl | decide)
    (case su4_NoSpiral_NoBox => k_is)
    (case ne4_NoSpiral_NoNumber => first | rfl | decide)
    (case su4_NoSpiral_NoNumber => k_is)
    (case ne4_NoSpiral_NoAsk => first | rfl | decide)
    (case su4_NoSpiral_NoAsk => k_is)
    (case ne4_NoSpiral_LaidError => first | rfl | decide)
    (case su4_NoSpiral_LaidError => k_is)
    (case sv4_NoSpiral => k_is)
    (case pl4_NoSpiral => refine' DL.pln_of ?p1 ?p2 ?p3 ?p4 ?p5 ?p6 ?p7; (case p1 => k_is); (case p2 => k_is); (case p3 => kernel_rfl); (case p4 => k_is); (case p5 => k_is); (case p6 => kernel_rfl); (case p7 => k_is))
    (case st4_NoSpiral => k_is)
    (case eg4_NoAsk => k_is)
    (case eh4_NoAsk => k_is)
    (case eb4_NoAsk => k_is)
    (case ed4_NoAsk => k_is)
    (case ea4_NoAsk => k_is)
    (case em4_NoAsk => k_is)
    (case enu4_NoAsk => k_is)
    (case ne4_NoAsk_NoBox => first | rfl | decide)
    (case su4_NoAsk_NoBox => k_is)
    (case ne4_NoAsk_NoNumber => first | rfl | decide)
    (case su4_NoAsk_NoNumber => k_is)
    (case ne4_NoAsk_NoSpiral => first | rfl | decide)
    (case su4_NoAsk_NoSpiral => k_is)
    (case ne4_NoAsk_LaidError => first | rfl | decide)
    (case su4_NoAsk_LaidError => k_is)
    (case sv4_NoAsk => k_is)
    (case pl4_NoAsk => refine' DL.pln_of ?p1 ?p2 ?p3 ?p4 ?p5 ?p6 ?p7; (case p1 => k_is); (case p2 => k_is); (case p3 => kernel_rfl); (case p4 => k_is); (case p5 => k_is); (case p6 => kernel_rfl); (case p7 => k_is))
    (case st4_NoAsk => k_is)
    (case eC => rfl)
    (case lC => k_is)
    (case h11 => rfl)
    (case h18 => rfl)
    (case h7 => rfl)
    (case h9 => rfl)
    (case h10 => rfl)
    (case noP => kernel_rfl)
    (case na_FIGURES => k_is)
  case S => exact fun Pt ns hl => ⟨ns, rfl, hl, DL.setM_same, fun _ => rfl⟩
  case hmo => exact fun Pt => _root_.K02.mo_law
#print axioms PySem.Challenge.cw_laidround_k02_texts_of_no_spirals_holds

