import PyProof.Rows.All
import Wide.All
import OpenK.AllK
import Wide.FinOn
import PyProof.EqAt
import PyProof.EqKinds
import PyProof.TupleCall
import KE.BitLaws
import Open.SpecLaws
import KE.OsHead
import KE.OsGo
import PySem.Challenge.RW_postmeters_s01_answers
set_option Elab.async false
set_option linter.all false
set_option maxRecDepth 100000
set_option maxHeartbeats 2000000
namespace Hd
open PySem PySem.W PyProof.Rows
theorem ws : PySem.Challenge.rw_postmeters_s01_answers.wellSaid = true := by decide +kernel
theorem ba : PySem.Challenge.rw_postmeters_s01_answers.prog.bare := ⟨rfl, rfl, rfl, rfl, rfl, by decide +kernel⟩
end Hd
section
set_option maxRecDepth 100000
namespace L2
open PySem PySem.Spec PyProof.Rows
noncomputable abbrev Key := Sum Int Str
noncomputable def keyIs : Key → Value → Bool
 | .inl k, v => Value.isInt k v
 | .inr x, v => Value.isStrOf x v
noncomputable def keyH (w : World) : Key → Int
 | .inl k => hashInt k
 | .inr x => hashStr w x
theorem keyIs_shape : ∀ {k : Key} {v : Value}, keyIs k v = true → (∃ i t, k = Sum.inl i ∧ v = Value.int i t) ∨ (∃ x t, k = Sum.inr x ∧ v = Value.str x t)
 | .inl i, v, h => by
  obtain ⟨t, e⟩ := Value.isInt_shape (k := i) (v := v) h
  exact .inl ⟨i, t, rfl, e⟩
 | .inr x, v, h => by
  obtain ⟨t, e⟩ := Value.isStrOf_shape (x := x) (v := v) h
  exact .inr ⟨x, t, rfl, e⟩
theorem keyIs_int (i : Int) (t : Tok) : keyIs (.inl i) (.int i t) = true := by simp [keyIs, Value.isInt]
theorem keyIs_str (x : Str) (t : Tok) : keyIs (.inr x) (.str x t) = true := by simp [keyIs, Value.isStrOf]
theorem key_ll (a b : Int) : decide ((Sum.inl a : Key) = Sum.inl b) = (a == b) := by
 by_cases e : a = b
 ·subst e; simp
 ·have h : ¬ (Sum.inl a : Key) = Sum.inl b := fun q => e (Sum.inl.inj q)
  rw [decide_eq_false h]
  exact (beq_eq_false_iff_ne.mpr e).symm
theorem key_rr (a b : Str) : decide ((Sum.inr a : Key) = Sum.inr b) = decide (a = b) := by
 by_cases e : a = b
 ·subst e; simp
 ·have h : ¬ (Sum.inr a : Key) = Sum.inr b := fun q => e (Sum.inr.inj q)
  rw [decide_eq_false h, decide_eq_false e]
theorem key_lr (a : Int) (b : Str) : decide ((Sum.inl a : Key) = Sum.inr b) = false := decide_eq_false (fun q => nomatch q)
theorem key_rl (a : Str) (b : Int) : decide ((Sum.inr a : Key) = Sum.inl b) = false := decide_eq_false (fun q => nomatch q)
noncomputable def mixKind (prog : Program) (w : World) : PySem.KeyKind prog w Key where
 is := keyIs
 hash := keyH w
 inj := fun v a b ha hb => by
  rcases keyIs_shape ha with ⟨i, t, rfl, rfl⟩ | ⟨x, t, rfl, rfl⟩
  ·rcases keyIs_shape hb with ⟨j, u, rfl, e⟩ | ⟨y, u, rfl, e⟩
   ·injection e with e1 _; rw [e1]
   ·exact nomatch e
  ·rcases keyIs_shape hb with ⟨j, u, rfl, e⟩ | ⟨y, u, rfl, e⟩
   ·exact nomatch e
   ·injection e with e1 _; rw [e1]
 byValue := fun k v h => by
  rcases keyIs_shape h with ⟨i, t, rfl, rfl⟩ | ⟨x, t, rfl, rfl⟩ <;> rfl
 pyHash := fun hv h => by
  rcases keyIs_shape hv with ⟨i, t, rfl, rfl⟩ | ⟨x, t, rfl, rfl⟩
  ·exact wpAny_pyHash_int h
  ·exact wpAny_pyHash_str h
 eqBool := fun hu hv h => by
  rcases keyIs_shape hu with ⟨i, t, rfl, rfl⟩ | ⟨x, t, rfl, rfl⟩
  ·rcases keyIs_shape hv with ⟨j, u, rfl, rfl⟩ | ⟨y, u, rfl, rfl⟩
   ·rw [key_ll] at h; exact wpAny_eqBool_int h
   ·rw [key_lr] at h; exact SeqAt.EqAt.int_str i t y u _ _ _ _ h
  ·rcases keyIs_shape hv with ⟨j, u, rfl, rfl⟩ | ⟨y, u, rfl, rfl⟩
   ·rw [key_rl] at h; exact SeqAt.EqAt.str_int x t j u _ _ _ _ h
   ·rw [key_rr] at h; exact wpAny_eqBool_str h
 «strs» := fun k x t v h => by
  rcases keyIs_shape h with ⟨i, u, rfl, e⟩ | ⟨y, u, rfl, e⟩
  ·exact nomatch e
  ·injection e with e1 _
   subst e1
   cases v <;> rfl
theorem mixKind_int (prog : Program) (w : World) (i : Int) (t : Tok) : (mixKind prog w).is (.inl i) (.int i t) = true := keyIs_int i t
theorem mixKind_str (prog : Program) (w : World) (x : Str) (t : Tok) : (mixKind prog w).is (.inr x) (.str x t) = true := keyIs_str x t
end L2
namespace L2
open PySem PySem.Spec PyProof.Rows
inductive V where
 | non | bl (b : Bool) | int (i : Int) | str (x : Str) | byt (b : Array UInt8) | flt (b : UInt64) | ref (a : Addr) | ty (n : String)
 deriving DecidableEq
noncomputable def RelV : V → Value → Prop
 | .non, u => u = Value.none
 | .bl b, u => u = Value.bool b
 | .int i, u => ∃ t, u = Value.int i t
 | .str x, u => ∃ t, u = Value.str x t
 | .byt b, u => ∃ t, u = Value.bytes b t
 | .flt b, u => ∃ t, u = Value.float b t
 | .ref a, u => u = Value.ref a
 | .ty n, u => u = Value.type n
noncomputable abbrev Vals : List V → List Value → Prop := Paired RelV
theorem Vals.length {xs : List V} {us : List Value} (r : Vals xs us) : xs.length = us.length := Paired.length r
theorem Vals.get : ∀ {xs : List V} {us : List Value} {i : Nat} {x : V}, Vals xs us → xs[i]? = some x → ∃ u, us[i]? = some u ∧ RelV x u
 | _, _, _, _, .nil, e => by simp at e
 | _, _, 0, _, .cons r _, e => by simp at e; subst e; exact ⟨_, rfl, r⟩
 | _, _, i + 1, x, .cons _ t, e => by
  obtain ⟨u, h1, h2⟩ := Vals.get (i := i) (x := x) t (by simpa using e)
  exact ⟨u, by simpa using h1, h2⟩
theorem Vals.set {x : V} {u : Value} (r : RelV x u) : ∀ {xs : List V} {us : List Value} (i : Nat), Vals xs us → Vals (xs.set i x) (us.set i u)
 | _, _, _, .nil => .nil
 | _, _, 0, .cons _ t => .cons r t
 | _, _, i + 1, .cons q t => .cons q (Vals.set r i t)
theorem Vals.append : ∀ {xs ys : List V} {us ws : List Value}, Vals xs us → Vals ys ws → Vals (xs ++ ys) (us ++ ws)
 | _, _, _, _, .nil, s => s
 | _, _, _, _, .cons r t, s => .cons r (Vals.append t s)
theorem Vals.take : ∀ {xs : List V} {us : List Value} (n : Nat), Vals xs us → Vals (xs.take n) (us.take n)
 | _, _, 0, _ => .nil
 | _, _, _ + 1, .nil => .nil
 | _, _, n + 1, .cons r t => .cons r (Vals.take n t)
theorem Vals.drop : ∀ {xs : List V} {us : List Value} (n : Nat), Vals xs us → Vals (xs.drop n) (us.drop n)
 | _, _, 0, r => r
 | _, _, _ + 1, .nil => .nil
 | _, _, n + 1, .cons _ t => Vals.drop n t
noncomputable def RelO : Option V → Option Value → Prop
 | some v, some u => RelV v u
 | none, none => True
 | _, _ => False
noncomputable def KV {κ : Type} : List (κ × V) → List (κ × Value) → Prop := Paired fun (p : κ × V) (q : κ × Value) => p.1 = q.1 ∧ RelV p.2 q.2
noncomputable def kV : Key → V
 | .inl i => .int i
 | .inr x => .str x
inductive HO where
 | lst (xs : List V)
 | tup (xs : List V)
 | dK (kvs : List (Key × V)) | dT (kvs : List (List Key × V))
 | set (S : Int → Bool) (n : Nat)
 | ins (C dx : Addr) (fs : List (Str × V))
 | own (x : Addr)
 | xd (fs : List (Str × V))
 | met (f x : Addr)
 | rng (lo hi : Int)
 | frz (o : Obj) (u : HO)
 | tbl (ps : Array Value)
 | ext (φ : Heap → Prop)
noncomputable abbrev Hp := Addr → Option HO
noncomputable def upd (H : Hp) (a : Addr) (o : HO) : Hp := fun b => if b = a then some o else H b
theorem upd_same {H : Hp} {a : Addr} {o : HO} : upd H a o a = some o := by unfold upd; rw [if_pos rfl]
theorem upd_ne {H : Hp} {a b : Addr} {o : HO} (h : b ≠ a) : upd H a o b = H b := by unfold upd; rw [if_neg h]
theorem ne_of {H : Hp} {a b : Addr} {o u : HO} (h : H a = some o) (h' : H b = some u) (d : o ≠ u) : a ≠ b := by
 intro e; subst e; rw [h] at h'; exact d (Option.some.inj h')
theorem ne_of_none {H : Hp} {a b : Addr} {o : HO} (h : H a = some o) (h' : H b = none) : a ≠ b := by
 intro e; subst e; rw [h] at h'; cases h'
section
variable (P : Program) (w : World)
noncomputable def ObjOk (H : Hp) (h : Heap) (a : Addr) : HO → Prop
 | .lst xs => xs.length ≤ sizeLine ∧ ∃ (its : List Value) (n : Nat), Vals xs its ∧ h.get? a = some { cls := .type "list", data := .seq its.toArray n }
 | .tup xs => xs.length ≤ sizeLine ∧ ∃ its : List Value, Vals xs its ∧ IsTup h a its.toArray
 | .dK kvs => kvs.length ≤ sizeLine ∧ (a == sysModules) = false ∧ ∃ vs, KV kvs vs ∧ h.DictOf (mixKind P w) a vs
 | .dT kvs => kvs.length ≤ sizeLine ∧ (a == sysModules) = false ∧ ∃ xs : List (List Key × Addr × Value),
   Paired (fun (p : List Key × V) (q : List Key × Addr × Value) => p.1 = q.1 ∧ H q.2.1 = some (.tup (p.1.map kV)) ∧ RelV p.2 q.2.2) kvs xs ∧
   ∃ o es ep, h.get? a = some o ∧ o.ExactDict ∧ o.data = .dict es ep ∧ es.toList = xs.map (entryOfKey (tupleKind (mixKind P w))) ∧ (xs.map (·.1)).Nodup
 | .set S n => h.SetOf (intKind P w) a S n
 | .ins C dx fs => H dx = some (.own a) ∧ fs.length ≤ 1000 ∧ dx ≠ a ∧ h.get? a = some (PySem.W.instObj C dx) ∧
   ∃ mA, h.Ns1 dx mA ∧ (∀ f, RelO (fs.lookup f) (mA f)) ∧ PySem.Within mA (fs.map (·.1))
 | .own _ => ∃ o, h.get? a = some o
 | .xd fs => ∃ mA, h.Ns1 a mA ∧ ∀ f, RelO (fs.lookup f) (mA f)
 | .rng lo hi => ∃ t u v, h.get? a = some { cls := .type "range", data := .fields #[.int lo t, .int hi u, .int 1 v] }
 | .frz o u => h.get? a = some o ∧ ObjOk H h a u
 | .tbl ps => h.get? a = some { cls := .none, data := .fields ps }
 | .met f x => h.get? a = some (PySem.W.methodObj (.ref f) (.ref x))
 | .ext φ => φ h ∧ (∃ o, h.get? a = some o) ∧ ∀ h1 h2 : Heap, φ h1 → (∀ o, h1.get? a = some o → h2.get? a = some o) → φ h2
noncomputable def HOk (H : Hp) (h : Heap) : Prop := ∀ a o, H a = some o → ObjOk P w H h a o
end
section
variable {P : Program} {w : World} {H H' : Hp} {h h' : Heap} {a : Addr} {o : HO}
theorem ObjOk.lt (x : ObjOk P w H h a o) : a < h.objs.size := by
 cases o with
 | lst xs => obtain ⟨_, _, _, _, e⟩ := x; exact Heap.lt_size e
 | tup xs => obtain ⟨_, _, _, p⟩ := x; exact p.lt
 | dK kvs => obtain ⟨_, _, _, _, o, _, _, e, _⟩ := x; exact Heap.lt_size e
 | dT kvs => obtain ⟨_, _, _, _, o, _, _, e, _⟩ := x; exact Heap.lt_size e
 | set S n => obtain ⟨o, _, _, _, e, _⟩ := x; exact Heap.lt_size e
 | ins C dx fs => obtain ⟨_, _, _, e, _⟩ := x; exact Heap.lt_size e
 | own y => obtain ⟨_, e⟩ := x; exact Heap.lt_size e
 | xd fs => obtain ⟨_, ⟨_, _, _, e, _⟩, _⟩ := x; exact Heap.lt_size e
 | rng lo hi => obtain ⟨_, _, _, e⟩ := x; exact Heap.lt_size e
 | frz ob u => obtain ⟨e, _⟩ := x; exact Heap.lt_size e
 | tbl ps => exact Heap.lt_size (show h.get? a = some _ from x)
 | met f y => exact Heap.lt_size (show h.get? a = some _ from x)
 | ext φ => obtain ⟨_, ⟨_, e⟩, _⟩ := x; exact Heap.lt_size e
theorem Paired.mapP {α β : Type} {F G : α → β → Prop} : ∀ {l₁ : List α} {l₂ : List β}, Paired F l₁ l₂ → (∀ a b, F a b → G a b) → Paired G l₁ l₂
 | _, _, .nil, _ => .nil
 | _, _, .cons r t, f => .cons (f _ _ r) (Paired.mapP t f)
theorem ObjOk.stay (x : ObjOk P w H h a o) (k : ∀ b u, (b = a ∨ H b = some (.own a)) → h.get? b = some u → h'.get? b = some u)
  (ho : ∀ b, H b = some (.own a) → H' b = some (.own a)) (ht : ∀ b xs, H b = some (.tup xs) → H' b = some (.tup xs)) : ObjOk P w H' h' a o := by
 induction o with
 | lst xs => obtain ⟨z, its, n, r, e⟩ := x; exact ⟨z, its, n, r, k _ _ (.inl rfl) e⟩
 | tup xs => obtain ⟨z, its, r, ob, e, c⟩ := x; exact ⟨z, its, r, ob, k _ _ (.inl rfl) e, c⟩
 | dK kvs => obtain ⟨z, y, vs, r, ob, es, ep, e, c⟩ := x; exact ⟨z, y, vs, r, ob, es, ep, k _ _ (.inl rfl) e, c⟩
 | dT kvs =>
  obtain ⟨z, y, xs, r, ob, es, ep, e, c⟩ := x
  exact ⟨z, y, xs, Paired.mapP r fun p q z => ⟨z.1, ht _ _ z.2.1, z.2.2⟩, ob, es, ep, k _ _ (.inl rfl) e, c⟩
 | set S n => obtain ⟨ob, es, ep, t, e, c⟩ := x; exact ⟨ob, es, ep, t, k _ _ (.inl rfl) e, c⟩
 | ins C dx fs =>
  obtain ⟨d, z, ne, e, mA, ⟨od, es, ep, e2, c⟩, r⟩ := x
  exact ⟨ho _ d, z, ne, k _ _ (.inl rfl) e, mA, ⟨od, es, ep, k _ _ (.inr d) e2, c⟩, r⟩
 | own y => obtain ⟨ob, e⟩ := x; exact ⟨ob, k _ _ (.inl rfl) e⟩
 | xd fs => obtain ⟨mA, ⟨od, es, ep, e, c⟩, r⟩ := x; exact ⟨mA, ⟨od, es, ep, k _ _ (.inl rfl) e, c⟩, r⟩
 | rng lo hi => obtain ⟨t, u, v, e⟩ := x; exact ⟨t, u, v, k _ _ (.inl rfl) e⟩
 | frz ob u ih => obtain ⟨e, q⟩ := x; exact ⟨k _ _ (.inl rfl) e, ih q⟩
 | tbl ps =>
  have e : h.get? a = some { cls := .none, data := .fields ps } := x
  show h'.get? a = some { cls := .none, data := .fields ps }
  exact k a _ (.inl rfl) e
 | met f y =>
  have e : h.get? a = some (PySem.W.methodObj (.ref f) (.ref y)) := x
  show h'.get? a = some (PySem.W.methodObj (.ref f) (.ref y))
  exact k a _ (.inl rfl) e
 | ext φ => obtain ⟨p, ⟨o, e⟩, st⟩ := x; exact ⟨st _ _ p fun o q => k _ _ (.inl rfl) q, ⟨o, k _ _ (.inl rfl) e⟩, st⟩
theorem HOk.lt (x : HOk P w H h) (e : H a = some o) : a < h.objs.size := (x a o e).lt
theorem HOk.fresh (x : HOk P w H h) (e : h.objs.size ≤ a) : H a = none := by
 cases q : H a with
 | none => rfl
 | some u => exact absurd (Nat.lt_of_lt_of_le (x.lt q) e) (Nat.lt_irrefl _)
theorem HOk.kept (x : HOk P w H h) (k : ∀ b u, h.get? b = some u → h'.get? b = some u) : HOk P w H h' := fun a o e =>
 (x a o e).stay (fun b u _ q => k b u q) (fun _ q => q) fun _ _ q => q
theorem HOk.laid (x : HOk P w H h) (k : ∀ b u, h.get? b = some u → h'.get? b = some u) (hp : h.objs.size ≤ a) (new : ObjOk P w (upd H a o) h' a o) : HOk P w (upd H a o) h' := fun b u e => by
 have hn := x.fresh hp
 by_cases hb : b = a
 ·subst hb; rw [upd_same] at e; cases e; exact new
 ·rw [upd_ne hb] at e
  exact (x b u e).stay (fun c v _ q => k c v q) (fun c q => by rw [upd_ne (ne_of_none q hn)]; exact q) fun c xs q => by rw [upd_ne (ne_of_none q hn)]; exact q
end
noncomputable def Rd (H : Hp) (a : Addr) (u : HO) : Prop := H a = some u ∨ ∃ o, H a = some (.frz o u)
theorem Rd.ok {P : Program} {w : World} {H : Hp} {h : Heap} {a : Addr} {u : HO} (r : Rd H a u) (x : HOk P w H h) : ObjOk P w H h a u := by
 rcases r with r | ⟨o, r⟩
 ·exact x a u r
 ·obtain ⟨_, q⟩ := x a _ r
  exact q
noncomputable def Mut : Option HO → Prop
 | some (.lst _) => True
 | some (.dK _) => True
 | some (.dT _) => True
 | some (.set _ _) => True
 | some (.ins _ _ _) => True
 | some (.ext _) => True
 | _ => False
section
variable {P : Program} {w : World} {H : Hp} {h h' : Heap} {x e : Addr} {o' : HO}
theorem HOk.write (ok : HOk P w H h) (mu : Mut (H x)) (he : e = x ∨ H e = some (.own x)) (k : ∀ b u, b ≠ e → h.get? b = some u → h'.get? b = some u) (heo : ∃ u, h'.get? e = some u)
  (new : ObjOk P w (upd H x o') h' x o') : HOk P w (upd H x o') h' := fun b u q => by
 have nown : ∀ c y, H c = some (.own y) → c ≠ x := fun c y r z => by subst z; rw [r] at mu; exact mu
 have ntup : ∀ c xs, H c = some (.tup xs) → c ≠ x := fun c xs r z => by subst z; rw [r] at mu; exact mu
 by_cases hb : b = x
 ·subst hb; rw [upd_same] at q; cases q; exact new
 ·rw [upd_ne hb] at q
  by_cases hbe : b = e
  ·have q' : H b = some (.own x) := by
    rcases he with z | z
    ·exact absurd (hbe.trans z) hb
    ·rw [hbe]; exact z
   rw [q] at q'; cases q'
   obtain ⟨v, hv⟩ := heo
   exact ⟨v, by rw [hbe]; exact hv⟩
  ·refine (ok b u q).stay (fun c v hc r => k c v ?_ r) (fun c r => by rw [upd_ne (nown c b r)]; exact r) fun c xs r => by rw [upd_ne (ntup c xs r)]; exact r
   rcases hc with rfl | hc
   ·exact hbe
   ·rintro rfl
    rcases he with z | z
    ·exact nown c b hc z
    ·rw [hc] at z; cases z; exact hb rfl
end
structure Un (fs ex : List Addr) (H H' : Hp) (h h' : Heap) : Prop where
 keep : ∀ b o, h.get? b = some o → H b = none → b ∉ fs → b ∉ ex → h'.get? b = some o
 slot : ∀ b o, h.get? b = some o → H b = none → b ∈ fs → b ∉ ex → ∃ sl, h'.get? b = some { o with slots := sl }
 free : ∀ b o, h.get? b = some o → H b = none → b ∉ ex → H' b = none
 there : ∀ b o, h.get? b = some o → b ∉ ex → ∃ o', h'.get? b = some o'
 tups : ∀ b xs, H b = some (.tup xs) → H' b = some (.tup xs)
 frzs : ∀ b o u, H b = some (.frz o u) → H' b = some (.frz o u)
 tbls : ∀ b ps, H b = some (.tbl ps) → ∃ more, H' b = some (.tbl (ps ++ more))
section
variable {fs fs' ex ex' : List Addr} {H H1 H2 : Hp} {h h1 h2 h' : Heap} {a x e : Addr} {o : HO}
theorem Un.any (u : Un fs ex H H1 h h1) {b : Addr} {ob : Obj} (q : h.get? b = some ob) (n : H b = none) (hx : b ∉ ex) : ∃ sl, h1.get? b = some { ob with slots := sl } := by
 by_cases hb : b ∈ fs
 ·exact u.slot b ob q n hb hx
 ·exact ⟨ob.slots, u.keep b ob q n hb hx⟩
theorem Un.kept (k : ∀ b u, h.get? b = some u → h'.get? b = some u) : Un fs ex H H h h' :=
 ⟨fun b ob q _ _ _ => k b ob q, fun b ob q _ _ _ => ⟨ob.slots, k b ob q⟩, fun _ _ _ n _ => n, fun b ob q _ => ⟨ob, k b ob q⟩, fun _ _ q => q, fun _ _ _ q => q, fun _ ps q => ⟨#[], by rw [q]; simp⟩⟩
theorem Un.refl : Un fs ex H H h h := Un.kept fun _ _ q => q
theorem Un.laid (k : ∀ b u, h.get? b = some u → h'.get? b = some u) (hp : h.objs.size ≤ a) (hn : H a = none) : Un fs ex H (upd H a o) h h' where
 keep := fun b u q _ _ _ => k b u q
 slot := fun b u q _ _ _ => ⟨u.slots, k b u q⟩
 free := fun b u q n _ => by rw [upd_ne (Nat.ne_of_lt (Nat.lt_of_lt_of_le (Heap.lt_size q) hp))]; exact n
 there := fun b u q _ => ⟨u, k b u q⟩
 tups := fun b xs q => by rw [upd_ne (ne_of_none q hn)]; exact q
 frzs := fun b u xs q => by rw [upd_ne (ne_of_none q hn)]; exact q
 tbls := fun b ps q => ⟨#[], by rw [upd_ne (ne_of_none q hn), q]; simp⟩
theorem Un.write (mu : Mut (H x)) (he : e = x ∨ H e = some (.own x)) (k : ∀ b u, b ≠ e → h.get? b = some u → h'.get? b = some u) (heo : ∃ u, h'.get? e = some u) : Un fs ex H (upd H x o) h h' := by
 have hx : ∀ b, H b = none → b ≠ x := fun b n z => by subst z; rw [n] at mu; exact mu
 have hb : ∀ b, H b = none → b ≠ e := fun b n z => by
  subst z
  rcases he with r | r
  ·exact hx b n r
  ·rw [n] at r; cases r
 have hm : ∀ b u, H b = some u → ¬ Mut (some u) → b ≠ x := fun b u q nm z => by subst z; rw [q] at mu; exact nm mu
 refine ⟨fun b u q n _ _ => k b u (hb b n) q, fun b u q n _ _ => ⟨u.slots, k b u (hb b n) q⟩, fun b u q n _ => by rw [upd_ne (hx b n)]; exact n, fun b u q _ => ?_,
  fun b xs q => by rw [upd_ne (hm b _ q fun z => z)]; exact q, fun b u xs q => by rw [upd_ne (hm b _ q fun z => z)]; exact q, fun b ps q => ⟨#[], by rw [upd_ne (hm b _ q fun z => z), q]; simp⟩⟩
 by_cases hbe : b = e
 ·subst hbe; exact heo
 ·exact ⟨u, k b u hbe q⟩
end
noncomputable def trk (h : Heap) (H : Hp) : List Addr := (List.range h.objs.size).filter fun a => (H a).isSome
noncomputable def hidT (h : Heap) (H : Hp) : Heap := PySem.W.hideAll h (trk h H)
theorem hidT_size (h : Heap) (H : Hp) : (hidT h H).objs.size = h.objs.size := PySem.W.hideAll_size _ _
theorem hidT_get {h : Heap} {H : Hp} {b : Addr} {o : Obj} (e : h.get? b = some o) (n : H b = none) : (hidT h H).get? b = some o :=
 PySem.W.hideAll_get _ e fun hm => by
  have q : (H b).isSome = true := (List.mem_filter.mp hm).2
  rw [n] at q; simp at q
theorem of_hidT {h : Heap} {H : Hp} {b : Addr} {o : Obj} (e : (hidT h H).get? b = some o) : h.get? b = some o ∧ H b = none := by
 have e' : h.get? b = some o := PySem.W.of_hideAll (trk h H) e
 refine ⟨e', ?_⟩
 cases q : H b with
 | none => rfl
 | some x =>
  have hm : b ∈ trk h H := List.mem_filter.mpr ⟨List.mem_range.mpr (Heap.lt_size e'), by simp [q]⟩
  have z : (hidT h H).get? b = none := PySem.W.hideAll_none (trk h H) hm
  rw [z] at e; cases e
end L2
namespace L2
open PySem PySem.Spec PyProof.Rows
structure Mod (K : PySem.W.Frag) (mg : Str → Option Value) (base : Heap) : Prop where
 kin : K.In base
 glob : base.Ns mainGlobals mg
 blt : ∃ mb, base.Ns builtinsNs mb ∧ ∀ x : Str, x ≠ "__name__" → mb x = bootBuiltins x
 nolimit : base.NoLimit
structure Cx where
 prog : Program
 w : World
 K : PySem.W.Frag
 mg : Str → Option Value
 base : Heap
 A : Around
 N : List Str
 s_0 : Shared
 H_0 : Hp
 env : Env
 outer : List Env
 stack : List Env
 ex : List Addr
 fn : Str → Bool
 calm : Bool
 pn : List (Addr × Obj)
 xe : Value → Shared → Prop
noncomputable def frs (l : List Env) : List Addr := l.filterMap (·.frame)
noncomputable abbrev Cx.fs (X : Cx) : List Addr := frs X.outer
noncomputable def Vis (sc : Scope) (x : Str) : Prop := sc.names.lookup x = some .local ∨ sc.names.lookup x = some .cell ∨ sc.names.lookup x = some .free
noncomputable def Loc (sc : Scope) (x : Str) : Prop := sc.names.lookup x = some .local ∨ sc.names.lookup x = some .cell
noncomputable def Look (env : Env) (h : Heap) (m : Str → Option Value) (x : Str) (u : Value) : Prop :=
 (env.kindOf x = some .local ∧ m x = some u) ∨ ((env.kindOf x = some .cell ∨ env.kindOf x = some .free) ∧ ∃ c, env.cells.lookup x = some c ∧ h.IsCell c (some u))
structure Cx.Ok (X : Cx) : Prop where
 mod : Mod X.K X.mg X.base
 kind : X.env.scope.kind = .function
 glob : X.env.globals = mainGlobals
 blt : X.env.builtins = builtinsNs
 above : X.s_0.heap.objs.size ≤ X.env.locals
 inj : ∀ x y c, X.env.cells.lookup x = some c → X.env.cells.lookup y = some c → x = y
 has : ∀ x, (X.env.kindOf x = some .cell ∨ X.env.kindOf x = some .free) → ∃ c, X.env.cells.lookup x = some c
 cab : ∀ x c, X.fn x = true → X.env.cells.lookup x = some c → X.s_0.heap.objs.size ≤ c
 hd : X.calm = true → X.A.handled = none
 frames : X.A.frames = some X.stack
 stk : X.stack = X.outer ∨ (X.stack = X.env :: X.outer ∧ X.env.frame = some X.env.locals)
 exf : ∀ b ∈ X.ex, b ≠ X.env.locals ∧ ∀ x c, X.env.cells.lookup x = some c → c ≠ b
 bs : ∀ b o, X.base.get? b = some o → X.s_0.heap.get? b = some o ∧ X.H_0 b = none
 bsz : X.base.objs.size ≤ X.s_0.heap.objs.size
 noex : ∀ b o, X.base.get? b = some o → b ∉ X.ex
 exfs : ∀ b ∈ X.ex, b ∉ X.fs
 funs : X.s_0.heap.FunFrames X.base X.outer
 frf : ∀ b ∈ X.fs, X.H_0 b = none
structure Inv (X : Cx) (pins : List (Addr × Obj)) (σ : List (Option V)) (H : Hp) (s : Shared) : Prop where
 ok : X.Ok
 os : s.os = X.s_0.os
 bare : AllBare s.gens
 base : Un X.fs X.ex X.H_0 H X.s_0.heap s.heap
 loc : ∃ m, s.heap.Ns X.env.locals m ∧ ∀ (i : Nat) (x : Str) (v : V), X.N[i]? = some x → σ[i]? = some (some v) → Vis X.env.scope x → ∃ u, RelV v u ∧ Look X.env s.heap m x u
 cell : ∀ x c, X.env.cells.lookup x = some c → ∃ v, s.heap.IsCell c v
 free : H X.env.locals = none
 freeC : ∀ x c, X.env.cells.lookup x = some c → H c = none
 pin : ∀ p ∈ X.pn ++ pins, s.heap.get? p.1 = some p.2 ∧ H p.1 = none ∧ p.1 ≠ X.env.locals ∧ p.1 ∉ X.fs ∧ ∀ v, p.2.data ≠ .cell v
 hok : HOk X.prog X.w H s.heap
 len : σ.length = X.N.length
section
variable {X : Cx} {pins : List (Addr × Obj)} {σ : List (Option V)} {H H' : Hp} {s : Shared} {h' : Heap}
theorem Cx.Ok.nofr (ok : X.Ok) {b : Addr} {o : Obj} (e : X.base.get? b = some o) : b ∉ X.fs := fun hb => by
 have := (ok.funs.mem hb).1
 rw [e] at this; cases this
theorem Inv.bs (I : Inv X pins σ H s) : ∀ b o, X.base.get? b = some o → s.heap.get? b = some o ∧ H b = none := fun b o e =>
 ⟨I.base.keep b o (I.ok.bs b o e).1 (I.ok.bs b o e).2 (I.ok.nofr e) (I.ok.noex b o e), I.base.free b o (I.ok.bs b o e).1 (I.ok.bs b o e).2 (I.ok.noex b o e)⟩
theorem Inv.bk (I : Inv X pins σ H s) : ∀ b o, X.base.get? b = some o → s.heap.get? b = some o := fun b o e => (I.bs b o e).1
theorem Inv.mod (I : Inv X pins σ H s) : Mod X.K X.mg X.base := I.ok.mod
theorem Inv.kIn (I : Inv X pins σ H s) : X.K.In s.heap := I.ok.mod.kin.keeps I.bk
theorem Inv.lt (I : Inv X pins σ H s) : X.env.locals < s.heap.objs.size := let ⟨_, hn, _⟩ := I.loc; hn.lt
theorem Inv.sz (I : Inv X pins σ H s) : X.s_0.heap.objs.size ≤ s.heap.objs.size := Nat.le_trans I.ok.above (Nat.le_of_lt I.lt)
theorem Inv.nofs (I : Inv X pins σ H s) {a : Addr} (h : s.heap.objs.size ≤ a) : a ∉ X.fs := fun hb => by
 obtain ⟨_, o, ho, _⟩ := I.ok.funs.mem hb
 exact absurd (Nat.lt_of_lt_of_le (Heap.lt_size ho) (Nat.le_trans I.sz h)) (Nat.lt_irrefl _)
theorem Inv.cne (I : Inv X pins σ H s) : ∀ x c, X.env.cells.lookup x = some c → c ≠ X.env.locals := fun x c e z => by
 obtain ⟨v, o, ho, hd⟩ := I.cell x c e
 obtain ⟨m, ⟨o', es, ep, ho', hd', _⟩, _⟩ := I.loc
 rw [z, ho'] at ho; cases ho; rw [hd'] at hd; cases hd
theorem Inv.funs (I : Inv X pins σ H s) : s.heap.FunFrames X.base X.outer := by
 have all : ∀ (l : List Env), (∀ b ∈ frs l, b ∈ X.fs) → X.s_0.heap.FunFrames X.base l → s.heap.FunFrames X.base l := by
  intro l
  induction l with
  | nil => intro _ _; trivial
  | cons env r ih =>
   intro hs hl
   obtain ⟨hk, ⟨L, o, hf, hn, ho, hd⟩, hr⟩ := hl
   have hL : L ∈ X.fs := hs L (by unfold frs; rw [List.filterMap_cons, hf]; exact List.mem_cons_self)
   obtain ⟨sl, e⟩ := I.base.slot L o ho (I.ok.frf L hL) hL fun z => I.ok.exfs L z hL
   exact ⟨hk, ⟨L, _, hf, hn, e, hd⟩, ih (fun b hb => hs b (by unfold frs; rw [List.filterMap_cons, hf]; exact List.mem_cons_of_mem _ hb)) hr⟩
 exact all X.outer (fun _ hb => hb) I.ok.funs
theorem Inv.stack (I : Inv X pins σ H s) : s.heap.FunFrames X.base X.stack := by
 rcases I.ok.stk with e | ⟨e, hf⟩
 ·rw [e]; exact I.funs
 ·rw [e]
  obtain ⟨m, hn, _⟩ := I.loc
  refine .cons (by rw [I.ok.kind]; decide) hf hn ?_ I.funs
  exact Heap.get?_none_of_le (Nat.le_trans I.ok.bsz I.ok.above)
theorem Inv.stkSub (I : Inv X pins σ H s) : ∀ b ∈ frs X.stack, b ∈ X.env.locals :: X.fs := fun b hb => by
 rcases I.ok.stk with e | ⟨e, hf⟩
 ·rw [e] at hb; exact List.mem_cons_of_mem _ hb
 ·rw [e] at hb
  unfold frs at hb
  rw [List.filterMap_cons, hf] at hb
  exact hb
theorem Inv.stkFree (I : Inv X pins σ H s) : ∀ b ∈ frs X.stack, H b = none := fun b hb => by
 rcases List.mem_cons.mp (I.stkSub b hb) with e | hb
 ·rw [e]; exact I.free
 ·obtain ⟨_, o, ho, _⟩ := I.ok.funs.mem hb
  exact I.base.free b o ho (I.ok.frf b hb) fun z => I.ok.exfs b z hb
theorem Inv.step {g' : Array GenState} {t' : Nat} {d' : Drawn} {ch : List Addr} (I : Inv X pins σ H s)
  (hch : ∀ b ∈ ch, (b ∈ X.ex ∨ X.s_0.heap.objs.size ≤ b) ∧ b ≠ X.env.locals ∧ (∀ x c, X.env.cells.lookup x = some c → c ≠ b) ∧ ∀ p ∈ X.pn ++ pins, p.1 ≠ b)
  (keep : ∀ b o, b ≠ X.env.locals → b ∉ X.fs → b ∉ ch → s.heap.get? b = some o → H b = none → h'.get? b = some o)
  (slot : ∀ b o, b ≠ X.env.locals → b ∈ X.fs → b ∉ ch → s.heap.get? b = some o → H b = none → ∃ sl, h'.get? b = some { o with slots := sl }) (free : ∀ b o, b ∉ ch → s.heap.get? b = some o → H b = none → H' b = none)
  (there : ∀ b o, b ∉ ch → s.heap.get? b = some o → ∃ o', h'.get? b = some o')
  (tups : ∀ b xs, H b = some (.tup xs) → H' b = some (.tup xs)) (frzs : ∀ b o u, H b = some (.frz o u) → H' b = some (.frz o u)) (tbls : ∀ b ps, H b = some (.tbl ps) → ∃ more, H' b = some (.tbl (ps ++ more)))
  (ns : ∀ m, s.heap.Ns X.env.locals m → h'.Ns X.env.locals m) (hok : HOk X.prog X.w H' h') (hg : AllBare g') :
  Inv X pins σ H' { s with heap := h', gens := g', drawn := d', toks := t' } := by
 have neL : ∀ b o, X.s_0.heap.get? b = some o → b ≠ X.env.locals := fun b o e => Nat.ne_of_lt (Nat.lt_of_lt_of_le (Heap.lt_size e) I.ok.above)
 have neC : ∀ b o, X.s_0.heap.get? b = some o → b ∉ X.ex → b ∉ ch := fun b o e hx hb => by
  rcases (hch b hb).1 with z | z
  ·exact hx z
  ·exact absurd (Nat.lt_of_lt_of_le (Heap.lt_size e) z) (Nat.lt_irrefl _)
 have cellK : ∀ x c, X.env.cells.lookup x = some c → ∀ v, s.heap.IsCell c v → h'.IsCell c v := fun x c e v ⟨o, ho, hd⟩ => by
  have nch : c ∉ ch := fun z => (hch c z).2.2.1 x c e rfl
  by_cases hc : c ∈ X.fs
  ·obtain ⟨sl, q⟩ := slot c o (I.cne x c e) hc nch ho (I.freeC x c e)
   exact ⟨_, q, hd⟩
  ·exact ⟨o, keep c o (I.cne x c e) hc nch ho (I.freeC x c e), hd⟩
 refine ⟨I.ok, I.os, hg, ⟨fun b o e n hb hx => ?_, fun b o e n hb hx => ?_, fun b o e n hx => ?_, fun b o e hx => ?_, fun b xs e => tups b xs (I.base.tups b xs e), fun b o xs e => frzs b o xs (I.base.frzs b o xs e), fun b ps e => ?_⟩, ?_, fun x c e => ?_, ?_, fun x c e => ?_, fun p hp => ?_, hok, I.len⟩
 ·exact keep b o (neL b o e) hb (neC b o e hx) (I.base.keep b o e n hb hx) (I.base.free b o e n hx)
 ·obtain ⟨sl, e1⟩ := I.base.slot b o e n hb hx
  obtain ⟨sl', e2⟩ := slot b _ (neL b o e) hb (neC b o e hx) e1 (I.base.free b o e n hx)
  exact ⟨sl', e2⟩
 ·obtain ⟨o', e1⟩ := I.base.there b o e hx
  exact free b o' (neC b o e hx) e1 (I.base.free b o e n hx)
 ·obtain ⟨o', e1⟩ := I.base.there b o e hx
  exact there b o' (neC b o e hx) e1
 ·obtain ⟨m1, e1⟩ := I.base.tbls b ps e
  obtain ⟨m2, e2⟩ := tbls b _ e1
  exact ⟨m1 ++ m2, by rw [e2, Array.append_assoc]⟩
 ·obtain ⟨m, hn, hl⟩ := I.loc
  refine ⟨m, ns m hn, fun i x v e1 e2 e3 => ?_⟩
  obtain ⟨u, r, l⟩ := hl i x v e1 e2 e3
  refine ⟨u, r, ?_⟩
  rcases l with l | ⟨k, c, e, z⟩
  ·exact .inl l
  ·exact .inr ⟨k, c, e, cellK x c e _ z⟩
 ·obtain ⟨v, z⟩ := I.cell x c e
  exact ⟨v, cellK x c e v z⟩
 ·obtain ⟨m, ⟨o, _, _, ho, _⟩, _⟩ := I.loc
  exact free _ o (fun z => (hch _ z).2.1 rfl) ho I.free
 ·obtain ⟨v, o, ho, hd⟩ := I.cell x c e
  exact free c o (fun z => (hch c z).2.2.1 x c e rfl) ho (I.freeC x c e)
 ·obtain ⟨e, n, ne, nf, d⟩ := I.pin p hp
  have nch : p.1 ∉ ch := fun z => (hch p.1 z).2.2.2 p hp rfl
  exact ⟨keep p.1 p.2 ne nf nch e n, free p.1 p.2 nch e n, ne, nf, d⟩
theorem Inv.un {t' : Nat} (I : Inv X pins σ H s) (u : Un X.fs [] H H' s.heap h') (hok : HOk X.prog X.w H' h') : Inv X pins σ H' { s with heap := h', toks := t' } := by
 obtain ⟨m, ⟨o, es, ep, ho, r⟩, _⟩ := id I.loc
 obtain ⟨sl, hL⟩ := u.any ho I.free (by simp)
 exact I.step (g' := s.gens) (d' := s.drawn) (ch := []) (fun _ z => nomatch z) (fun b o _ hb _ e n => u.keep b o e n hb (by simp)) (fun b o _ hb _ e n => u.slot b o e n hb (by simp)) (fun b o _ e n => u.free b o e n (by simp)) (fun b o _ e => u.there b o e (by simp)) u.tups u.frzs u.tbls (fun m' hm => by
  obtain ⟨o', es', ep', ho', r'⟩ := hm
  rw [ho] at ho'; cases ho'
  exact ⟨_, es', ep', hL, r'⟩) hok I.bare
theorem Inv.call {g' : Array GenState} {t' : Nat} {d' : Drawn} {ch : List Addr} (I : Inv X pins σ H s) (u : Un (frs X.stack) ch H H' s.heap h') (hok : HOk X.prog X.w H' h') (hg : AllBare g')
  (hch : ∀ b ∈ ch, (b ∈ X.ex ∨ X.s_0.heap.objs.size ≤ b) ∧ b ≠ X.env.locals ∧ (∀ x c, X.env.cells.lookup x = some c → c ≠ b) ∧ ∀ p ∈ X.pn ++ pins, p.1 ≠ b) :
  Inv X pins σ H' { s with heap := h', gens := g', drawn := d', toks := t' } := by
 obtain ⟨m, ⟨o, es, ep, ho, r⟩, _⟩ := id I.loc
 obtain ⟨sl, hL⟩ := u.any ho I.free fun z => (hch _ z).2.1 rfl
 exact I.step (ch := ch) hch (fun b o hL hb hc e n => u.keep b o e n (fun z => (List.mem_cons.mp (I.stkSub b z)).elim hL hb) hc) (fun b o _ _ hc e n => u.any e n hc) (fun b o hc e n => u.free b o e n hc) (fun b o hc e => u.there b o e hc) u.tups u.frzs u.tbls (fun m' hm => by
  obtain ⟨o', es', ep', ho', r'⟩ := hm
  rw [ho] at ho'; cases ho'
  exact ⟨_, es', ep', hL, r'⟩) hok hg
theorem Inv.turned {t' : Nat} {it : Addr} (I : Inv X pins σ H s) (k : ∀ b o, b ≠ it → s.heap.get? b = some o → h'.get? b = some o) (hn : H it = none) (hL : it ≠ X.env.locals)
  (h1 : it ∈ X.ex ∨ X.s_0.heap.objs.size ≤ it) (h2 : ∀ x c, X.env.cells.lookup x = some c → c ≠ it) (h3 : ∀ p ∈ X.pn ++ pins, p.1 ≠ it) : Inv X pins σ H { s with heap := h', toks := t' } := by
 have nit : ∀ b u, H b = some u → b ≠ it := fun b u e z => by rw [z, hn] at e; cases e
 refine I.step (g' := s.gens) (d' := s.drawn) (ch := [it]) (fun b hb => ?_) (fun b o _ _ hc e _ => k b o (fun z => hc (by simp [z])) e) (fun b o _ _ hc e _ => ⟨o.slots, k b o (fun z => hc (by simp [z])) e⟩) (fun _ _ _ _ n => n)
  (fun b o hc e => ⟨o, k b o (fun z => hc (by simp [z])) e⟩) (fun _ _ e => e) (fun _ _ _ e => e) (fun b ps e => ⟨#[], by rw [e]; simp⟩) (fun m hm => ?_) (fun b u e => ?_) I.bare
 ·have e : b = it := by simpa using hb
  subst e
  exact ⟨h1, hL, h2, h3⟩
 ·obtain ⟨o, es, ep, ho, r⟩ := hm
  exact ⟨o, es, ep, k _ o (Ne.symm hL) ho, r⟩
 ·refine (I.hok b u e).stay (fun c v hc q => k c v ?_ q) (fun _ q => q) fun _ _ q => q
  rcases hc with z | z
  ·rw [z]; exact nit b u e
  ·exact nit c _ z
theorem Inv.tok (I : Inv X pins σ H s) (t : Nat) : Inv X pins σ H { s with toks := t } := I.un (h' := s.heap) (t' := t) Un.refl I.hok
theorem Inv.kept {t' : Nat} (I : Inv X pins σ H s) (k : ∀ b u, s.heap.get? b = some u → h'.get? b = some u) : Inv X pins σ H { s with heap := h', toks := t' } := I.un (Un.kept k) (I.hok.kept k)
theorem Inv.laid {a : Addr} {o : HO} {t' : Nat} (I : Inv X pins σ H s) (k : ∀ b u, s.heap.get? b = some u → h'.get? b = some u) (hp : s.heap.objs.size ≤ a) (new : ObjOk X.prog X.w (upd H a o) h' a o) :
  Inv X pins σ (upd H a o) { s with heap := h', toks := t' } := I.un (Un.laid k hp (I.hok.fresh hp)) (I.hok.laid k hp new)
theorem Inv.write {x e : Addr} {o : HO} {t' : Nat} (I : Inv X pins σ H s) (mu : Mut (H x)) (he : e = x ∨ H e = some (.own x)) (k : ∀ b u, b ≠ e → s.heap.get? b = some u → h'.get? b = some u) (heo : ∃ u, h'.get? e = some u)
  (new : ObjOk X.prog X.w (upd H x o) h' x o) : Inv X pins σ (upd H x o) { s with heap := h', toks := t' } := I.un (Un.write mu he k heo) (I.hok.write mu he k heo new)
theorem Inv.weak {σ' : List (Option V)} (I : Inv X pins σ H s) (hl : σ'.length = σ.length) (w : ∀ (i : Nat) v, σ'[i]? = some (some v) → σ[i]? = some (some v)) : Inv X pins σ' H s :=
 ⟨I.ok, I.os, I.bare, I.base, let ⟨m, hn, hl'⟩ := I.loc; ⟨m, hn, fun i x v e1 e2 e3 => hl' i x v e1 (w i v e2) e3⟩, I.cell, I.free, I.freeC, I.pin, I.hok, hl.trans I.len⟩
theorem Inv.pins_of {pins' : List (Addr × Obj)} (I : Inv X pins σ H s) (h : ∀ p ∈ pins', s.heap.get? p.1 = some p.2 ∧ H p.1 = none ∧ p.1 ≠ X.env.locals ∧ p.1 ∉ X.fs ∧ ∀ v, p.2.data ≠ .cell v) : Inv X pins' σ H s :=
 ⟨I.ok, I.os, I.bare, I.base, I.loc, I.cell, I.free, I.freeC, fun p hp => (List.mem_append.mp hp).elim (fun z => I.pin p (List.mem_append_left _ z)) (h p), I.hok, I.len⟩
theorem nodup_ix {N : List Str} (hN : N.Nodup) {i j : Nat} {x : Str} (a : N[i]? = some x) (b : N[j]? = some x) : i = j := by
 obtain ⟨h1, e1⟩ := List.getElem?_eq_some_iff.mp a
 obtain ⟨h2, e2⟩ := List.getElem?_eq_some_iff.mp b
 exact (List.getElem_inj hN).mp (e1.trans e2.symm)
theorem store_ok2 {M : Model} {A : Around} {E : Value → Shared → Prop} {i : Nat} {x : Str} {v : V} {u : Value} {Q : Unit → Shared → Prop} (I : Inv X pins σ H s) (hN : X.N.Nodup) (hi : X.N[i]? = some x) (hx : Loc X.env.scope x) (r : RelV v u)
  (h : ∀ s', Inv X pins (σ.set i (some v)) H s' → (∃ a, Heap.SameBut a s.heap s'.heap ∧ (a = X.env.locals ∨ X.env.cells.lookup x = some a)) → Q () s') (hf : X.fn x = true ∨ X.env.scope.names.lookup x = some .local := by first | exact .inl rfl | exact .inr rfl | assumption) : wpAny M A (storeName X.env x u) Q E s := by
 obtain ⟨m, hn, hl⟩ := id I.loc
 have hcls : (X.env.scope.kind == .class || (X.env.scope.kind == .module && X.env.locals != X.env.globals)) = false := by rw [I.ok.kind]; rfl
 have hiσ : i < σ.length := by rw [I.len]; exact (List.getElem?_eq_some_iff.mp hi).1
 have cne := I.cne
 have tracked : ∀ {a : Addr} {h' : Heap}, (∃ o, s.heap.get? a = some o ∧ H a = none) → Heap.SameBut a s.heap h' → HOk X.prog X.w H h' := fun {a h'} ha hs b ob e => by
  obtain ⟨_, _, hfree⟩ := ha
  refine (I.hok b ob e).stay (fun c w' hc q => (hs.2 c ?_).trans q) (fun _ q => q) fun _ _ q => q
  rintro rfl
  rcases hc with rfl | hc
  ·rw [hfree] at e; cases e
  ·rw [hfree] at hc; cases hc
 rcases hx with hk | hk
 ·refine wpAny_storeName_local hk hn (fun h' hn' hs => ?_) hcls
  obtain ⟨oL, _, _, hoL, _⟩ := id hn
  refine h _ ⟨I.ok, I.os, I.bare, ⟨fun b o e n hb hx => ?_, fun b o e n hb hx => ?_, I.base.free, fun b o e hx => ?_, I.base.tups, I.base.frzs, I.base.tbls⟩, ⟨_, hn', fun j y v' e1 e2 e3 => ?_⟩, fun y c e => ?_, I.free, I.freeC, fun p hp => ?_, tracked ⟨oL, hoL, I.free⟩ hs, by simpa using I.len⟩ ⟨_, hs, .inl rfl⟩
  ·exact (hs.2 b (Nat.ne_of_lt (Nat.lt_of_lt_of_le (Heap.lt_size e) I.ok.above))).trans (I.base.keep b o e n hb hx)
  ·obtain ⟨sl, e1⟩ := I.base.slot b o e n hb hx
   exact ⟨sl, (hs.2 b (Nat.ne_of_lt (Nat.lt_of_lt_of_le (Heap.lt_size e) I.ok.above))).trans e1⟩
  ·obtain ⟨o', e1⟩ := I.base.there b o e hx
   exact ⟨o', (hs.2 b (Nat.ne_of_lt (Nat.lt_of_lt_of_le (Heap.lt_size e) I.ok.above))).trans e1⟩
  ·by_cases hj : j = i
   ·subst hj
    rw [hi] at e1; cases e1
    rw [List.getElem?_set_self hiσ] at e2
    cases e2
    exact ⟨u, r, .inl ⟨hk, by simp⟩⟩
   ·rw [List.getElem?_set_ne (Ne.symm hj)] at e2
    obtain ⟨u', r', q⟩ := hl j y v' e1 e2 e3
    refine ⟨u', r', ?_⟩
    rcases q with ⟨k, e⟩ | ⟨k, c, e, z⟩
    ·refine .inl ⟨k, ?_⟩
     have : y ≠ x := fun e => hj (nodup_ix hN e1 (e ▸ hi))
     simp [this, e]
    ·exact .inr ⟨k, c, e, z.sameBut hs (cne y c e)⟩
  ·obtain ⟨w', z⟩ := I.cell y c e
   exact ⟨w', z.sameBut hs (cne y c e)⟩
  ·obtain ⟨e, n, ne, nf, d⟩ := I.pin p hp
   exact ⟨(hs.2 p.1 ne).trans e, n, ne, nf, d⟩
 ·have hfn : X.fn x = true := by
   rcases hf with z | z
   ·exact z
   ·rw [z] at hk; cases hk
  obtain ⟨c, hc⟩ := I.ok.has x (.inl hk)
  obtain ⟨w', z⟩ := I.cell x c hc
  refine wpAny_storeName_cell I.ok.kind hk hc z (fun h' hc' hs => ?_)
  obtain ⟨oc, hoc, hocd⟩ := id z
  refine h { s with heap := h' } ⟨I.ok, I.os, I.bare, ⟨fun b o e n hb hx => ?_, fun b o e n hb hx => ?_, I.base.free, fun b o e hx => ?_, I.base.tups, I.base.frzs, I.base.tbls⟩, ⟨m, hn.sameBut hs (Ne.symm (cne x c hc)), fun j y v' e1 e2 e3 => ?_⟩, fun y c' e => ?_, I.free, I.freeC, fun p hp => ?_, tracked ⟨oc, hoc, I.freeC x c hc⟩ hs, by simpa using I.len⟩ ⟨c, hs, .inr hc⟩
  ·exact (hs.2 b (Nat.ne_of_lt (Nat.lt_of_lt_of_le (Heap.lt_size e) (I.ok.cab x c hfn hc)))).trans (I.base.keep b o e n hb hx)
  ·obtain ⟨sl, e1⟩ := I.base.slot b o e n hb hx
   exact ⟨sl, (hs.2 b (Nat.ne_of_lt (Nat.lt_of_lt_of_le (Heap.lt_size e) (I.ok.cab x c hfn hc)))).trans e1⟩
  ·obtain ⟨o', e1⟩ := I.base.there b o e hx
   exact ⟨o', (hs.2 b (Nat.ne_of_lt (Nat.lt_of_lt_of_le (Heap.lt_size e) (I.ok.cab x c hfn hc)))).trans e1⟩
  ·by_cases hj : j = i
   ·subst hj
    rw [hi] at e1; cases e1
    rw [List.getElem?_set_self hiσ] at e2
    cases e2
    exact ⟨u, r, .inr ⟨.inl hk, c, hc, hc'⟩⟩
   ·rw [List.getElem?_set_ne (Ne.symm hj)] at e2
    obtain ⟨u', r', q⟩ := hl j y v' e1 e2 e3
    refine ⟨u', r', ?_⟩
    rcases q with q | ⟨k, c', e, z'⟩
    ·exact .inl q
    ·refine .inr ⟨k, c', e, z'.sameBut hs ?_⟩
     rintro rfl
     exact hj (nodup_ix hN e1 (I.ok.inj _ _ _ e hc ▸ hi))
  ·by_cases hcc : c' = c
   ·subst hcc; exact ⟨_, hc'⟩
   ·obtain ⟨w2, z2⟩ := I.cell y c' e
    exact ⟨w2, z2.sameBut hs hcc⟩
  ·obtain ⟨e, n, ne, nf, d⟩ := I.pin p hp
   refine ⟨(hs.2 p.1 ?_).trans e, n, ne, nf, d⟩
   intro q
   rw [q, hoc] at e
   have q' : oc = p.2 := Option.some.inj e
   exact d w' (by rw [← q']; exact hocd)
theorem store_ok {M : Model} {A : Around} {E : Value → Shared → Prop} {i : Nat} {x : Str} {v : V} {u : Value} {Q : Unit → Shared → Prop} (I : Inv X pins σ H s) (hN : X.N.Nodup) (hi : X.N[i]? = some x) (hx : Loc X.env.scope x) (r : RelV v u)
  (h : ∀ s', Inv X pins (σ.set i (some v)) H s' → Q () s') (hf : X.fn x = true ∨ X.env.scope.names.lookup x = some .local := by first | exact .inl rfl | exact .inr rfl | assumption) : wpAny M A (storeName X.env x u) Q E s :=
 store_ok2 I hN hi hx r (fun s' I' _ => h s' I') hf
theorem Inv.call' {s' : Shared} {ch : List Addr} (I : Inv X pins σ H s) (ho : s'.os = s.os) (u : Un (frs X.stack) ch H H' s.heap s'.heap) (hok : HOk X.prog X.w H' s'.heap) (hg : AllBare s'.gens)
  (hch : ∀ b ∈ ch, (b ∈ X.ex ∨ X.s_0.heap.objs.size ≤ b) ∧ b ≠ X.env.locals ∧ (∀ x c, X.env.cells.lookup x = some c → c ≠ b) ∧ ∀ p ∈ X.pn ++ pins, p.1 ≠ b) : Inv X pins σ H' s' := by
 obtain ⟨h', g', d', t', o'⟩ := s'
 have e : o' = s.os := ho
 subst e
 exact I.call (g' := g') (t' := t') (d' := d') u hok hg hch
end
noncomputable abbrev XK := Value → Option Addr → Hp → Prop
noncomputable abbrev St := List (Option V)
noncomputable abbrev VK := V → Hp → Prop
noncomputable abbrev TE := St → Hp → VK → Prop
noncomputable abbrev TT := St → Hp → (Bool → Hp → Prop) → Prop
noncomputable abbrev TA := St → Hp → (List V → Hp → Prop) → Prop
structure Ends where
 nx : St → Hp → Prop
 rt : VK
 bk : St → Hp → Prop := fun _ _ => False
 ct : St → Hp → Prop := fun _ _ => False
noncomputable abbrev TS := Ends → St → Hp → Prop
noncomputable def EP (X : Cx) (pins : List (Addr × Obj)) (σ : St) (Q : VK) (u : Value) (s' : Shared) : Prop := ∃ v H', Inv X pins σ H' s' ∧ RelV v u ∧ Q v H'
noncomputable def TP (X : Cx) (pins : List (Addr × Obj)) (σ : St) (Q : Bool → Hp → Prop) (b : Bool) (s' : Shared) : Prop := ∃ H', Inv X pins σ H' s' ∧ Q b H'
noncomputable def AP (X : Cx) (pins : List (Addr × Obj)) (σ : St) (Q : List V → Hp → Prop) (us : List Value) (s' : Shared) : Prop := ∃ vs H', Inv X pins σ H' s' ∧ Vals vs us ∧ Q vs H'
noncomputable def SP (X : Cx) (pins : List (Addr × Obj)) (D : Ends) (f : Flow) (s' : Shared) : Prop :=
 match f with
 | .next => ∃ σ' H', Inv X pins σ' H' s' ∧ D.nx σ' H'
 | .brk => ∃ σ' H', Inv X pins σ' H' s' ∧ D.bk σ' H'
 | .cont => ∃ σ' H', Inv X pins σ' H' s' ∧ D.ct σ' H'
 | .ret u => ∃ v σ' H', Inv X pins σ' H' s' ∧ RelV v u ∧ D.rt v H'
noncomputable def PE (X : Cx) (e : Expr) (t : TE) : Prop :=
 ∀ (pins : List (Addr × Obj)) (s : Shared) (σ : St) (H : Hp) (Q : VK), Inv X pins σ H s → t σ H Q → wpAny (model X.prog X.w) X.A (eval e X.env) (EP X pins σ Q) X.xe s
noncomputable def PT (X : Cx) (e : Expr) (t : TT) : Prop :=
 ∀ (pins : List (Addr × Obj)) (s : Shared) (σ : St) (H : Hp) (Q : Bool → Hp → Prop), Inv X pins σ H s → t σ H Q → wpAny (model X.prog X.w) X.A (isTrue e X.env (eval e X.env)) (TP X pins σ Q) X.xe s
noncomputable def PW (X : Cx) (e : Expr) (t : TT) : Prop :=
 ∀ (whole : Sem Value) (pins : List (Addr × Obj)) (s : Shared) (σ : St) (H : Hp) (Q : Bool → Hp → Prop), Inv X pins σ H s → t σ H Q → wpAny (model X.prog X.w) X.A (isTrue e X.env whole) (TP X pins σ Q) X.xe s
theorem PW.pt {X : Cx} {e : Expr} {t : TT} (h : PW X e t) : PT X e t := h _
noncomputable def PA (X : Cx) (es : List Expr) (t : TA) : Prop :=
 ∀ (pos : Pos) (pins : List (Addr × Obj)) (s : Shared) (σ : St) (H : Hp) (Q : List V → Hp → Prop), Inv X pins σ H s → t σ H Q → wpAny (model X.prog X.w) X.A (spliced (backTo pos (starEach es X.env))) (AP X pins σ Q) X.xe s
noncomputable def PS (X : Cx) (st : Stmt) (t : TS) : Prop :=
 ∀ (pins : List (Addr × Obj)) (s : Shared) (σ : St) (H : Hp) (D : Ends), Inv X pins σ H s → t D σ H → wpAny (model X.prog X.w) X.A (exec st X.env) (SP X pins D) X.xe s
noncomputable def PSs (X : Cx) (st : List Stmt) (t : TS) : Prop :=
 ∀ (pins : List (Addr × Obj)) (s : Shared) (σ : St) (H : Hp) (D : Ends), Inv X pins σ H s → t D σ H → wpAny (model X.prog X.w) X.A (execs st X.env) (SP X pins D) X.xe s
theorem thn {α : Type} {t : Sem α} {Q Q' : α → Shared → Prop} {M : Model} {A : Around} {E : Value → Shared → Prop} {s : Shared} (h : wpAny M A t Q E s) (hQ : ∀ a s, Q a s → Q' a s) : wpAny M A t Q' E s := wpAny_mono h hQ fun _ _ x => x
end L2
namespace L2
open PySem PySem.Spec PyProof.Rows
section
variable {X : Cx}
noncomputable def tVar (i : Nat) : TE := fun σ H Q => ∃ v, σ[i]? = some (some v) ∧ Q v H
noncomputable def tC (v : V) : TE := fun _ H Q => Q v H
theorem pe_var {i : Nat} {x : Str} {pos : Pos} (hN : X.N[i]? = some x) (hv : Vis X.env.scope x) (hd : (x == ("__debug__" : Str)) = false := by decide) (hcd : (x == ("__classdict__" : Str)) = false := by decide) : PE X (.Name x pos) (tVar i) := by
 intro pins s σ H Q I h
 obtain ⟨v, e, h⟩ := h
 obtain ⟨m, hn, hl⟩ := I.loc
 obtain ⟨u, r, l⟩ := hl i x v hN e hv
 have fin : EP X pins σ Q u s := ⟨v, H, I, r, h⟩
 rcases l with ⟨hk, hm⟩ | ⟨hk, c, hc, hcell⟩
 ·exact wpAny_Name (wpAny_loadName_local I.ok.kind hk hn hm fin) hd
 ·rcases hk with hk | hk
  ·exact wpAny_Name (wpAny_loadName_cell I.ok.kind hk hc hcell fin) hd
  ·exact wpAny_Name (wpAny_loadName_free I.ok.kind hk hc hcell fin hcd) hd
theorem pe_int {i j pos} : PE X (.Constant (.int i) j pos) (tC (.int i)) := fun _ _ _ H _ I h => wpAny_Constant_int ⟨.int i, H, I.tok _, ⟨_, rfl⟩, h⟩
theorem pe_bl {b j pos} : PE X (.Constant (.bool b) j pos) (tC (.bl b)) := fun _ _ _ H _ I h => Constant_bool ⟨.bl b, H, I, rfl, h⟩
theorem pe_non {j pos} : PE X (.Constant .none j pos) (tC .non) := fun _ _ _ H _ I h => Constant_none ⟨.non, H, I, rfl, h⟩
theorem pe_str {x j pos} : PE X (.Constant (.str x) j pos) (tC (.str x)) := fun _ _ _ H _ I h => Calls.Constant_str ⟨.str x, H, I.tok _, ⟨_, rfl⟩, h⟩
noncomputable def Gl (X : Cx) (x : Str) : Prop := X.env.kindOf x = some .globalImplicit
theorem ld_glob {E : Value → Shared → Prop} {pins : List (Addr × Obj)} {s : Shared} {σ : St} {H : Hp} {x : Str} {u : Value} {pos : Pos} {Q : Value → Shared → Prop} (I : Inv X pins σ H s) (hg : Gl X x) (hm : X.mg x = some u) (h : Q u s)
  (hd : (x == ("__debug__" : Str)) = false := by decide) : wpAny (model X.prog X.w) X.A (eval (.Name x pos) X.env) Q E s :=
 Calls.Name_function_global I.ok.kind hg (Calls.loadGlobal_global (by rw [I.ok.glob]; exact I.mod.glob.keeps I.bk) hm h) hd
theorem ld_blt {E : Value → Shared → Prop} {pins : List (Addr × Obj)} {s : Shared} {σ : St} {H : Hp} {x : Str} {u : Value} {pos : Pos} {Q : Value → Shared → Prop} (I : Inv X pins σ H s) (hg : Gl X x) (hm : X.mg x = none) (hv : bootBuiltins x = some u) (h : Q u s)
  (hn : x ≠ "__name__" := by decide) (hd : (x == ("__debug__" : Str)) = false := by decide) : wpAny (model X.prog X.w) X.A (eval (.Name x pos) X.env) Q E s := by
 obtain ⟨mb, h1, h2⟩ := I.mod.blt
 exact Calls.Name_function_global I.ok.kind hg (Calls.loadGlobal_builtin (by rw [I.ok.glob]; exact I.mod.glob.keeps I.bk) hm (by rw [I.ok.blt]; exact h1.keeps I.bk) ((h2 x hn).trans hv) h) hd
theorem pe_glob {x : Str} {v : V} {u : Value} {pos : Pos} (hg : Gl X x) (hm : X.mg x = some u) (r : RelV v u) (hd : (x == ("__debug__" : Str)) = false := by decide) : PE X (.Name x pos) (tC v) :=
 fun _ _ _ H _ I h => ld_glob I hg hm ⟨v, H, I, r, h⟩ hd
variable {a b : Expr} {ta tb : TE} {pos : Pos}
noncomputable def PC (X : Cx) (op : CmpOp) (a b : Expr) (t : TE) : Prop :=
 ∀ (pins : List (Addr × Obj)) (s : Shared) (σ : St) (H : Hp) (Q : VK), Inv X pins σ H s → t σ H Q →
  wpAny (model X.prog X.w) X.A (eval a X.env) (fun v s₁ => wpAny (model X.prog X.w) X.A (eval b X.env) (fun u s₂ => wpAny (model X.prog X.w) X.A (compareOp op v u) (EP X pins σ Q) X.xe s₂) X.xe s₁) X.xe s
theorem nobehind (b : Expr) {op : CmpOp} (h : op ≠ .In) (h2 : op ≠ .NotIn) : behindInMarks op b = false := by
 have e1 : (op == CmpOp.In) = false := by cases op <;> first | rfl | exact absurd rfl h
 have e2 : (op == CmpOp.NotIn) = false := by cases op <;> first | rfl | exact absurd rfl h2
 cases b <;> simp [behindInMarks, e1, e2]
noncomputable def tIsN (ta : TE) : TE := fun σ H Q => ta σ H fun x H1 => Q (.bl (decide (x = .non))) H1
noncomputable def tNotN (ta : TE) : TE := fun σ H Q => ta σ H fun x H1 => Q (.bl (!decide (x = .non))) H1
theorem RelV.none_iff {x : V} {v : Value} (r : RelV x v) : (v == Value.none) = decide (x = .non) := by
 cases x with
 | non => cases r; rfl
 | bl _ => cases r; rfl
 | int _ => obtain ⟨t, rfl⟩ := r; rfl
 | str _ => obtain ⟨t, rfl⟩ := r; rfl
 | byt _ => obtain ⟨t, rfl⟩ := r; rfl
 | flt _ => obtain ⟨t, rfl⟩ := r; rfl
 | ref _ => cases r; rfl
 | ty _ => cases r; rfl
theorem pc_isN {j pos'} (ha : PE X a ta) : PC X .Is a (.Constant .none j pos') (tIsN ta) := by
 intro pins s σ H Q I h
 refine thn (ha pins s σ H _ I h) fun v s1 ⟨x, H1, I1, r1, q1⟩ => ?_
 exact Constant_none (is_none_gen ⟨.bl _, H1, I1, by rw [r1.none_iff]; rfl, q1⟩)
theorem pc_notN {j pos'} (ha : PE X a ta) : PC X .IsNot a (.Constant .none j pos') (tNotN ta) := by
 intro pins s σ H Q I h
 refine thn (ha pins s σ H _ I h) fun v s1 ⟨x, H1, I1, r1, q1⟩ => ?_
 exact Constant_none (isnot_none_gen ⟨.bl _, H1, I1, by rw [r1.none_iff]; rfl, q1⟩)
noncomputable def tB (t : TE) : TT := fun σ H Q => t σ H fun x H1 => ∃ c, x = .bl c ∧ Q c H1
theorem pe_cmp {op : CmpOp} {t : TE} (h : PC X op a b t) (h1 : behindInMarks op b = false := by first | exact nobehind _ (by decide) (by decide) | rfl) : PE X (.Compare a [op] [b] pos) t := fun pins s σ H Q I hw => wpAny_Compare1 (h pins s σ H Q I hw) h1
theorem pt_cmp {op : CmpOp} {t : TE} (h : PC X op a b t) (h1 : behindInMarks op b = false := by first | exact nobehind _ (by decide) (by decide) | rfl) : PT X (.Compare a [op] [b] pos) (tB t) := by
 intro pins s σ H Q I hw
 refine wpAny_isTrue_Compare1 (thn (h pins s σ H _ I hw) fun v s1 h1 => thn h1 fun u s2 h2 => thn h2 fun c s3 ⟨x, H1, I1, r1, q1⟩ => ?_) h1
 obtain ⟨d, rfl, q⟩ := q1
 cases r1
 exact wpAny_truthy_bool ⟨H1, I1, q⟩
variable {tA tB' : TT} {rest : List Expr}
noncomputable def tAnd (t u : TT) : TT := fun σ H Q => t σ H fun c H1 => if c = true then u σ H1 Q else Q false H1
noncomputable def tOr (t u : TT) : TT := fun σ H Q => t σ H fun c H1 => if c = true then Q true H1 else u σ H1 Q
noncomputable def tNot (t : TT) : TT := fun σ H Q => t σ H fun c H1 => Q (!c) H1
theorem pw_and1 (ha : PT X a tA) : PW X (.BoolOp .And [a] pos) tA := by
 intro wh pins s σ H Q I h
 refine isTrue_and (thn (ha pins s σ H Q I h) fun c s1 e => ?_)
 cases c with
 | true => exact isTrue_and_nil e
 | false => exact e
theorem pw_or1 (ha : PT X a tA) : PW X (.BoolOp .Or [a] pos) tA := by
 intro wh pins s σ H Q I h
 refine isTrue_or (thn (ha pins s σ H Q I h) fun c s1 e => ?_)
 cases c with
 | false => exact isTrue_or_nil e
 | true => exact e
theorem pw_and (ha : PT X a tA) (hb : PW X (.BoolOp .And (b :: rest) pos) tB') : PW X (.BoolOp .And (a :: b :: rest) pos) (tAnd tA tB') := by
 intro wh pins s σ H Q I h
 refine isTrue_and (thn (ha pins s σ H _ I h) fun c s1 ⟨H1, I1, q1⟩ => ?_)
 cases c with
 | true => exact hb wh pins s1 σ H1 Q I1 q1
 | false => exact ⟨H1, I1, q1⟩
theorem pw_or (ha : PT X a tA) (hb : PW X (.BoolOp .Or (b :: rest) pos) tB') : PW X (.BoolOp .Or (a :: b :: rest) pos) (tOr tA tB') := by
 intro wh pins s σ H Q I h
 refine isTrue_or (thn (ha pins s σ H _ I h) fun c s1 ⟨H1, I1, q1⟩ => ?_)
 cases c with
 | true => exact ⟨H1, I1, q1⟩
 | false => exact hb wh pins s1 σ H1 Q I1 q1
theorem pt_not (ha : PT X a tA) : PT X (.UnaryOp .Not a pos) (tNot tA) := by
 intro pins s σ H Q I h
 exact isTrue_not (ha pins s σ H (fun c H1 => Q (!c) H1) I h)
noncomputable def tAndV (ta tb : TE) : TE := fun σ H Q => ta σ H fun x H1 => ∃ c, x = .bl c ∧ if c = true then tb σ H1 Q else Q (.bl false) H1
noncomputable def tOrV (ta tb : TE) : TE := fun σ H Q => ta σ H fun x H1 => ∃ c, x = .bl c ∧ if c = true then Q (.bl true) H1 else tb σ H1 Q
theorem pe_one {op} {t : TE} (h : PE X a t) : PE X (.BoolOp op [a] pos) t := fun pins s σ H Q I hw => BoolOp_one (h pins s σ H Q I hw)
theorem pe_and (ha : PE X a ta) (hb : PE X (.BoolOp .And (b :: rest) pos) tb) : PE X (.BoolOp .And (a :: b :: rest) pos) (tAndV ta tb) := by
 intro pins s σ H Q I h
 refine BoolOp_and (thn (ha pins s σ H _ I h) fun v s1 ⟨x, H1, I1, r1, q1⟩ => ?_)
 obtain ⟨c, rfl, q1⟩ := q1
 cases r1
 refine wpAny_truthy_bool ?_
 cases c with
 | true => exact hb pins s1 σ H1 Q I1 q1
 | false => exact ⟨.bl false, H1, I1, rfl, q1⟩
theorem pe_or (ha : PE X a ta) (hb : PE X (.BoolOp .Or (b :: rest) pos) tb) : PE X (.BoolOp .Or (a :: b :: rest) pos) (tOrV ta tb) := by
 intro pins s σ H Q I h
 refine BoolOp_or (thn (ha pins s σ H _ I h) fun v s1 ⟨x, H1, I1, r1, q1⟩ => ?_)
 obtain ⟨c, rfl, q1⟩ := q1
 cases r1
 refine wpAny_truthy_bool ?_
 cases c with
 | false => exact hb pins s1 σ H1 Q I1 q1
 | true => exact ⟨.bl true, H1, I1, rfl, q1⟩
noncomputable def tIf (t : TT) (ta tb : TE) : TE := fun σ H Q => t σ H fun c H1 => if c = true then ta σ H1 Q else tb σ H1 Q
theorem pe_ifExp {c : Expr} (hc : PT X c tA) (ha : PE X a ta) (hb : PE X b tb) : PE X (.IfExp c a b pos) (tIf tA ta tb) := by
 intro pins s σ H Q I h
 refine wpAny_IfExp (thn (hc pins s σ H _ I h) fun d s1 ⟨H1, I1, q1⟩ => ?_)
 cases d with
 | true => exact ha pins s1 σ H1 Q I1 q1
 | false => exact hb pins s1 σ H1 Q I1 q1
end
end L2
namespace L2
open PySem PySem.Spec PyProof.Rows
noncomputable def SqL (K : PySem.W.Frag) (H : Hp) (a : Addr) (xs : List V) : Prop :=
 Rd H a (.lst xs) ∨
  ∃ (o : Obj) (its : Array Value) (n : Nat), K.lookup a = some o ∧ o.cls = .type "list" ∧ o.dict = none ∧ o.data = .seq its n ∧ its.size ≤ sizeLine ∧ Vals xs its.toList
noncomputable def SqT (K : PySem.W.Frag) (H : Hp) (a : Addr) (xs : List V) : Prop :=
 Rd H a (.tup xs) ∨
  ∃ (o : Obj) (its : Array Value) (n : Nat), K.lookup a = some o ∧ o.cls = .type "tuple" ∧ o.data = .seq its n ∧ its.size ≤ sizeLine ∧ Vals xs its.toList
noncomputable def absV : Value → Option V
 | .none => some .non
 | .bool b => some (.bl b)
 | .int i _ => some (.int i)
 | .str x _ => some (.str x)
 | .bytes b _ => some (.byt b)
 | .float b _ => some (.flt b)
 | .ref a => some (.ref a)
 | .type n => some (.ty n)
 | _ => none
theorem RelV.abs {x : V} {u : Value} (r : RelV x u) : absV u = some x := by
 cases x with
 | non => cases r; rfl
 | bl _ => cases r; rfl
 | int _ => obtain ⟨t, rfl⟩ := r; rfl
 | str _ => obtain ⟨t, rfl⟩ := r; rfl
 | byt _ => obtain ⟨t, rfl⟩ := r; rfl
 | flt _ => obtain ⟨t, rfl⟩ := r; rfl
 | ref _ => cases r; rfl
 | ty _ => cases r; rfl
theorem RelV.inj {x y : V} {u : Value} (r : RelV x u) (q : RelV y u) : x = y := Option.some.inj (r.abs.symm.trans q.abs)
theorem Vals.inj : ∀ {xs ys : List V} {us : List Value}, Vals xs us → Vals ys us → xs = ys
 | _, _, _, .nil, .nil => rfl
 | _, _, _, .cons r t, .cons r' t' => by rw [r.inj r', Vals.inj t t']
section
variable {X : Cx} {pins : List (Addr × Obj)} {σ : St} {H : Hp} {s : Shared} {a : Addr} {xs ys : List V}
theorem SqL.of {K : PySem.W.Frag} (h : H a = some (.lst xs)) : SqL K H a xs := .inl (.inl h)
theorem SqT.of {K : PySem.W.Frag} (h : H a = some (.tup xs)) : SqT K H a xs := .inl (.inl h)
theorem Inv.list (I : Inv X pins σ H s) (h : SqL X.K H a xs) : ∃ its : List Value, Vals xs its ∧ PlainL s.heap a its.toArray ∧ xs.length ≤ sizeLine := by
 rcases h with h | ⟨o, its, n, hk, hc, hd, hs, hz, r⟩
 ·obtain ⟨z, its, n, r, e⟩ := h.ok I.hok
  exact ⟨its, r, ⟨_, n, e, rfl, rfl, rfl⟩, z⟩
 ·refine ⟨its.toList, r, ⟨o, n, I.kIn a o hk, hc, hd, by simpa using hs⟩, ?_⟩
  have e := r.length
  simp only [Array.length_toList] at e
  omega
theorem Inv.tuple (I : Inv X pins σ H s) (h : SqT X.K H a xs) : ∃ its : List Value, Vals xs its ∧ IsTup s.heap a its.toArray ∧ xs.length ≤ sizeLine := by
 rcases h with h | ⟨o, its, n, hk, hc, hs, hz, r⟩
 ·obtain ⟨z, its, r, p⟩ := h.ok I.hok
  exact ⟨its, r, p, z⟩
 ·refine ⟨its.toList, r, ⟨o, I.kIn a o hk, hc, n, by simpa using hs⟩, ?_⟩
  have e := r.length
  simp only [Array.length_toList] at e
  omega
theorem Inv.list_inj (I : Inv X pins σ H s) (h : SqL X.K H a xs) (h' : SqL X.K H a ys) : xs = ys := by
 obtain ⟨its, r, ⟨o, n, e, _, _, d⟩, _⟩ := I.list h
 obtain ⟨its', r', ⟨o', n', e', _, _, d'⟩, _⟩ := I.list h'
 rw [e] at e'; cases e'
 rw [d] at d'
 injection d' with d1 _
 have : its = its' := by simpa using congrArg Array.toList d1
 subst this
 exact r.inj r'
end
noncomputable abbrev Cx.wish (X : Cx) (E : Value → Shared → Prop) : Cx := { X with xe := E }
noncomputable abbrev Cx.nox (X : Cx) : Cx := X.wish fun _ _ => False
theorem Cx.Ok.wish {X : Cx} (ok : X.Ok) (E : Value → Shared → Prop) : (X.wish E).Ok :=
 ⟨ok.mod, ok.kind, ok.glob, ok.blt, ok.above, ok.inj, ok.has, ok.cab, ok.hd, ok.frames, ok.stk, ok.exf, ok.bs, ok.bsz, ok.noex, ok.exfs, ok.funs, ok.frf⟩
theorem Cx.Ok.unwish {X : Cx} {E : Value → Shared → Prop} (ok : (X.wish E).Ok) : X.Ok :=
 ⟨ok.mod, ok.kind, ok.glob, ok.blt, ok.above, ok.inj, ok.has, ok.cab, ok.hd, ok.frames, ok.stk, ok.exf, ok.bs, ok.bsz, ok.noex, ok.exfs, ok.funs, ok.frf⟩
section
variable {X : Cx} {pins : List (Addr × Obj)} {σ : St} {H : Hp} {s : Shared} {E : Value → Shared → Prop}
theorem Inv.wish (I : Inv X pins σ H s) (E : Value → Shared → Prop) : Inv (X.wish E) pins σ H s := ⟨I.ok.wish E, I.os, I.bare, I.base, I.loc, I.cell, I.free, I.freeC, I.pin, I.hok, I.len⟩
theorem Inv.unwish (I : Inv (X.wish E) pins σ H s) : Inv X pins σ H s := ⟨I.ok.unwish, I.os, I.bare, I.base, I.loc, I.cell, I.free, I.freeC, I.pin, I.hok, I.len⟩
theorem SP.unwish {D : Ends} {f : Flow} {s' : Shared} (h : SP (X.wish E) pins D f s') : SP X pins D f s' := by
 cases f with
 | next => obtain ⟨σ', H', I, q⟩ := h; exact ⟨σ', H', I.unwish, q⟩
 | brk => obtain ⟨σ', H', I, q⟩ := h; exact ⟨σ', H', I.unwish, q⟩
 | cont => obtain ⟨σ', H', I, q⟩ := h; exact ⟨σ', H', I.unwish, q⟩
 | ret u => obtain ⟨v, σ', H', I, r, q⟩ := h; exact ⟨v, σ', H', I.unwish, r, q⟩
theorem PSs.nox {st : List Stmt} {t : TS} (h : PSs X.nox st t) : PSs X st t := fun pins s σ H D I hw =>
 wpAny_mono (h pins s σ H D (I.wish _) hw) (fun _ _ q => q.unwish) fun _ _ z => False.elim z
end
section
variable {X : Cx} {st : Stmt} {rest : List Stmt} {t u : TS} {e : Expr} {te : TE} {pos : Pos}
noncomputable def tNext : TS := fun D σ H => D.nx σ H
noncomputable def tSeq (t u : TS) : TS := fun D σ H => t { D with nx := u D } σ H
theorem pss_nil : PSs X [] tNext := fun _ _ σ H _ I h => wpAny_execs_nil ⟨σ, H, I, h⟩
theorem pss_cons (h1 : PS X st t) (h2 : PSs X rest u) : PSs X (st :: rest) (tSeq t u) := by
 intro pins s σ H D I h
 refine wpAny_execs_cons (thn (h1 pins s σ H { D with nx := u D } I h) fun f s1 q => ?_)
 cases f with
 | next =>
  obtain ⟨σ', H', I', q⟩ := q
  exact h2 pins s1 σ' H' D I' q
 | ret v => exact q
 | brk => exact q
 | cont => exact q
theorem pss_one (h1 : PS X st t) : PSs X [st] t := by
 intro pins s σ H D I h
 refine wpAny_execs_cons (thn (h1 pins s σ H D I h) fun f s1 q => ?_)
 cases f with
 | next => exact wpAny_execs_nil q
 | ret v => exact q
 | brk => exact q
 | cont => exact q
theorem Inv.quiet {pins : List (Addr × Obj)} {σ : St} {H : Hp} {s : Shared} (I : Inv X pins σ H s) : interactive X.env = false := by simp [interactive, I.ok.kind]
noncomputable def tDrop (te : TE) : TS := fun D σ H => te σ H fun _ H1 => D.nx σ H1
theorem ps_expr (he : PE X e te) (hs : swapsWith e none pos.line X.env = pure false := by rfl) : PS X (.Expr e pos) (tDrop te) := by
 intro pins s σ H D I h
 exact wpAny_Expr_any (thn (he pins s σ H _ I h) fun v s1 ⟨x, H1, I1, r1, q1⟩ => ⟨σ, H1, I1, q1⟩) I.quiet hs
noncomputable def tRet (te : TE) : TS := fun D σ H => te σ H D.rt
theorem ps_ret (he : PE X e te) : PS X (.Return (some e) pos) (tRet te) := by
 intro pins s σ H D I h
 exact wpAny_Return_some (thn (he pins s σ H _ I h) fun v s1 ⟨x, H1, I1, r1, q1⟩ => ⟨x, σ, H1, I1, r1, q1⟩)
noncomputable def tRetN : TS := fun D _ H => D.rt .non H
theorem ps_retN : PS X (.Return none pos) tRetN := fun _ _ σ H _ I h => wpAny_Return_none ⟨.non, σ, H, I, rfl, h⟩
noncomputable def tIfS (c : TT) (t u : TS) : TS := fun D σ H => c σ H fun b H1 => if b = true then t D σ H1 else u D σ H1
theorem ps_if {c : Expr} {a b : List Stmt} {tc : TT} (hc : PT X c tc) (ha : PSs X a t) (hb : PSs X b u) : PS X (.If c a b pos) (tIfS tc t u) := by
 intro pins s σ H D I h
 refine wpAny_If (thn (hc pins s σ H _ I h) fun d s1 ⟨H1, I1, q1⟩ => ?_)
 cases d with
 | true => exact ha pins s1 σ H1 D I1 q1
 | false => exact hb pins s1 σ H1 D I1 q1
end
noncomputable abbrev TG := V → St → Hp → (St → Hp → Prop) → Prop
noncomputable abbrev TGs := List V → St → Hp → (St → Hp → Prop) → Prop
noncomputable def PG (X : Cx) (target : Expr) (t : TG) : Prop :=
 ∀ (pins : List (Addr × Obj)) (s : Shared) (σ : St) (H : Hp) (v : V) (u : Value) (Q : St → Hp → Prop), Inv X pins σ H s → RelV v u → t v σ H Q →
  wpAny (model X.prog X.w) X.A (assign target X.env u) (fun _ s' => ∃ σ' H', Inv X pins σ' H' s' ∧ Q σ' H') X.xe s
noncomputable def PGs (X : Cx) (ts : List Expr) (t : TGs) : Prop :=
 ∀ (pins : List (Addr × Obj)) (s : Shared) (σ : St) (H : Hp) (vs : List V) (us : List Value) (Q : St → Hp → Prop), Inv X pins σ H s → Vals vs us → t vs σ H Q →
  wpAny (model X.prog X.w) X.A (assignInOrder ((assignEach ts X.env).map (·.2)) us) (fun _ s' => ∃ σ' H', Inv X pins σ' H' s' ∧ Q σ' H') X.xe s
noncomputable abbrev TSet := V → V → V → Hp → (Hp → Prop) → Prop
noncomputable def PSet (X : Cx) (t : TSet) : Prop :=
 ∀ (pins : List (Addr × Obj)) (s : Shared) (σ : St) (H : Hp) (o i v : V) (ov iv u : Value) (Q : Hp → Prop), Inv X pins σ H s → RelV o ov → RelV i iv → RelV v u → t o i v H Q →
  wpAny (model X.prog X.w) X.A (setItem ov iv u) (fun _ s' => ∃ H', Inv X pins σ H' s' ∧ Q H') X.xe s
noncomputable abbrev TIp := V → V → Hp → VK → Prop
noncomputable def PIp (X : Cx) (op : Operator) (t : TIp) : Prop :=
 ∀ (pins : List (Addr × Obj)) (s : Shared) (σ : St) (H : Hp) (x y : V) (v u : Value) (Q : VK), Inv X pins σ H s → RelV x v → RelV y u → t x y H Q →
  wpAny (model X.prog X.w) X.A (inplaceOp op v u) (EP X pins σ Q) X.xe s
section
variable {X : Cx} {pos : Pos}
noncomputable def gName (i : Nat) : TG := fun v σ H Q => Q (σ.set i (some v)) H
theorem pg_name {i : Nat} {x : Str} (hN : X.N.Nodup) (hi : X.N[i]? = some x) (hx : Loc X.env.scope x) (hf : X.fn x = true ∨ X.env.scope.names.lookup x = some .local := by first | exact .inl rfl | exact .inr rfl | assumption) : PG X (.Name x pos) (gName i) := by
 intro pins s σ H v u Q I r h
 exact wpAny_assign_Name (store_ok I hN hi hx r (fun s' I' => ⟨_, H, I', h⟩) hf)
noncomputable def gNil : TGs := fun vs σ H Q => vs = [] ∧ Q σ H
noncomputable def gCons (t : TG) (u : TGs) : TGs := fun vs σ H Q => ∃ v r, vs = v :: r ∧ t v σ H fun σ' H' => u r σ' H' Q
theorem pgs_nil : PGs X [] gNil := by
 intro pins s σ H vs us Q I r h
 obtain ⟨e, h⟩ := h
 subst e
 cases r
 exact assignInOrder_nil ⟨σ, H, I, h⟩
theorem pgs_cons {e : Expr} {es : List Expr} {t : TG} {u : TGs} (h1 : PG X e t) (h2 : PGs X es u)
  (hs : (assignEach (e :: es) X.env).map (·.2) = assign e X.env :: (assignEach es X.env).map (·.2) := by rfl) : PGs X (e :: es) (gCons t u) := by
 intro pins s σ H vs us Q I r h
 obtain ⟨v, vr, e1, h⟩ := h
 subst e1
 cases r with
 | cons r rr =>
  rw [hs]
  refine assignInOrder_cons (thn (h1 pins s σ H _ _ _ I r h) fun _ s1 ⟨σ1, H1, I1, q1⟩ => ?_)
  exact h2 pins s1 σ1 H1 _ _ Q I1 rr q1
noncomputable def gTup (K : PySem.W.Frag) (n : Nat) (t : TGs) : TG := fun v σ H Q => ∃ a xs, v = .ref a ∧ SqT K H a xs ∧ xs.length = n ∧ t xs σ H Q
theorem pg_tup {es : List Expr} {k : Nat} {t : TGs} {n : Nat} (hc : X.calm = true) (h : PGs X es t)
  (hn : (assignEach es X.env).length = n := by rfl) (hst : (assignEach es X.env).findIdx? (·.1) = none := by rfl) : PG X (.Tuple es k pos) (gTup X.K n t) := by
 intro pins s σ H v u Q I r hw
 obtain ⟨a, xs, e1, hq, hl, hw⟩ := hw
 subst e1
 cases r
 obtain ⟨its, rv, ht, hz⟩ := I.tuple hq
 refine assign_Tuple_tuple (I.ok.hd hc) ht (by simp [hn, ← hl, rv.length]) hst fun h' hx => ?_
 have I1 : Inv X pins σ H { s with heap := h' } := I.kept (t' := s.toks) fun b o e => hx b o (Nat.ne_of_lt (Heap.lt_size e)) e
 exact h pins _ σ H xs _ Q I1 (by simpa using rv) hw
noncomputable def gSub (to ti : TE) (t : TSet) : TG := fun v σ H Q => to σ H fun o H1 => ti σ H1 fun i H2 => t o i v H2 fun H3 => Q σ H3
theorem pg_sub {o i : Expr} {to ti : TE} {t : TSet} (ho : PE X o to) (hi : PE X i ti) (hs : PSet X t)
  (ha : ∀ v, assign (.Subscript o i pos) X.env v = (do
   let ov ← holding [v] (eval o X.env)
   let iv ← holding [v, ov] (eval i X.env)
   standAt pos
   holding [v, ov, iv] (setItem ov iv v)
   release [v, ov, iv] []) := by intro _; rfl) : PG X (.Subscript o i pos) (gSub to ti t) := by
 intro pins s σ H v u Q I r h
 rw [ha]
 refine wpAny_bind (wpAny_holding (thn (ho pins s σ H _ I h) fun ov s1 ⟨x, H1, I1, r1, q1⟩ => ?_))
 refine wpAny_bind (wpAny_holding (thn (hi pins s1 σ H1 _ I1 q1) fun iv s2 ⟨y, H2, I2, r2, q2⟩ => ?_))
 refine wpAny_bind (wpAny_standAt (wpAny_bind (wpAny_holding (thn (hs pins s2 σ H2 x y v ov iv u _ I2 r1 r2 r q2) fun _ s3 ⟨H3, I3, q3⟩ => ?_))))
 exact wpAny_release ⟨σ, H3, I3, q3⟩
noncomputable def tAsg (te : TE) (g : TG) : TS := fun D σ H => te σ H fun x H1 => g x σ H1 D.nx
theorem ps_asg {tg e : Expr} {te : TE} {g : TG} (he : PE X e te) (hg : PG X tg g) (hs : swapsWithSole [tg] e pos.line X.env = pure false := by rfl) (hw : swappedStores [tg] e X.env = pure none := by rfl)
  (h1 : (assignEach [tg] X.env).map (·.2) = [assign tg X.env] := by rfl) : PS X (.Assign [tg] e pos) (tAsg te g) := by
 intro pins s σ H D I h
 refine wpAny_Assign_stores (thn (he pins s σ H _ I h) fun v s1 ⟨x, H1, I1, r1, q1⟩ => ?_) hs hw
 rw [h1]
 exact thn (hg pins s1 σ H1 x v _ I1 r1 q1) fun _ s2 q => q
theorem ps_set {i : Nat} {x : Str} {e : Expr} {te : TE} {pos' : Pos} (hN : X.N.Nodup) (hi : X.N[i]? = some x) (hx : Loc X.env.scope x) (he : PE X e te) (hs : swapsWith e (some (.Name x pos')) pos.line X.env = pure false := by rfl) (hf : X.fn x = true ∨ X.env.scope.names.lookup x = some .local := by first | exact .inl rfl | exact .inr rfl | assumption) :
  PS X (.Assign [.Name x pos'] e pos) (tAsg te (gName i)) := by
 intro pins s σ H D I h
 refine wpAny_Assign_Name (thn (he pins s σ H _ I h) fun v s1 ⟨y, H1, I1, r1, q1⟩ => ?_) hs
 exact store_ok I1 hN hi hx r1 (fun s2 I2 => ⟨_, H1, I2, q1⟩) hf
noncomputable def tAug (i : Nat) (te : TE) (ti : TIp) : TS := fun D σ H => ∃ x, σ[i]? = some (some x) ∧ te σ H fun y H1 => ti x y H1 fun z H2 => D.nx (σ.set i (some z)) H2
theorem ps_aug {i : Nat} {x : Str} {e : Expr} {te : TE} {op : Operator} {ti : TIp} {pos' : Pos} (hN : X.N.Nodup) (hi : X.N[i]? = some x) (hx : Loc X.env.scope x) (he : PE X e te) (ho : PIp X op ti) (hf : X.fn x = true ∨ X.env.scope.names.lookup x = some .local := by first | exact .inl rfl | exact .inr rfl | assumption) :
  PS X (.AugAssign (.Name x pos') op e pos) (tAug i te ti) := by
 intro pins s σ H D I h
 obtain ⟨v, e1, h⟩ := h
 obtain ⟨m, hn, hl⟩ := I.loc
 have vis : Vis X.env.scope x := by rcases hx with k | k; exact .inl k; exact .inr (.inl k)
 obtain ⟨u, r, l⟩ := hl i x v hi e1 vis
 refine wpAny_AugAssign_Name ?_
 have go : wpAny (model X.prog X.w) X.A (eval e X.env) (fun w s₂ => wpAny (model X.prog X.w) X.A (inplaceOp op u w) (fun r s₃ => wpAny (model X.prog X.w) X.A (storeName X.env x r) (fun _ => SP X pins D .next) X.xe s₃) X.xe s₂) X.xe s := by
  refine thn (he pins s σ H _ I h) fun w s1 ⟨y, H1, I1, r1, q1⟩ => ?_
  refine thn (ho pins s1 σ H1 v y u w _ I1 r r1 q1) fun z s2 ⟨zv, H2, I2, r2, q2⟩ => ?_
  exact store_ok I2 hN hi hx r2 (fun s3 I3 => ⟨_, H2, I3, q2⟩) hf
 rcases l with ⟨hk, hm⟩ | ⟨hk, c, hc, hcell⟩
 ·exact wpAny_loadName_local I.ok.kind hk hn hm go
 ·rcases hk with hk | hk
  ·exact wpAny_loadName_cell I.ok.kind hk hc hcell go
  ·rcases hx with k | k
   ·have : X.env.scope.names.lookup x = some .free := hk
    rw [k] at this; cases this
   ·have : X.env.scope.names.lookup x = some .free := hk
    rw [k] at this; cases this
noncomputable def ipI (f : Int → Int → Int) : TIp := fun x y H Q => ∃ i j, x = .int i ∧ y = .int j ∧ Q (.int (f i j)) H
theorem ip_add : PIp X .Add (ipI fun i j => i + j) := by
 intro pins s σ H x y v u Q I r1 r2 h
 obtain ⟨i, j, e1, e2, q⟩ := h
 subst e1; subst e2
 obtain ⟨t, rfl⟩ := r1
 obtain ⟨t', rfl⟩ := r2
 exact iadd_int ⟨.int _, H, I.tok _, ⟨_, rfl⟩, q⟩
end
section
variable {X : Cx} {pos : Pos}
noncomputable def tWhile (c : TT) (tb : TS) : TS := fun D σ H => ∃ W : Nat → St → Hp → Prop, (∃ m, W m σ H) ∧ ∀ m σ H, W m σ H →
 c σ H fun b H1 => if b = true then ∃ N : St → Hp → Prop, (∀ σ' H', N σ' H' → ∃ m', m' < m ∧ W m' σ' H') ∧ tb { D with nx := N, ct := N, bk := D.nx } σ H1 else D.nx σ H1
theorem ps_while {c : Expr} {body : List Stmt} {tc : TT} {tb : TS} (hp : PassesOwn (model X.prog X.w) X.A X.env X.xe) (hc : PT X c tc) (hb : PSs X body tb) : PS X (.While c body [] pos) (tWhile tc tb) := by
 intro pins s σ H D I h
 obtain ⟨W, ⟨m0, w0⟩, turn⟩ := h
 refine wpAny_While (codeAny_whileLoop (fun n s' => ∃ σ' H', Inv X pins σ' H' s' ∧ W n σ' H') ?_ m0 ⟨σ, H, I, w0⟩)
 rintro n s1 ⟨σ1, H1, I1, w1⟩
 refine wpAny_passesOwn hp (thn (hc pins s1 σ1 H1 _ I1 (turn n σ1 H1 w1)) fun b s2 ⟨H2, I2, q2⟩ => ?_)
 cases b with
 | true =>
  obtain ⟨N, hN, q2⟩ := q2
  rw [if_pos rfl]
  refine wpAny_passesOwn hp (thn (hb pins s2 σ1 H2 _ I2 q2) fun f s3 q3 => ?_)
  cases f with
  | next =>
   obtain ⟨σ3, H3, I3, n3⟩ := q3
   obtain ⟨m', hm, w3⟩ := hN σ3 H3 n3
   exact ⟨m', hm, σ3, H3, I3, w3⟩
  | cont =>
   obtain ⟨σ3, H3, I3, n3⟩ := q3
   obtain ⟨m', hm, w3⟩ := hN σ3 H3 n3
   exact ⟨m', hm, σ3, H3, I3, w3⟩
  | brk => exact q3
  | ret v => exact q3
 | false =>
  rw [if_neg Bool.false_ne_true]
  exact wpAny_execs_nil ⟨σ1, H2, I2, q2⟩
end
structure It where
 go : Nat → Hp → Prop
 yld : Nat → Hp → V → Hp → Prop
 stop : Nat → Hp → Prop
noncomputable def FpOk (X : Cx) (pins : List (Addr × Obj)) (H : Hp) (b : Addr) : Prop :=
 H b = none ∧ b ≠ X.env.locals ∧ b ∉ X.fs ∧ (b ∈ X.ex ∨ X.s_0.heap.objs.size ≤ b) ∧ (∀ x c, X.env.cells.lookup x = some c → c ≠ b) ∧ ∀ p ∈ X.pn ++ pins, p.1 ≠ b
theorem Inv.fpOk {X : Cx} {pins : List (Addr × Obj)} {σ : St} {H H' : Hp} {s : Shared} {b : Addr} (I : Inv X pins σ H s) (hb : s.heap.objs.size ≤ b) (hn : H' b = none) : FpOk X pins H' b := by
 refine ⟨hn, Nat.ne_of_gt (Nat.lt_of_lt_of_le I.lt hb), I.nofs hb, .inr (Nat.le_trans I.sz hb), fun x c e z => ?_, fun p hp z => ?_⟩
 ·obtain ⟨v, q⟩ := I.cell x c e
  exact absurd (Nat.lt_of_lt_of_le q.lt (by rw [z]; exact hb)) (Nat.lt_irrefl _)
 ·exact absurd (Nat.lt_of_lt_of_le (Heap.lt_size (I.pin p hp).1) (by rw [z]; exact hb)) (Nat.lt_irrefl _)
structure Turn (P : Program) (w : World) (K : PySem.W.Frag) (tg : Expr) (J : It) (fp : List Addr) (it : Addr) (tn : Nat → Heap → Prop) : Prop where
 mem : it ∈ fp
 obj : ∀ i h, tn i h → ∀ b ∈ fp, ∃ o, h.get? b = some o ∧ ∀ v, o.data ≠ .cell v
 keep : ∀ i h h', tn i h → (∀ b ∈ fp, ∀ o, h.get? b = some o → h'.get? b = some o) → tn i h'
 item : ∀ (X : Cx), X.prog = P → X.w = w → X.K = K → X.calm = true → ∀ (i : Nat) (pins : List (Addr × Obj)) (s : Shared) (σ : St) (H : Hp) (E : Value → Shared → Prop), Inv X pins σ H s → (∀ b ∈ fp, FpOk X pins H b) → tn i s.heap → J.go i H →
  wpAny (model P w) X.A (pyNext (.ref it)) (fun r s1 => ∃ u, r = some u ∧
   wpAny (model P w) X.A (letOwnedTupleGo tg (.ref it) u) (fun _ s2 => ∃ x H', Inv X pins σ H' s2 ∧ RelV x u ∧ J.yld i H x H' ∧ tn (i + 1) s2.heap ∧ ∀ b ∈ fp, H' b = none) E s1) E s
 done : ∀ (X : Cx), X.prog = P → X.w = w → X.K = K → X.calm = true → ∀ (i : Nat) (pins : List (Addr × Obj)) (s : Shared) (σ : St) (H : Hp) (E : Value → Shared → Prop), Inv X pins σ H s → (∀ b ∈ fp, FpOk X pins H b) → tn i s.heap → J.stop i H →
  wpAny (model P w) X.A (pyNext (.ref it)) (fun r s1 => r = none ∧ Inv X pins σ H s1) E s
 self : ∀ (A : Around) (i : Nat) (s : Shared) (Q : Value → Shared → Prop) (E : Value → Shared → Prop), tn i s.heap → Q (.ref it) s → wpAny (model P w) A (pyIter (.ref it)) Q E s
noncomputable abbrev TI := St → Hp → (It → Hp → Prop) → Prop
noncomputable def PIE (X : Cx) (pins : List (Addr × Obj)) (σ : St) (tg : Expr) (R : It → Hp → Prop) (itv : Value) (s2 : Shared) : Prop :=
 ∃ (it : Addr) (fp : List Addr) (tn : Nat → Heap → Prop) (J : It) (H' : Hp), itv = .ref it ∧ Inv X pins σ H' s2 ∧ Turn X.prog X.w X.K tg J fp it tn ∧ tn 0 s2.heap ∧ (∀ b ∈ fp, FpOk X pins H' b) ∧ R J H'
noncomputable def PI (X : Cx) (tg iter : Expr) (wi : TI) : Prop :=
 ∀ (pins : List (Addr × Obj)) (s : Shared) (σ : St) (H : Hp) (R : It → Hp → Prop), Inv X pins σ H s → wi σ H R →
  wpAny (model X.prog X.w) X.A (eval iter X.env) (fun v s1 => wpAny (model X.prog X.w) X.A (pyIter v) (PIE X pins σ tg R) X.xe s1) X.xe s
theorem go_of {M : Model} {A : Around} {E : Value → Shared → Prop} {s : Shared} {tg : Expr} {it : Addr} {u : Value} {o : Obj} {n : String} {vs : Array Value} {Q : Unit → Shared → Prop} (ho : s.heap.get? it = some o) (hc : o.cls = .type n) (hd : o.data = .fields vs)
    (hn : ["enumerate", "zip", "dict_itemiterator", "dict_reverseitemiterator", "odict_iterator", "itertools.zip_longest", "itertools.pairwise"].contains n = false) (hQ : Q () s) : wpAny M A (letOwnedTupleGo tg (.ref it) u) Q E s := by
  unfold letOwnedTupleGo
  cases tg <;> first
    | exact wpAny_pure hQ
    | (cases u <;> first
        | exact wpAny_pure hQ
        | (refine wpAny_bind (wpAny_load ho ?_)
           rw [hc, hd]
           show wpAny M A (if (["enumerate", "zip", "dict_itemiterator", "dict_reverseitemiterator", "odict_iterator", "itertools.zip_longest", "itertools.pairwise"].contains n && vs[0]? == some (rawInt _)) = true then _ else _) Q E s
           rw [if_neg (by intro h; rw [hn, Bool.false_and] at h; cases h)]
           exact wpAny_pure hQ))
noncomputable def Itl (K : PySem.W.Frag) (a : Addr) : It :=
 ⟨fun i H => ∃ xs x, SqL K H a xs ∧ xs[i]? = some x, fun i H x H' => H' = H ∧ ∀ xs, SqL K H a xs → xs[i]? = some x, fun i H => ∃ xs, SqL K H a xs ∧ xs.length ≤ i⟩
theorem turn_list {P : Program} {w : World} {K : PySem.W.Frag} {tg : Expr} (a it : Addr) : Turn P w K tg (Itl K a) [it] it (fun i h => h.IsListIter it a i) where
 mem := by simp
 obj := fun i h st b hb => by
  have e : b = it := by simpa using hb
  subst e
  obtain ⟨o, e, c, d⟩ := st
  exact ⟨o, e, fun v z => by rw [d] at z; cases z⟩
 keep := fun i h h' st k => st.at fun o e => k it (by simp) o e
 item := by
  intro X hP hw hK hc i pins s σ H E I hf st hg
  subst hP hw hK
  obtain ⟨xs, x, hq, hx⟩ := hg
  obtain ⟨its, rv, p, hz⟩ := I.list hq
  obtain ⟨u, hu, ru⟩ := rv.get hx
  obtain ⟨f0, f1, f2, f3, f4, f5⟩ := hf it (by simp)
  refine wpAny_pyNext_list_item st p.isList (x := u) (by simpa using hu) fun h' st' sb => ?_
  have I1 : Inv X pins σ H { s with heap := h' } := I.turned (t' := s.toks) (fun b o hb e => (sb.2 b hb).trans e) f0 f1 f3 f4 f5
  obtain ⟨o, e, c, d⟩ := id st'
  exact ⟨u, rfl, go_of (s := { s with heap := h' }) e c d (by decide) ⟨x, H, I1, ru, ⟨rfl, fun ys hy => by rw [I.list_inj hy hq]; exact hx⟩, st', fun b hb => (hf b hb).1⟩⟩
 done := by
  intro X hP hw hK hc i pins s σ H E I hf st hg
  subst hP hw hK
  obtain ⟨xs, hq, hx⟩ := hg
  obtain ⟨its, rv, p, hz⟩ := I.list hq
  obtain ⟨f0, f1, f2, f3, f4, f5⟩ := hf it (by simp)
  have hl := rv.length
  exact wpAny_pyNext_list_end (I.ok.hd hc) st p.isList (by simp; omega) fun h' eb => ⟨rfl, I.turned (t' := s.toks) (fun b o hb e => eb b o hb e) f0 f1 f3 f4 f5⟩
 self := fun _ _ _ _ _ st h => wpAny_pyIter_listiter st h
end L2
namespace L2
open PySem PySem.Spec PyProof.Rows
section
variable {X : Cx} {tg : Expr}
noncomputable def iList (K : PySem.W.Frag) (tl : TE) : TI := fun σ H R => tl σ H fun x H1 => ∃ a, x = .ref a ∧ (∃ xs, SqL K H1 a xs) ∧ R (Itl K a) H1
theorem pi_list {l : Expr} {tl : TE} (hl : PE X l tl) : PI X tg l (iList X.K tl) := by
 intro pins s σ H R I h
 refine thn (hl pins s σ H _ I h) fun v s1 ⟨x, H1, I1, r1, q1⟩ => ?_
 obtain ⟨a, e, ⟨xs, hq⟩, q⟩ := q1
 subst e
 cases r1
 obtain ⟨its, rv, p, hz⟩ := I1.list hq
 refine wpAny_pyIter_list p.isList ?_
 refine ⟨s1.heap.objs.size, [s1.heap.objs.size], _, _, H1, rfl, I1.kept (t' := s1.toks) fun b o e => Heap.get?_push_of_some _ e, turn_list a _, ⟨_, Heap.get?_push_size _ rfl, rfl, rfl⟩, fun b hb => ?_, q⟩
 have e : b = s1.heap.objs.size := by simpa using hb
 subst e
 exact I1.fpOk (Nat.le_refl _) (I1.hok.fresh (Nat.le_refl _))
noncomputable def tFor (wi : TI) (g : TG) (tb : TS) : TS := fun D σ H => wi σ H fun J H1 => ∃ W : Nat → Nat → St → Hp → Prop, (∃ m, W 0 m σ H1) ∧ ∀ i m σ H, W i m σ H →
 (J.stop i H ∧ D.nx σ H) ∨ (J.go i H ∧ ∃ N : St → Hp → Prop, (∀ σ' H', N σ' H' → ∃ m', m' < m ∧ W (i + 1) m' σ' H') ∧ ∀ x H', J.yld i H x H' → g x σ H' fun σ2 H2 => tb { D with nx := N, ct := N, bk := D.nx } σ2 H2)
noncomputable def pinsAt (fp : List Addr) (h : Heap) : List (Addr × Obj) := fp.filterMap fun b => (h.get? b).map fun o => (b, o)
theorem mem_pinsAt {fp : List Addr} {h : Heap} {b : Addr} {o : Obj} (hb : b ∈ fp) (e : h.get? b = some o) : (b, o) ∈ pinsAt fp h := List.mem_filterMap.mpr ⟨b, hb, by rw [e]; rfl⟩
theorem of_pinsAt {fp : List Addr} {h : Heap} {p : Addr × Obj} (hp : p ∈ pinsAt fp h) : p.1 ∈ fp ∧ h.get? p.1 = some p.2 := by
 obtain ⟨b, hb, e⟩ := List.mem_filterMap.mp hp
 cases q : h.get? b with
 | none => rw [q] at e; cases e
 | some o =>
  rw [q] at e
  have e' : (b, o) = p := Option.some.inj e
  subst e'
  exact ⟨hb, q⟩
theorem Inv.pinned {pins : List (Addr × Obj)} {σ : St} {H : Hp} {s : Shared} {fp : List Addr} (I : Inv X pins σ H s) (hf : ∀ b ∈ fp, FpOk X pins H b) (ho : ∀ b ∈ fp, ∃ o, s.heap.get? b = some o ∧ ∀ v, o.data ≠ .cell v) : Inv X (pins ++ pinsAt fp s.heap) σ H s :=
 I.pins_of fun p hp => (List.mem_append.mp hp).elim (fun z => I.pin p (List.mem_append_right _ z)) fun z => by
  obtain ⟨hb, e⟩ := of_pinsAt z
  obtain ⟨f0, f1, f2, _⟩ := hf p.1 hb
  obtain ⟨o, e', d⟩ := ho p.1 hb
  rw [e] at e'; cases e'
  exact ⟨e, f0, f1, f2, d⟩
theorem Inv.unpinned {pins pl : List (Addr × Obj)} {σ : St} {H : Hp} {s : Shared} (I : Inv X (pins ++ pl) σ H s) : Inv X pins σ H s := I.pins_of fun p hp => I.pin p (List.mem_append_right _ (List.mem_append_left _ hp))
theorem ps_for {iter : Expr} {body : List Stmt} {wi : TI} {g : TG} {tb : TS} {pos : Pos} (hp : PassesOwn (model X.prog X.w) X.A X.env X.xe) (hc : X.calm = true) (hi : PI X tg iter wi) (hg : PG X tg g) (hb : PSs X body tb)
  (hs : ∀ x, foldedSetIterable iter X.env x = pure x := by intro _; rfl) : PS X (.For tg iter body [] pos) (tFor wi g tb) := by
 intro pins s σ H D I h
 refine wpAny_For (thn (hi pins s σ H _ I h) fun v s1 h1 => thn h1 fun itv s2 h2 => ?_) hs
 obtain ⟨it, fp, tn, J, H2, e, I2, T, st2, f2, W, ⟨m0, w0⟩, turn⟩ := h2
 subst e
 have stat : ∀ {H' : Hp}, (∀ b ∈ fp, H' b = none) → ∀ b ∈ fp, FpOk X pins H' b := fun hn b hb => ⟨hn b hb, (f2 b hb).2⟩
 refine codeAny_forLoop_any (fun n s' => ∃ i σ' H', Inv X pins σ' H' s' ∧ tn i s'.heap ∧ (∀ b ∈ fp, H' b = none) ∧ W i n σ' H') ?_ m0 ⟨0, σ, H2, I2, st2, fun b hb => (f2 b hb).1, w0⟩
 rintro n s3 ⟨i, σ3, H3, I3, st3, fr3, w3⟩
 rcases turn i n σ3 H3 w3 with ⟨stop, qn⟩ | ⟨go, N, hN, step⟩
 ·refine wpAny_passesOwn hp (thn (T.done X rfl rfl rfl hc i pins s3 σ3 H3 X.xe I3 (stat fr3) st3 stop) fun r s4 ⟨hr, I4⟩ => ?_)
  subst hr
  exact wpAny_execs_nil ⟨σ3, H3, I4, qn⟩
 ·refine wpAny_passesOwn hp (thn (T.item X rfl rfl rfl hc i pins s3 σ3 H3 X.xe I3 (stat fr3) st3 go) fun r s4 ⟨u, hr, h4⟩ => ?_)
  subst hr
  refine wpAny_passesOwn hp (thn h4 fun _ s5 ⟨x, H5, I5, r5, y5, st5, fr5⟩ => ?_)
  have I5' := I5.pinned (stat fr5) (T.obj _ _ st5)
  refine wpAny_passesOwn hp (thn (hg _ s5 σ3 H5 x u _ I5' r5 (step x H5 y5)) fun _ s6 ⟨σ6, H6, I6, q6⟩ => ?_)
  refine wpAny_passesOwn hp (thn (hb _ s6 σ6 H6 _ I6 q6) fun f s7 q7 => ?_)
  have again : ∀ {σ7 : St} {H7 : Hp}, Inv X (pins ++ pinsAt fp s5.heap) σ7 H7 s7 → N σ7 H7 → ∃ m, m < n ∧ ∃ i σ' H', Inv X pins σ' H' s7 ∧ tn i s7.heap ∧ (∀ b ∈ fp, H' b = none) ∧ W i m σ' H' := fun {σ7 H7} I7 n7 => by
   obtain ⟨m', hm, w7⟩ := hN σ7 H7 n7
   refine ⟨m', hm, i + 1, σ7, H7, I7.unpinned, T.keep _ _ _ st5 fun b hb o e => (I7.pin (b, o) (List.mem_append_right _ (List.mem_append_right _ (mem_pinsAt hb e)))).1, fun b hb => ?_, w7⟩
   obtain ⟨o, e, d⟩ := T.obj _ _ st5 b hb
   exact (I7.pin (b, o) (List.mem_append_right _ (List.mem_append_right _ (mem_pinsAt hb e)))).2.1
  cases f with
  | next => obtain ⟨σ7, H7, I7, n7⟩ := q7; exact again I7 n7
  | cont => obtain ⟨σ7, H7, I7, n7⟩ := q7; exact again I7 n7
  | brk => obtain ⟨σ7, H7, I7, q7⟩ := q7; exact ⟨σ7, H7, I7.unpinned, q7⟩
  | ret v => obtain ⟨x7, σ7, H7, I7, r7, q7⟩ := q7; exact ⟨x7, σ7, H7, I7.unpinned, r7, q7⟩
end
theorem for_list {K : PySem.W.Frag} {a : Addr} {xs : List V} {g : TG} {tb : TS} {D : Ends} {σ : St} {H : Hp} (Pv : Nat → St → Hp → Prop) (h0 : Pv 0 σ H) (hl : ∀ i σ H, i ≤ xs.length → Pv i σ H → SqL K H a xs)
  (hs : ∀ i x σ H, xs[i]? = some x → Pv i σ H → g x σ H fun σ2 H2 => tb { D with nx := Pv (i + 1), ct := Pv (i + 1), bk := D.nx } σ2 H2) (hd : ∀ σ H, Pv xs.length σ H → D.nx σ H) :
  ∃ W : Nat → Nat → St → Hp → Prop, (∃ m, W 0 m σ H) ∧ ∀ i m σ H, W i m σ H →
   ((Itl K a).stop i H ∧ D.nx σ H) ∨ ((Itl K a).go i H ∧ ∃ N : St → Hp → Prop, (∀ σ' H', N σ' H' → ∃ m', m' < m ∧ W (i + 1) m' σ' H') ∧ ∀ x H', (Itl K a).yld i H x H' → g x σ H' fun σ2 H2 => tb { D with nx := N, ct := N, bk := D.nx } σ2 H2) := by
 refine ⟨fun i m σ H => m = xs.length - i ∧ i ≤ xs.length ∧ Pv i σ H, ⟨xs.length, by simp, Nat.zero_le _, h0⟩, ?_⟩
 rintro i m σ H ⟨rfl, hi, p⟩
 have q := hl i σ H hi p
 by_cases hlt : i < xs.length
 ·refine .inr ⟨⟨xs, xs[i], q, by simp [hlt]⟩, Pv (i + 1), fun σ' H' p' => ⟨xs.length - (i + 1), by omega, rfl, hlt, p'⟩, fun x H' y => ?_⟩
  obtain ⟨e, y⟩ := y
  subst e
  exact hs i x σ _ (y xs q) p
 ·have e : i = xs.length := by omega
  subst e
  exact .inl ⟨⟨xs, q, Nat.le_refl _⟩, hd σ H p⟩
end L2
namespace L2
open PySem PySem.Spec PyProof.Rows
noncomputable abbrev R2 := V → V → Hp → VK → Prop
noncomputable def OpR (X : Cx) (f : Value → Value → Sem Value) (r : R2) : Prop :=
 ∀ (pins : List (Addr × Obj)) (s : Shared) (σ : St) (H : Hp) (x y : V) (v u : Value) (Q : VK), Inv X pins σ H s → RelV x v → RelV y u → r x y H Q →
  wpAny (model X.prog X.w) X.A (f v u) (EP X pins σ Q) X.xe s
noncomputable def UnR (X : Cx) (f : Value → Sem Value) (r : V → Hp → VK → Prop) : Prop :=
 ∀ (pins : List (Addr × Obj)) (s : Shared) (σ : St) (H : Hp) (x : V) (v : Value) (Q : VK), Inv X pins σ H s → RelV x v → r x H Q →
  wpAny (model X.prog X.w) X.A (f v) (EP X pins σ Q) X.xe s
noncomputable def CallR (X : Cx) (f : Value) (r : List V → Hp → VK → Prop) : Prop :=
 ∀ (pins : List (Addr × Obj)) (s : Shared) (σ : St) (H : Hp) (xs : List V) (us : List Value) (Q : VK), Inv X pins σ H s → Vals xs us → r xs H Q →
  wpAny (model X.prog X.w) X.A (call f us) (EP X pins σ Q) X.xe s
noncomputable def TruR (X : Cx) (r : V → Hp → (Bool → Hp → Prop) → Prop) : Prop :=
 ∀ (pins : List (Addr × Obj)) (s : Shared) (σ : St) (H : Hp) (x : V) (v : Value) (Q : Bool → Hp → Prop), Inv X pins σ H s → RelV x v → r x H Q →
  wpAny (model X.prog X.w) X.A (truthy v) (TP X pins σ Q) X.xe s
noncomputable def tOp (r : R2) (ta tb : TE) : TE := fun σ H Q => ta σ H fun x H1 => tb σ H1 fun y H2 => r x y H2 Q
noncomputable def tUn (r : V → Hp → VK → Prop) (ta : TE) : TE := fun σ H Q => ta σ H fun x H1 => r x H1 Q
noncomputable def rI (C : Int → Int → Prop) (g : Int → Int → V) : R2 := fun x y H Q => ∃ i j, x = .int i ∧ y = .int j ∧ C i j ∧ Q (g i j) H
noncomputable def rI0 (g : Int → Int → V) : R2 := fun x y H Q => ∃ i j, x = .int i ∧ y = .int j ∧ Q (g i j) H
noncomputable def rU (g : Int → V) : V → Hp → VK → Prop := fun x H Q => ∃ i, x = .int i ∧ Q (g i) H
section
variable {X : Cx} {a b c : Expr} {ta tb tc : TE} {pos : Pos}
theorem binT (ha : PE X a ta) (hb : PE X b tb) {pins : List (Addr × Obj)} {s : Shared} {σ : St} {H : Hp} {R : V → V → Hp → Prop} (I : Inv X pins σ H s)
  (h : ta σ H fun x H1 => tb σ H1 fun y H2 => R x y H2) {Q : Value → Shared → Prop} {f : Value → Value → Sem Value}
  (hf : ∀ v u s2 x y H2, Inv X pins σ H2 s2 → RelV x v → RelV y u → R x y H2 → wpAny (model X.prog X.w) X.A (f v u) Q X.xe s2) :
  wpAny (model X.prog X.w) X.A (eval a X.env) (fun v s₁ => wpAny (model X.prog X.w) X.A (eval b X.env) (fun u s₂ => wpAny (model X.prog X.w) X.A (f v u) Q X.xe s₂) X.xe s₁) X.xe s := by
 refine thn (ha pins s σ H _ I h) fun v s1 ⟨x, H1, I1, r1, q1⟩ => ?_
 refine thn (hb pins s1 σ H1 _ I1 q1) fun u s2 ⟨y, H2, I2, r2, q2⟩ => ?_
 exact hf v u s2 x y H2 I2 r1 r2 q2
theorem pe_op {op : Operator} {r : R2} (ho : OpR X (binaryOp op) r) (ha : PE X a ta) (hb : PE X b tb) : PE X (.BinOp a op b pos) (tOp r ta tb) := by
 intro pins s σ H Q I h
 exact wpAny_BinOp (binT ha hb I h fun v u s2 x y H2 I2 rx ry q => ho pins s2 σ H2 x y v u Q I2 rx ry q)
theorem pe_un {op : UnaryOp} {r : V → Hp → VK → Prop} (ho : UnR X (unaryOp op) r) (ha : PE X a ta) : PE X (.UnaryOp op a pos) (tUn r ta) := by
 intro pins s σ H Q I h
 exact UnaryOp_ (thn (ha pins s σ H _ I h) fun v s1 ⟨x, H1, I1, r1, q1⟩ => ho pins s1 σ H1 x v Q I1 r1 q1)
theorem opI {f : Value → Value → Sem Value} {C : Int → Int → Prop} {g : Int → Int → Int}
  (rule : ∀ (i j : Int) (t u : Tok) (s : Shared) (Q : Value → Shared → Prop) (E : Value → Shared → Prop), C i j → Q (.int (g i j) s.toks) { s with toks := s.toks + 1 } → wpAny (model X.prog X.w) X.A (f (.int i t) (.int j u)) Q E s) :
  OpR X f (rI C fun i j => .int (g i j)) := by
 intro pins s σ H x y v u Q I rx ry h
 obtain ⟨i, j, rfl, rfl, hc, q⟩ := h
 obtain ⟨t, rfl⟩ := rx
 obtain ⟨t', rfl⟩ := ry
 exact rule i j t t' s _ _ hc ⟨.int (g i j), H, I.tok _, ⟨_, rfl⟩, q⟩
theorem opI0 {f : Value → Value → Sem Value} {g : Int → Int → Int}
  (rule : ∀ (i j : Int) (t u : Tok) (s : Shared) (Q : Value → Shared → Prop) (E : Value → Shared → Prop), Q (.int (g i j) s.toks) { s with toks := s.toks + 1 } → wpAny (model X.prog X.w) X.A (f (.int i t) (.int j u)) Q E s) :
  OpR X f (rI0 fun i j => .int (g i j)) := by
 intro pins s σ H x y v u Q I rx ry h
 obtain ⟨i, j, rfl, rfl, q⟩ := h
 obtain ⟨t, rfl⟩ := rx
 obtain ⟨t', rfl⟩ := ry
 exact rule i j t t' s _ _ ⟨.int (g i j), H, I.tok _, ⟨_, rfl⟩, q⟩
theorem opB0 {f : Value → Value → Sem Value} {g : Int → Int → Bool}
  (rule : ∀ (i j : Int) (t u : Tok) (s : Shared) (Q : Value → Shared → Prop) (E : Value → Shared → Prop), Q (.bool (g i j)) s → wpAny (model X.prog X.w) X.A (f (.int i t) (.int j u)) Q E s) :
  OpR X f (rI0 fun i j => .bl (g i j)) := by
 intro pins s σ H x y v u Q I rx ry h
 obtain ⟨i, j, rfl, rfl, q⟩ := h
 obtain ⟨t, rfl⟩ := rx
 obtain ⟨t', rfl⟩ := ry
 exact rule i j t t' s _ _ ⟨.bl (g i j), H, I, rfl, q⟩
noncomputable def CDiv (i j : Int) : Prop := 0 < j ∧ j < 1073741824
noncomputable def CMul (i j : Int) : Prop := (-(2 ^ 64) < i ∧ i < 2 ^ 64) ∨ (-(2 ^ 64) < j ∧ j < 2 ^ 64)
theorem CMul.ok {i j : Int} (h : CMul i j) : IntMulOk i j := by
 rcases h with ⟨h1, h2⟩ | ⟨h1, h2⟩
 ·exact .of_left (intBits_le_64 h1 h2)
 ·exact .of_right (intBits_le_64 h1 h2)
theorem op_add : OpR X (binaryOp .Add) (rI0 fun i j => .int (i + j)) := opI0 fun _ _ _ _ _ _ _ q => add_int q
theorem op_sub : OpR X (binaryOp .Sub) (rI0 fun i j => .int (i - j)) := opI0 fun _ _ _ _ _ _ _ q => sub_int q
theorem op_mul : OpR X (binaryOp .Mult) (rI CMul fun i j => .int (i * j)) := opI fun _ _ _ _ _ _ _ hc q => mul_int q hc.ok
theorem op_fdiv : OpR X (binaryOp .FloorDiv) (rI CDiv fun i j => .int (i / j)) := opI fun i j _ _ _ _ _ hc q => by
 have h1 : (0 : Int) < j := hc.1
 have h2 : j < 1073741824 := hc.2
 exact floordiv_int (by omega) (by rw [Int.fdiv_eq_ediv_of_nonneg i (by omega)]; exact q) (.inl (PyProof.noPylong_small (by omega)))
theorem op_mod : OpR X (binaryOp .Mod) (rI (fun _ j => 0 < j) fun i j => .int (i % j)) := opI fun i j _ _ _ _ _ hc q => by
 have h1 : (0 : Int) < j := hc
 exact mod_int' (by omega) (by rw [Int.fmod_eq_emod_of_nonneg i (by omega)]; exact q)
theorem unI {f : Value → Sem Value} {g : Int → Int}
  (rule : ∀ (i : Int) (t : Tok) (s : Shared) (Q : Value → Shared → Prop) (E : Value → Shared → Prop), Q (.int (g i) s.toks) { s with toks := s.toks + 1 } → wpAny (model X.prog X.w) X.A (f (.int i t)) Q E s) :
  UnR X f (rU fun i => .int (g i)) := by
 intro pins s σ H x v Q I rx h
 obtain ⟨i, rfl, q⟩ := h
 obtain ⟨t, rfl⟩ := rx
 exact rule i t s _ _ ⟨.int (g i), H, I.tok _, ⟨_, rfl⟩, q⟩
theorem un_neg : UnR X (unaryOp .USub) (rU fun i => .int (-i)) := unI fun _ _ _ _ _ q => neg_int q
end
noncomputable def scal : V → V → Bool
 | .non, .non => true | .non, .int _ => true | .int _, .non => true | .non, .bl _ => true | .bl _, .non => true | .non, .str _ => true | .str _, .non => true
 | .int _, .int _ => true | .bl _, .bl _ => true | .str _, .str _ => true | .byt _, .byt _ => true
 | .int _, .str _ => true | .str _, .int _ => true | .bl _, .str _ => true | .str _, .bl _ => true
 | _, _ => false
noncomputable def rEq : R2 := fun x y H Q => scal x y = true ∧ Q (.bl (decide (x = y))) H
noncomputable def rNe : R2 := fun x y H Q => scal x y = true ∧ Q (.bl (!decide (x = y))) H
theorem dec_int {i j : Int} : decide (V.int i = V.int j) = (i == j) := by
 rw [Bool.eq_iff_iff]
 simp
theorem dec_bl {i j : Bool} : decide (V.bl i = V.bl j) = (i == j) := by
 rw [Bool.eq_iff_iff]
 simp
theorem dec_str {i j : Str} : decide (V.str i = V.str j) = (i == j) := by
 rw [Bool.eq_iff_iff]
 simp
theorem dec_byt {i j : Array UInt8} : decide (V.byt i = V.byt j) = (i.toList == j.toList) := by
 rw [Bool.eq_iff_iff]
 cases i
 cases j
 simp
section
variable {X : Cx} {a b c : Expr} {ta tb tc : TE} {pos : Pos}
theorem fin_bl {pins : List (Addr × Obj)} {σ : St} {H : Hp} {s : Shared} {Q : VK} {k k' : Bool} (I : Inv X pins σ H s) (q : Q (.bl k) H) (e : k = k') : EP X pins σ Q (.bool k') s := by
 subst e
 exact ⟨.bl k, H, I, rfl, q⟩
theorem op_eq : OpR X (compareOp .Eq) rEq := by
 intro pins s σ H x y v u Q I rx ry h
 obtain ⟨hs, q⟩ := h
 cases x with
 | non =>
  cases rx
  cases y with
  | non => cases ry; exact PySem.EqNone.eq_none_none (fin_bl I q (by simp))
  | bl j => cases ry; exact PySem.EqNone.eq_none_bool (fin_bl I q (by simp))
  | int j => obtain ⟨t', rfl⟩ := ry; exact PySem.EqNone.eq_none_int (fin_bl I q (by simp))
  | str j => obtain ⟨t', rfl⟩ := ry; exact PySem.EqNone.eq_none_str (fin_bl I q (by simp))
  | _ => exact absurd (show false = true from hs) Bool.false_ne_true
 | bl i =>
  cases rx
  cases y with
  | non => cases ry; exact PySem.EqNone.eq_bool_none (fin_bl I q (by simp))
  | bl j => cases ry; exact eq_bool (fin_bl I q dec_bl)
  | str j => obtain ⟨t', rfl⟩ := ry; exact PySem.EqMixed.eq_bool_str (fin_bl I q (by simp))
  | _ => exact absurd (show false = true from hs) Bool.false_ne_true
 | int i =>
  obtain ⟨t, rfl⟩ := rx
  cases y with
  | non => cases ry; exact PySem.EqNone.eq_int_none (fin_bl I q (by simp))
  | int j => obtain ⟨t', rfl⟩ := ry; exact eq_int (fin_bl I q dec_int)
  | str j => obtain ⟨t', rfl⟩ := ry; exact PySem.EqMixed.eq_int_str (fin_bl I q (by simp))
  | _ => exact absurd (show false = true from hs) Bool.false_ne_true
 | str i =>
  obtain ⟨t, rfl⟩ := rx
  cases y with
  | non => cases ry; exact PySem.EqNone.eq_str_none (fin_bl I q (by simp))
  | bl j => cases ry; exact PySem.EqMixed.eq_str_bool (fin_bl I q (by simp))
  | int j => obtain ⟨t', rfl⟩ := ry; exact PySem.EqMixed.eq_str_int (fin_bl I q (by simp))
  | str j => obtain ⟨t', rfl⟩ := ry; exact eq_str (fin_bl I q dec_str)
  | _ => exact absurd (show false = true from hs) Bool.false_ne_true
 | byt i =>
  obtain ⟨t, rfl⟩ := rx
  cases y with
  | byt j => obtain ⟨t', rfl⟩ := ry; exact PySem.W.eq_bytes (fin_bl I q dec_byt)
  | _ => exact absurd (show false = true from hs) Bool.false_ne_true
 | _ => cases y <;> exact absurd (show false = true from hs) Bool.false_ne_true
theorem op_ne : OpR X (compareOp .NotEq) rNe := by
 intro pins s σ H x y v u Q I rx ry h
 obtain ⟨hs, q⟩ := h
 cases x with
 | non =>
  cases rx
  cases y with
  | non => cases ry; exact PySem.EqNone.ne_none_none (fin_bl I q (by simp))
  | bl j => cases ry; exact PySem.EqNone.ne_none_bool (fin_bl I q (by simp))
  | int j => obtain ⟨t', rfl⟩ := ry; exact PySem.EqNone.ne_none_int (fin_bl I q (by simp))
  | str j => obtain ⟨t', rfl⟩ := ry; exact PySem.EqNone.ne_none_str (fin_bl I q (by simp))
  | _ => exact absurd (show false = true from hs) Bool.false_ne_true
 | bl i =>
  cases rx
  cases y with
  | non => cases ry; exact PySem.EqNone.ne_bool_none (fin_bl I q (by simp))
  | bl j => cases ry; exact ne_bool (fin_bl I q (congrArg not dec_bl))
  | str j => obtain ⟨t', rfl⟩ := ry; exact PySem.EqMixed.ne_bool_str (fin_bl I q (by simp))
  | _ => exact absurd (show false = true from hs) Bool.false_ne_true
 | int i =>
  obtain ⟨t, rfl⟩ := rx
  cases y with
  | non => cases ry; exact PySem.EqNone.ne_int_none (fin_bl I q (by simp))
  | int j => obtain ⟨t', rfl⟩ := ry; exact ne_int (fin_bl I q (congrArg not dec_int))
  | str j => obtain ⟨t', rfl⟩ := ry; exact PySem.EqMixed.ne_int_str (fin_bl I q (by simp))
  | _ => exact absurd (show false = true from hs) Bool.false_ne_true
 | str i =>
  obtain ⟨t, rfl⟩ := rx
  cases y with
  | non => cases ry; exact PySem.EqNone.ne_str_none (fin_bl I q (by simp))
  | bl j => cases ry; exact PySem.EqMixed.ne_str_bool (fin_bl I q (by simp))
  | int j => obtain ⟨t', rfl⟩ := ry; exact PySem.EqMixed.ne_str_int (fin_bl I q (by simp))
  | str j => obtain ⟨t', rfl⟩ := ry; exact ne_str (fin_bl I q (congrArg not dec_str))
  | _ => exact absurd (show false = true from hs) Bool.false_ne_true
 | byt i =>
  obtain ⟨t, rfl⟩ := rx
  cases y with
  | byt j => obtain ⟨t', rfl⟩ := ry; exact PySem.W.ne_bytes (fin_bl I q (congrArg not dec_byt))
  | _ => exact absurd (show false = true from hs) Bool.false_ne_true
 | _ => cases y <;> exact absurd (show false = true from hs) Bool.false_ne_true
theorem op_lt : OpR X (compareOp .Lt) (rI0 fun i j => .bl (decide (i < j))) := opB0 fun _ _ _ _ _ _ _ q => lt_int q
theorem op_le : OpR X (compareOp .LtE) (rI0 fun i j => .bl (decide (i ≤ j))) := opB0 fun _ _ _ _ _ _ _ q => le_int q
theorem op_gt : OpR X (compareOp .Gt) (rI0 fun i j => .bl (decide (j < i))) := opB0 fun _ _ _ _ _ _ _ q => gt_int q
theorem op_ge : OpR X (compareOp .GtE) (rI0 fun i j => .bl (decide (j ≤ i))) := opB0 fun _ _ _ _ _ _ _ q => ge_int q
theorem nomark (b : Expr) {op : CmpOp} (h : op ≠ .In := by decide) (h2 : op ≠ .NotIn := by decide) : behindInMarks op b = false := by
 have e1 : (op == CmpOp.In) = false := by cases op <;> first | rfl | exact absurd rfl h
 have e2 : (op == CmpOp.NotIn) = false := by cases op <;> first | rfl | exact absurd rfl h2
 cases b <;> simp [behindInMarks, e1, e2]
theorem pe_cmpR {op : CmpOp} {r : R2} (ho : OpR X (compareOp op) r) (ha : PE X a ta) (hb : PE X b tb) (hm : behindInMarks op b = false) : PE X (.Compare a [op] [b] pos) (tOp r ta tb) := by
 intro pins s σ H Q I h
 exact wpAny_Compare1 (binT ha hb I h fun v u s2 x y H2 I2 rx ry q => ho pins s2 σ H2 x y v u Q I2 rx ry q) hm
noncomputable def tTest (t : TE) : TT := fun σ H Q => t σ H fun x H' => ∃ k, x = .bl k ∧ Q k H'
theorem pt_cmpR {op : CmpOp} {r : R2} (ho : OpR X (compareOp op) r) (ha : PE X a ta) (hb : PE X b tb) (hm : behindInMarks op b = false) : PT X (.Compare a [op] [b] pos) (tTest (tOp r ta tb)) := by
 intro pins s σ H Q I h
 refine wpAny_isTrue_Compare1 (thn (ha pins s σ H _ I h) fun v s1 ⟨x, H1, I1, r1, q1⟩ => thn (hb pins s1 σ H1 _ I1 q1) fun u s2 ⟨y, H2, I2, r2, q2⟩ =>
  thn (ho pins s2 σ H2 x y v u _ I2 r1 r2 q2) fun c s3 ⟨z, H3, I3, r3, k, e, q3⟩ => ?_) hm
 subst e
 cases r3
 exact wpAny_truthy_bool ⟨H3, I3, q3⟩
noncomputable def tChain (r r' : R2) (ta tb tc : TE) : TE := fun σ H Q => ta σ H fun x H1 => tb σ H1 fun y H2 => r x y H2 fun z H3 => ∃ k, z = .bl k ∧
 (if k = true then tc σ H3 fun w' H4 => r' y w' H4 Q else Q (.bl false) H3)
theorem pe_chain {op op' : CmpOp} {r r' : R2} (ho : OpR X (compareOp op) r) (ho' : OpR X (compareOp op') r') (ha : PE X a ta) (hb : PE X b tb) (hc : PE X c tc)
  (hm : lastMarks [op, op'] [b, c] = false := by with_unfolding_all rfl) : PE X (.Compare a [op, op'] [b, c] pos) (tChain r r' ta tb tc) := by
 intro pins s σ H Q I h
 refine Compare_chain (thn (ha pins s σ H _ I h) fun v s1 ⟨x, H1, I1, r1, q1⟩ => chain_link (thn (hb pins s1 σ H1 _ I1 q1) fun u s2 ⟨y, H2, I2, r2, q2⟩ =>
  thn (ho pins s2 σ H2 x y v u _ I2 r1 r2 q2) fun d s3 ⟨z, H3, I3, r3, k, e, q3⟩ => ?_)) hm
 subst e
 cases r3
 refine wpAny_truthy_bool ?_
 cases k with
 | false => exact ite_ff ⟨.bl false, H3, I3, rfl, q3⟩
 | true => exact ite_tt (chain_last (thn (hc pins s3 σ H3 _ I3 q3) fun w' s4 ⟨z', H4, I4, r4, q4⟩ => ho' pins s4 σ H4 y z' u w' Q I4 r2 r4 q4))
theorem pt_chain {op op' : CmpOp} {r r' : R2} (ho : OpR X (compareOp op) r) (ho' : OpR X (compareOp op') r') (ha : PE X a ta) (hb : PE X b tb) (hc : PE X c tc)
  (hm : lastMarks [op, op'] [b, c] = false := by with_unfolding_all rfl) : PT X (.Compare a [op, op'] [b, c] pos) (tTest (tChain r r' ta tb tc)) := by
 intro pins s σ H Q I h
 refine isTrue_chain (thn (ha pins s σ H _ I h) fun v s1 ⟨x, H1, I1, r1, q1⟩ => test_link (thn (hb pins s1 σ H1 _ I1 q1) fun u s2 ⟨y, H2, I2, r2, q2⟩ =>
  thn (ho pins s2 σ H2 x y v u _ I2 r1 r2 q2) fun d s3 ⟨z, H3, I3, r3, k, e, q3⟩ => ?_)) hm
 subst e
 cases r3
 refine wpAny_truthy_bool ?_
 cases k with
 | false =>
  obtain ⟨k', e', q'⟩ := q3
  cases e'
  exact ite_ff ⟨H3, I3, q'⟩
 | true =>
  refine ite_tt (test_last (thn (hc pins s3 σ H3 _ I3 q3) fun w' s4 ⟨z', H4, I4, r4, q4⟩ => thn (ho' pins s4 σ H4 y z' u w' _ I4 r2 r4 q4) fun d' s5 ⟨z2, H5, I5, r5, k2, e2, q5⟩ => ?_))
  subst e2
  cases r5
  exact wpAny_truthy_bool ⟨H5, I5, q5⟩
noncomputable def TruV (K : PySem.W.Frag) (x : V) (H : Hp) (k : Bool) : Prop :=
 match x with
 | .non => k = false
 | .bl b => k = b
 | .int i => k = (i != 0)
 | .str y => y.length ≤ sizeLine ∧ k = ((y.length : Int) != 0)
 | .byt y => y.size ≤ sizeLine ∧ k = ((y.size : Int) != 0)
 | .ref p => (∃ xs, SqL K H p xs ∧ k = !xs.isEmpty) ∨ (∃ xs, SqT K H p xs ∧ k = !xs.isEmpty) ∨ ∃ kvs, H p = some (.dK kvs) ∧ k = !kvs.isEmpty
 | _ => False
theorem isEmpty_kv {κ : Type} {kvs : List (κ × V)} {vs : List (κ × Value)} (r : KV kvs vs) : (!vs.isEmpty) = !kvs.isEmpty := by
 cases r <;> rfl
theorem isEmpty_of {xs : List V} {its : List Value} (r : Vals xs its) : (!its.toArray.isEmpty) = !xs.isEmpty := by
 cases r <;> simp
theorem line63 : (sizeLine : Nat) < 2 ^ 63 := by rw [sizeLine_eq]; decide
theorem tru_ok : TruR X (fun x H Q => ∃ k, TruV X.K x H k ∧ Q k H) := by
 intro pins s σ H x v Q I rx h
 obtain ⟨k, e, q⟩ := h
 have hl := line63
 have hs : sizeLine = 16777216 := sizeLine_eq
 cases x with
 | non =>
  cases rx
  have e' : k = false := e
  subst e'
  exact truthy_none ⟨H, I, q⟩
 | bl b =>
  cases rx
  have e' : k = b := e
  subst e'
  exact wpAny_truthy_bool ⟨H, I, q⟩
 | int i =>
  obtain ⟨t, rfl⟩ := rx
  have e' : k = (i != 0) := e
  subst e'
  exact PySem.P.truthy_int ⟨H, I, q⟩
 | str y =>
  obtain ⟨t, rfl⟩ := rx
  obtain ⟨hy, e'⟩ : y.length ≤ sizeLine ∧ k = ((y.length : Int) != 0) := e
  subst e'
  exact PySem.P.truthy_str (by omega) ⟨H, I.tok _, q⟩
 | byt y =>
  obtain ⟨t, rfl⟩ := rx
  obtain ⟨hy, e'⟩ : y.size ≤ sizeLine ∧ k = ((y.size : Int) != 0) := e
  subst e'
  exact PySem.W.truthy_bytes (by omega) ⟨H, I.tok _, q⟩
 | ref p =>
  cases rx
  have e' : (∃ xs, SqL X.K H p xs ∧ k = !xs.isEmpty) ∨ (∃ xs, SqT X.K H p xs ∧ k = !xs.isEmpty) ∨ ∃ kvs, H p = some (.dK kvs) ∧ k = !kvs.isEmpty := e
  rcases e' with ⟨xs, hx, e'⟩ | ⟨xs, hx, e'⟩ | ⟨kvs, hx, e'⟩
  ·subst e'
   obtain ⟨its, r, pl, hz⟩ := I.list hx
   have hlen := r.length
   exact wpAny_truthy_list pl.isList (by simp only [List.size_toArray]; omega) ⟨H, I.tok _, by rw [isEmpty_of r]; exact q⟩
  ·subst e'
   obtain ⟨its, r, pl, hz⟩ := I.tuple hx
   have hlen := r.length
   exact truthy_tuple pl (by simp only [List.size_toArray]; omega) ⟨H, I.tok _, by rw [isEmpty_of r]; exact q⟩
  ·subst e'
   obtain ⟨hz, hS, vs, r, m⟩ : kvs.length ≤ sizeLine ∧ (p == sysModules) = false ∧ ∃ vs, KV kvs vs ∧ s.heap.DictOf (mixKind X.prog X.w) p vs := I.hok p _ hx
   have hlen : kvs.length = vs.length := Paired.length r
   exact wpAny_truthy_dict hS m (by omega) ⟨H, I.tok _, by rw [isEmpty_kv r]; exact q⟩
 | _ => exact (show False from e).elim
theorem pt_truth (ha : PE X a ta) (he : ∀ whole, isTrue a X.env whole = (do let v ← whole; standAt a.pos; holding [v] (truthy v))) :
  PT X a (fun σ H Q => ta σ H fun x H' => ∃ k, TruV X.K x H' k ∧ Q k H') := by
 intro pins s σ H Q I h
 exact isTrue_plain (thn (ha pins s σ H _ I h) fun v s1 ⟨x, H1, I1, r1, q1⟩ => tru_ok pins s1 σ H1 x v Q I1 r1 q1) (he _)
theorem vals1 {x : V} {us : List Value} (r : Vals [x] us) : ∃ u, us = [u] ∧ RelV x u := by
 cases r with
 | cons r1 r2 => cases r2; exact ⟨_, rfl, r1⟩
theorem call_str_int : CallR X (.type "str") (fun xs H Q => ∃ i, xs = [.int i] ∧ i.natAbs.log2 < 1920 ∧ Q (.str (toString i)) H) := by
 intro pins s σ H xs us Q I r h
 obtain ⟨i, rfl, hz, q⟩ := h
 obtain ⟨u, rfl, t, rfl⟩ := vals1 r
 exact PySem.P.str_of_int hz ⟨.str _, H, I.tok _, ⟨_, rfl⟩, q⟩
theorem call_ord : CallR X (.builtin "ord") (fun xs H Q => ∃ x, xs = [.str x] ∧ x.length = 1 ∧ Q (.int (x.cps.getD 0 0 : Nat)) H) := by
 intro pins s σ H xs us Q I r h
 obtain ⟨x, rfl, hz, q⟩ := h
 obtain ⟨u, rfl, t, rfl⟩ := vals1 r
 exact ord_of_one hz ⟨.int _, H, I.tok _, ⟨_, rfl⟩, q⟩
end
end L2
namespace L2
open PySem PySem.Spec PyProof.Rows
structure ObjM (h : Heap) (x dx C : Addr) (mA : Str → Option Value) : Prop where
 obj : h.get? x = some (PySem.W.instObj C dx)
 ns : h.Ns1 dx mA
 ne : dx ≠ x
theorem lookIn_ns {h : Heap} {dx : Addr} {mA : Str → Option Value} (n : h.Ns1 dx mA) : ∃ od, h.get? dx = some od ∧ ∀ name, PySem.W.lookIn name od = some (mA name) := by
 obtain ⟨o, es, ep, ho, hd, hk, _, hm⟩ := n
 refine ⟨o, ho, fun name => ?_⟩
 have e := hm name
 unfold nsFind findBy at e
 rw [← Array.find?_toList] at e
 unfold PySem.W.lookIn
 rw [hd]
 dsimp only
 split
 ·rename_i y q
  rw [q] at e
  exact congrArg some e
 ·rename_i q
  rw [q] at e
  have a : es.toList.any (·.refKey) = false := by
   rw [List.any_eq_false]
   intro y hy
   obtain ⟨z, t, hkey⟩ := hk y (Array.mem_toList_iff.mp hy)
   simp [DictEntry.refKey, hkey]
  have a' : ¬ es.toList.any (·.refKey) = true := by rw [a]; exact Bool.false_ne_true
  rw [if_neg a']
  exact congrArg some e
theorem ObjM.look {h : Heap} {x dx C : Addr} {mA : Str → Option Value} (I : ObjM h x dx C mA) : ∃ od, PySem.W.InstAt h x (PySem.W.instObj C dx) C (some od) ∧ ∀ name, PySem.W.lookIn name od = some (mA name) :=
 let ⟨od, ho, hl⟩ := lookIn_ns I.ns
 ⟨od, ⟨I.obj, rfl, rfl, ho⟩, hl⟩
section
variable {prog : Program} {w : World} {A : Around} {E : Value → Shared → Prop} {s : Shared} {K : PySem.W.Frag} {x dx C f : Addr} {mA : Str → Option Value} {name : Str} {v : Value}
theorem get_map {expr : Bool} {Q : Value → Shared → Prop} (X : K.In s.heap) (I : ObjM s.heap x dx C mA) (hg : PySem.W.plainGet K C name = true) (hh : PySem.W.hasDictIn K C = true)
  (ha : PySem.W.findIn K (.ref C) name = some none) (hv : mA name = some v) (hv' : PySem.W.handedIn v = true) (h : Q v { s with toks := s.toks + 1 }) :
  wpAny (model prog w) A (getAttr (.ref x) name expr) Q E s := by
 obtain ⟨od, J, hl⟩ := I.look
 exact PySem.W.get_value X J (PySem.W.plainGet_of hg).1 (PySem.W.findObj_own hh ha rfl (by rw [hl, hv])) hv' h
theorem get_meth {pl : Sem Bool} {Q : Value × List Value → Shared → Prop} (X : K.In s.heap) (I : ObjM s.heap x dx C mA) (hg : PySem.W.plainGet K C name = true)
  (hf : PySem.W.findIn K (.ref C) name = some (some (.ref f))) (ht : PySem.W.isFn K (.ref f) = true) (hv : mA name = none) (h : Q (.ref f, [.ref x]) s) :
  wpAny (model prog w) A (getMethod (.ref x) name pl) Q E s := by
 obtain ⟨od, J, hl⟩ := I.look
 exact PySem.W.method_fn X J (PySem.W.plainGet_of hg).1 (PySem.W.plainGet_of hg).2 hf (beq_iff_eq.mp ht) (by show (PySem.W.lookIn name od).map (·.isSome) = some false; rw [hl, hv]; rfl) h
theorem set_map {ns : List Str} {Q : Unit → Shared → Prop} (X : K.In s.heap) (I : ObjM s.heap x dx C mA)
  (hs : PySem.W.findIn K (.ref C) "__setattr__" = some (some (.builtin "object.__setattr__"))) (hp : PySem.W.plainOver K C = true) (ht : PySem.W.takerIn K C name = some none) (hh : PySem.W.hasDictIn K C = true)
  (hw : PySem.Within mA ns) (hsz : ns.length ≤ sizeLine)
  (h : ∀ h', ObjM h' x dx C (fun y => if y = name then some v else mA y) → Heap.SameBut dx s.heap h' → Q () { s with heap := h', toks := s.toks + 2 }) :
  wpAny (model prog w) A (setAttr (.ref x) name v) Q E s := by
 obtain ⟨od, J, hl⟩ := I.look
 refine PySem.W.set_plain X J hs (PySem.W.osa_open (s := { s with toks := s.toks + 1 }) (r := none) X J hp ht fun b => ?_)
 obtain ⟨cd, hc, hd'⟩ := PySem.W.any_some hh
 have hx : s.heap.get? x = some ⟨.ref C, some dx, .plain, #[]⟩ := I.obj
 refine wpAny_bind (wpAny_pure (wpAny_bind (wpAny_bind (wpAny_loadPart hx (wpAny_bind (PySem.W.Looks.here (s := { s with toks := s.toks + 1 }) (PySem.W.looks_clsIn X hc) ?_))))))
 rw [hd']
 refine wpAny_pure (a := some dx) (wpAny_bind (wpAny_pure (wpAny_bind ?_)))
 refine wpAny_nsSet1 (s := { s with toks := s.toks + 1 }) I.ns fun h' hn2 hs2 => ?_
 obtain ⟨oD, esD, epD, hoD, hdD, hcD⟩ := hn2.count (PySem.Within.cons name v hw)
 refine wpAny_bind (wpAny_lookBehind hoD (by rw [hdD]; exact pastItsLine_dict (Nat.le_trans hcD (by rw [List.length_cons]; omega))) ?_)
 exact wpAny_pure (h _ ⟨(hs2.2 _ (Ne.symm I.ne)).trans I.obj, hn2, I.ne⟩ hs2)
theorem make_map {R : Result → Shared → Prop} {vs : List Value} {kw : List (Str × Value)} (X : K.In s.heap) (hm : PySem.W.makesIn K C = true)
  (hi : PySem.W.findIn K (.ref C) "__init__" = some (some (.ref f))) (hf : PySem.W.typeIn K (.ref f) = some (.type "function"))
  (h : codeAny (model prog w) (A.under (.builtin "type.__call__" ⟨.ref C :: vs, kw⟩)) (.call (.ref f) ⟨.ref (s.heap.objs.size + 1) :: vs, kw⟩) (PySem.W.InitBack (s.heap.objs.size + 1) R)
   { s with heap := (s.heap.push PySem.W.emptyDict).push (PySem.W.instObj C s.heap.objs.size) }) :
  codeAny (model prog w) A (.call (.ref C) ⟨vs, kw⟩) R s := by
 obtain ⟨hh, g, d, t, os⟩ := s
 exact PySem.W.make_core (PySem.W.makes_of X hm) (PySem.W.looks_findIn X hi) (fun self => PySem.W.bind_fn X self hf) (.inl rfl) h
end
noncomputable def putF (f : Str) (v : V) : List (Str × V) → List (Str × V)
 | [] => [(f, v)]
 | (g, x) :: r => if g = f then (g, v) :: r else (g, x) :: putF f v r
theorem lookup_putF (f g : Str) (v : V) : ∀ fs : List (Str × V), (putF f v fs).lookup g = if g = f then some v else fs.lookup g
 | [] => by
  show List.lookup g [(f, v)] = _
  by_cases h : g = f
  ·have hb : (g == f) = true := beq_iff_eq.mpr h
   simp only [List.lookup, hb, if_pos h]
  ·have hb : (g == f) = false := beq_eq_false_iff_ne.mpr h
   simp only [List.lookup, hb, if_neg h]
 | (k, x) :: r => by
  have ih := lookup_putF f g v r
  rw [show putF f v ((k, x) :: r) = (if k = f then (k, v) :: r else (k, x) :: putF f v r) from rfl]
  by_cases hk : k = f
  ·rw [if_pos hk]
   by_cases h : g = k
   ·have hb : (g == k) = true := beq_iff_eq.mpr h
    simp only [List.lookup, hb, if_pos (h.trans hk)]
   ·have hb : (g == k) = false := beq_eq_false_iff_ne.mpr h
    simp only [List.lookup, hb, if_neg (fun e : g = f => h (e.trans hk.symm))]
  ·rw [if_neg hk]
   by_cases h : g = k
   ·have hb : (g == k) = true := beq_iff_eq.mpr h
    simp only [List.lookup, hb, if_neg (fun e : g = f => hk (h.symm.trans e))]
   ·have hb : (g == k) = false := beq_eq_false_iff_ne.mpr h
    simp only [List.lookup, hb]
    exact ih
theorem keys_putF (f : Str) (v : V) : ∀ fs : List (Str × V), f ∈ (putF f v fs).map (·.1) ∧ ∀ g, g ∈ fs.map (·.1) → g ∈ (putF f v fs).map (·.1)
 | [] => ⟨by simp [putF], fun g h => by simp at h⟩
 | (k, x) :: r => by
  obtain ⟨i1, i2⟩ := keys_putF f v r
  rw [show putF f v ((k, x) :: r) = (if k = f then (k, v) :: r else (k, x) :: putF f v r) from rfl]
  by_cases hk : k = f
  ·rw [if_pos hk]
   subst hk
   exact ⟨by simp, fun g h => by simpa using h⟩
  ·rw [if_neg hk]
   refine ⟨?_, fun g h => ?_⟩
   ·rw [List.map_cons]
    exact List.mem_cons_of_mem _ i1
   ·rw [List.map_cons] at h ⊢
    rcases List.mem_cons.mp h with e | e
    ·exact List.mem_cons.mpr (.inl e)
    ·exact List.mem_cons_of_mem _ (i2 g e)
theorem length_putF (f : Str) (v : V) : ∀ fs : List (Str × V), (putF f v fs).length ≤ fs.length + 1
 | [] => by simp [putF]
 | (k, x) :: r => by
  have ih := length_putF f v r
  rw [show putF f v ((k, x) :: r) = (if k = f then (k, v) :: r else (k, x) :: putF f v r) from rfl]
  by_cases hk : k = f
  ·rw [if_pos hk, List.length_cons, List.length_cons]; omega
  ·rw [if_neg hk, List.length_cons, List.length_cons]; omega
theorem RelO.some_of {v : V} {o : Option Value} (r : RelO (some v) o) : ∃ u, o = some u ∧ RelV v u := by
 cases o with
 | none => exact (show False from r).elim
 | some u => exact ⟨u, rfl, r⟩
theorem RelO.none_of {o : Option Value} (r : RelO none o) : o = none := by
 cases o with
 | none => rfl
 | some u => exact (show False from r).elim
theorem handed_of {v : V} {u : Value} (r : RelV v u) : PySem.W.handedIn u = true := by
 cases v with
 | non => cases (show u = Value.none from r); rfl
 | bl b => cases (show u = Value.bool b from r); rfl
 | int i => obtain ⟨t, e⟩ := (show ∃ t, u = Value.int i t from r); cases e; rfl
 | str x => obtain ⟨t, e⟩ := (show ∃ t, u = Value.str x t from r); cases e; rfl
 | byt b => obtain ⟨t, e⟩ := (show ∃ t, u = Value.bytes b t from r); cases e; rfl
 | flt b => obtain ⟨t, e⟩ := (show ∃ t, u = Value.float b t from r); cases e; rfl
 | ref a => cases (show u = Value.ref a from r); rfl
 | ty n => cases (show u = Value.type n from r); rfl
section
variable {P : Program} {w : World} {H H' : Hp} {h h' : Heap} {a C dx : Addr} {fs fs' : List (Str × V)}
theorem ins_get (hok : HOk P w H h) (e : H a = some (.ins C dx fs)) : ∃ mA, ObjM h a dx C mA ∧ (∀ f, RelO (fs.lookup f) (mA f)) ∧ PySem.Within mA (fs.map (·.1)) ∧ fs.length ≤ 1000 ∧ H dx = some (.own a) := by
 obtain ⟨d, z, ne, ob, mA, n, r, q⟩ := (show ObjOk P w H h a (.ins C dx fs) from hok a _ e)
 exact ⟨mA, ⟨ob, n, ne⟩, r, q, z, d⟩
end
structure Cls (K : PySem.W.Frag) (C : Addr) : Prop where
 pg : PySem.W.plainGet K C Str.empty = true
 hd : PySem.W.hasDictIn K C = true
 po : PySem.W.plainOver K C = true
 sa : PySem.W.findIn K (.ref C) "__setattr__" = some (some (.builtin "object.__setattr__"))
theorem Cls.get {K : PySem.W.Frag} {C : Addr} (c : Cls K C) (f : Str) : PySem.W.plainGet K C f = true := c.pg
noncomputable def NoAttr (K : PySem.W.Frag) (C : Addr) (f : Str) : Prop := PySem.W.findIn K (.ref C) f = some none
theorem NoAttr.taker {K : PySem.W.Frag} {C : Addr} {f : Str} (n : NoAttr K C f) : PySem.W.takerIn K C f = some none := by
 unfold PySem.W.takerIn
 rw [show PySem.W.findIn K (.ref C) f = some none from n]
 rfl
structure Meth (K : PySem.W.Frag) (C : Addr) (m : Str) (f : Addr) : Prop where
 at_ : PySem.W.findIn K (.ref C) m = some (some (.ref f))
 fn : PySem.W.isFn K (.ref f) = true
 kp : PySem.W.keepIn K (.ref f) = true
section
variable {X : Cx} {pins : List (Addr × Obj)} {σ : St} {H : Hp} {s : Shared} {a C dx : Addr} {fs : List (Str × V)} {f : Str} {v : V} {A : Around} {E : Value → Shared → Prop}
theorem getattr_ok {b : Bool} {Q : Value → Shared → Prop} (I : Inv X pins σ H s) (e : H a = some (.ins C dx fs)) (c : Cls X.K C) (n : NoAttr X.K C f) (l : fs.lookup f = some v)
  (h : ∀ u s', Inv X pins σ H s' → RelV v u → Q u s') : wpAny (model X.prog X.w) A (getAttr (.ref a) f b) Q E s := by
 obtain ⟨mA, O, r, _, _, _⟩ := ins_get I.hok e
 obtain ⟨u, hu, ru⟩ := RelO.some_of (v := v) (o := mA f) (by rw [← l]; exact r f)
 exact get_map I.kIn O (c.get f) c.hd n hu (handed_of ru) (h u _ (I.tok _) ru)
theorem getmeth_ok {m : Str} {g : Addr} {pl : Sem Bool} {Q : Value × List Value → Shared → Prop} (I : Inv X pins σ H s) (e : H a = some (.ins C dx fs)) (c : Cls X.K C) (k : Meth X.K C m g) (l : fs.lookup m = none)
  (h : Q (.ref g, [.ref a]) s) : wpAny (model X.prog X.w) A (getMethod (.ref a) m pl) Q E s := by
 obtain ⟨mA, O, r, _, _, _⟩ := ins_get I.hok e
 have hn : mA m = none := RelO.none_of (by rw [← l]; exact r m)
 exact get_meth I.kIn O (c.get m) k.at_ k.fn hn h
theorem setattr_ok {y : V} {u : Value} {Q : Unit → Shared → Prop} (I : Inv X pins σ H s) (e : H a = some (.ins C dx fs)) (c : Cls X.K C) (n : NoAttr X.K C f) (hl : fs.length < 1000) (ry : RelV y u)
  (h : ∀ s', Inv X pins σ (upd H a (.ins C dx (putF f y fs))) s' → Q () s') : wpAny (model X.prog X.w) A (setAttr (.ref a) f u) Q E s := by
 obtain ⟨mA, O, r, wi, _, ho⟩ := ins_get I.hok e
 have hz : (fs.map (·.1)).length ≤ sizeLine := by rw [List.length_map, sizeLine_eq]; omega
 refine set_map I.kIn O c.sa c.po n.taker c.hd wi hz fun h' O' sb => h _ ?_
 have hd : ∃ o, h'.get? dx = some o := let ⟨o, _, _, e', _⟩ := O'.ns; ⟨o, e'⟩
 refine I.write (x := a) (e := dx) (by rw [e]; exact True.intro) (.inr ho) (fun b q hb z => (sb.2 b hb).trans z) hd ?_
 refine ⟨by rw [upd_ne O.ne]; exact ho, ?_, O.ne, O'.obj, _, O'.ns, fun g => ?_, fun g hg => ?_⟩
 ·have := length_putF f y fs; omega
 ·show RelO ((putF f y fs).lookup g) (if g = f then some u else mA g)
  rw [lookup_putF]
  by_cases q : g = f
  ·rw [if_pos q, if_pos q]; exact ry
  ·rw [if_neg q, if_neg q]; exact r g
 ·by_cases q : g = f
  ·rw [q]; exact (keys_putF f y fs).1
  ·refine (keys_putF f y fs).2 g (wi g fun z => hg ?_)
   show (if g = f then some u else mA g) = none
   rw [if_neg q]; exact z
theorem Inv.made (I : Inv X pins σ H s) : Inv X pins σ (upd (upd H s.heap.objs.size (.own (s.heap.objs.size + 1))) (s.heap.objs.size + 1) (.ins C s.heap.objs.size []))
  { s with heap := (s.heap.push PySem.W.emptyDict).push (PySem.W.instObj C s.heap.objs.size) } := by
 have e1 : (s.heap.push PySem.W.emptyDict).get? s.heap.objs.size = some PySem.W.emptyDict := Heap.get?_push_size s.heap rfl
 have e2 : ((s.heap.push PySem.W.emptyDict).push (PySem.W.instObj C s.heap.objs.size)).get? (s.heap.objs.size + 1) = some (PySem.W.instObj C s.heap.objs.size) := by
  have := Heap.get?_push_size (s.heap.push PySem.W.emptyDict) (o := PySem.W.instObj C s.heap.objs.size) rfl
  rwa [Heap.size_push] at this
 have e3 : (s.heap.push PySem.W.emptyDict).Ns s.heap.objs.size (fun _ => none) := ⟨PySem.W.emptyDict, #[], _, e1, rfl, (fun e he => absurd he (by simp)), fun _ => rfl⟩
 have I1 := I.laid (a := s.heap.objs.size) (o := .own (s.heap.objs.size + 1)) (h' := s.heap.push PySem.W.emptyDict) (t' := s.toks) (fun b u q => Heap.get?_push_of_some _ q) (Nat.le_refl _) ⟨_, e1⟩
 refine I1.laid (a := s.heap.objs.size + 1) (o := .ins C s.heap.objs.size []) (t' := s.toks) (fun b u q => Heap.get?_push_of_some _ q) (Nat.le_of_eq (Heap.size_push _ _)) ?_
 have ne : s.heap.objs.size ≠ s.heap.objs.size + 1 := Nat.ne_of_lt (Nat.lt_succ_self _)
 refine ⟨by rw [upd_ne ne, upd_same], Nat.zero_le _, ne, e2, fun _ => none, (Heap.Ns1.of_empty e3).at fun o q => Heap.get?_push_of_some _ q, fun _ => True.intro, fun y hy => absurd rfl hy⟩
theorem attr_of {prog : Program} {w : World} {env : Env} {e : Expr} {f : Str} {pos : Pos} {s : Shared} {Q : Value → Shared → Prop} (hb : attributeBase e f env (eval e env) = eval e env)
  (h : wpAny (model prog w) A (eval e env) (fun o s₁ => wpAny (model prog w) A (getAttr o f true) Q E s₁) E s) : wpAny (model prog w) A (eval (.Attribute e f pos) env) Q E s :=
 Attribute_any_ h (by rw [arm_eval_Attribute, hb])
end
noncomputable def tFld (K : PySem.W.Frag) (ta : TE) (f : Str) : TE := fun σ H Q => ta σ H fun x H1 => ∃ a C dx fs v, x = .ref a ∧ H1 a = some (.ins C dx fs) ∧ Cls K C ∧ NoAttr K C f ∧ fs.lookup f = some v ∧ Q v H1
noncomputable def sFld (K : PySem.W.Frag) (ta tv : TE) (f : Str) : TS := fun D σ H => tv σ H fun y H1 => ta σ H1 fun x H2 => ∃ a C dx fs, x = .ref a ∧ H2 a = some (.ins C dx fs) ∧ Cls K C ∧ NoAttr K C f ∧ fs.length < 1000 ∧
 D.nx σ (upd H2 a (.ins C dx (putF f y fs)))
noncomputable def InOp (X : Cx) (op : Operator) (rd : V → V → Hp → VK → Prop) : Prop :=
 ∀ (pins : List (Addr × Obj)) (s : Shared) (σ : St) (H : Hp) (x y : V) (u v : Value) (Q : VK), Inv X pins σ H s → RelV x u → RelV y v → rd x y H Q → wpAny (model X.prog X.w) X.A (inplaceOp op u v) (EP X pins σ Q) X.xe s
noncomputable def sFldAug (K : PySem.W.Frag) (ta tv : TE) (rd : V → V → Hp → VK → Prop) (f : Str) : TS := fun D σ H => ta σ H fun x H1 => ∃ a C dx fs v, x = .ref a ∧ H1 a = some (.ins C dx fs) ∧ Cls K C ∧ NoAttr K C f ∧ fs.lookup f = some v ∧
 tv σ H1 fun y H2 => rd v y H2 fun z H3 => ∃ dx' fs', H3 a = some (.ins C dx' fs') ∧ fs'.length < 1000 ∧ D.nx σ (upd H3 a (.ins C dx' (putF f z fs')))
section
variable {X : Cx} {o e value : Expr} {f : Str} {pos pos' tpos : Pos} {ta tv : TE}
theorem pe_fld (he : PE X e ta) (hb : attributeBase e f X.env (eval e X.env) = eval e X.env) : PE X (.Attribute e f pos) (tFld X.K ta f) := by
 intro pins s σ H Q I h
 refine attr_of hb (thn (he pins s σ H _ I h) fun u s1 ⟨x, H1, I1, rx, a, C, dx, fs, v, ex, ea, c, n, l, q⟩ => ?_)
 subst ex
 obtain rfl : u = Value.ref a := rx
 exact getattr_ok I1 ea c n l fun u' s2 I2 ru => ⟨v, H1, I2, ru, q⟩
theorem ps_fld (ha : PE X o ta) (hv : PE X value tv) (hs : swapsWith value (some (.Attribute o f pos')) pos.line X.env = pure false) : PS X (.Assign [.Attribute o f pos'] value pos) (sFld X.K ta tv f) := by
 intro pins s σ H D I h
 refine plainObj_wpAny_Assign_Attribute (thn (hv pins s σ H _ I h) fun u s1 ⟨y, H1, I1, ry, q⟩ => thn (ha pins s1 σ H1 _ I1 q) fun ov s2 ⟨x, H2, I2, rx, a, C, dx, fs, ex, ea, c, n, l, q2⟩ => ?_) hs
 subst ex
 obtain rfl : ov = Value.ref a := rx
 exact setattr_ok I2 ea c n l ry fun s3 I3 => ⟨σ, _, I3, q2⟩
theorem ps_fldaug {op : Operator} {rd : V → V → Hp → VK → Prop} (ha : PE X o ta) (hv : PE X value tv) (hop : InOp X op rd) : PS X (.AugAssign (.Attribute o f tpos) op value pos) (sFldAug X.K ta tv rd f) := by
 intro pins s σ H D I h
 refine wpAny_AugAssign_AttributeAny (thn (ha pins s σ H _ I h) fun ov s1 ⟨x, H1, I1, rx, a, C, dx, fs, v, ex, ea, c, n, l, q⟩ => ?_)
 subst ex
 obtain rfl : ov = Value.ref a := rx
 refine getattr_ok I1 ea c n l fun u s2 I2 ru => thn (hv pins s2 σ H1 _ I2 q) fun w3 s3 ⟨y, H2, I3, ry, q3⟩ => thn (hop pins s3 σ H2 v y u w3 _ I3 ru ry q3) fun w4 s4 ⟨z, H3, I4, rz, dx', fs', ea', l', q4⟩ => ?_
 exact setattr_ok I4 ea' c n l' rz fun s5 I5 => ⟨σ, _, I5, q4⟩
noncomputable def rAdd : V → V → Hp → VK → Prop := fun x y H Q => ∃ i j, x = .int i ∧ y = .int j ∧ Q (.int (i + j)) H
theorem in_add : InOp X .Add rAdd := by
 rintro pins s σ H x y u v Q I rx ry ⟨i, j, rfl, rfl, q⟩
 obtain ⟨t, rfl⟩ := (show ∃ t, u = Value.int i t from rx)
 obtain ⟨t', rfl⟩ := (show ∃ t', v = Value.int j t' from ry)
 exact PyProof.Rows.iadd_int ⟨.int (i + j), H, I.tok _, ⟨_, rfl⟩, q⟩
end
section
variable {X : Cx} {pins : List (Addr × Obj)} {σ : St} {H : Hp} {s : Shared} {A : Around} {E : Value → Shared → Prop} {Q : Value → Shared → Prop} {c : Value} {b : Bool}
end
end L2
namespace L2
open PySem PySem.Spec PyProof.Rows
structure Room (k : Nat) (A : Around) : Prop where
 hd : A.handled = none
 dp : A.depth + 3 * k + 5 < recursionLimit
 un : A.units + 16 * k + 200 < cLine
theorem Room.mono {j k : Nat} {A : Around} (r : Room k A) (h : j ≤ k) : Room j A := ⟨r.hd, by have := r.dp; omega, by have := r.un; omega⟩
theorem Room.deeper {k : Nat} {A : Around} (r : Room (k + 1) A) (env : Env) : Room k (A.deeper env) :=
 ⟨r.hd, by have := r.dp; show A.depth + 1 + 3 * k + 5 < _; omega, by have := r.un; show A.units + 3 + 16 * k + 200 < _; omega⟩
theorem make_depth {A : Around} {C : Addr} {us : List Value} {kw : List (Str × Value)} : (A.under (.builtin "type.__call__" ⟨.ref C :: us, kw⟩)).depth = A.depth + 1 := by
 first | rfl | simp [Around.under, Code.weight, Code.isCreation, Code.isGuard, Code.isCaller, Code.frames, Code.isFrame, guardIds]
theorem make_units {A : Around} {C : Addr} {us : List Value} {kw : List (Str × Value)} : (A.under (.builtin "type.__call__" ⟨.ref C :: us, kw⟩)).units = A.units + 1 := by
 first | rfl | simp [Around.under, Code.cUnits, Code.frames, Code.isFrame]
theorem Room.make {k : Nat} {A : Around} (r : Room (k + 1) A) (C : Addr) (us : List Value) (kw : List (Str × Value)) : Room k (A.under (.builtin "type.__call__" ⟨.ref C :: us, kw⟩)) :=
 ⟨r.hd, by have := r.dp; rw [make_depth]; omega, by have := r.un; rw [make_units]; omega⟩
theorem Room.depth {k : Nat} {A : Around} (r : Room k A) : A.depth < recursionLimit := by have := r.dp; omega
theorem Room.units {k : Nat} {A : Around} (r : Room k A) : A.units + 64 < cLine := by have := r.un; omega
noncomputable def tNil : TA := fun _ H Q => Q [] H
noncomputable def tCons (ta : TE) (tr : TA) : TA := fun σ H Q => ta σ H fun x H1 => tr σ H1 fun xs H2 => Q (x :: xs) H2
section
variable {X : Cx} {e : Expr} {es : List Expr} {te : TE} {t : TA} {pos : Pos}
theorem pa_nil : PA X [] tNil := fun _ _ _ _ H Q I h => Calls.spliced_nil ⟨[], H, I, .nil, h⟩
theorem pa_cons (ha : PE X e te) (hr : PA X es t) (hs : starEach (e :: es) X.env = (false, eval e X.env) :: starEach es X.env := by rfl) : PA X (e :: es) (tCons te t) := by
 intro pos pins s σ H Q I h
 rw [hs]
 show wpAny _ _ (spliced ((false, eval e X.env) :: backTo pos (starEach es X.env))) _ _ s
 refine Calls.spliced_cons (thn (ha pins s σ H _ I h) fun u s1 ⟨x, H1, I1, r1, q1⟩ => ?_)
 exact thn (hr pos pins s1 σ H1 _ I1 q1) fun us s2 ⟨xs, H2, I2, r2, q2⟩ => ⟨x :: xs, H2, I2, .cons r1 r2, q2⟩
noncomputable def tTup (t : TA) : TE := fun σ H Q => t σ H fun xs H1 => xs.length ≤ sizeLine ∧ ∀ p, H1 p = none → Q (.ref p) (upd H1 p (.tup xs))
noncomputable def tLst (t : TA) : TE := fun σ H Q => t σ H fun xs H1 => xs.length ≤ sizeLine ∧ ∀ p, H1 p = none → Q (.ref p) (upd H1 p (.lst xs))
theorem pe_tup {x1} (h : PA X es t) : PE X (.Tuple es x1 pos) (tTup t) := by
 intro pins s σ H Q I hq
 refine wpAny_Tuple_spliced (thn (h pos pins s σ H _ I hq) fun us s1 ⟨xs, H1, I1, r, z, q⟩ => ⟨by rw [← r.length]; exact z, ?_⟩)
 have hf : H1 s1.heap.objs.size = none := I1.hok.fresh (Nat.le_refl _)
 refine ⟨.ref s1.heap.objs.size, upd H1 s1.heap.objs.size (.tup xs), I1.laid (t' := s1.toks) (fun b u e => Heap.get?_push_of_some _ e) (Nat.le_refl _) ?_, rfl, q _ hf⟩
 exact ⟨z, us, r, ⟨_, Heap.get?_push_size _ rfl, rfl, _, rfl⟩⟩
theorem pe_lst (h : PA X es t) : PE X (.List es pos) (tLst t) := by
 intro pins s σ H Q I hq
 refine wpAny_List_spliced (thn (h pos pins s σ H _ I hq) fun us s1 ⟨xs, H1, I1, r, z, q⟩ => ⟨by rw [← r.length]; exact z, ?_⟩)
 have hf : H1 s1.heap.objs.size = none := I1.hok.fresh (Nat.le_refl _)
 refine ⟨.ref s1.heap.objs.size, upd H1 s1.heap.objs.size (.lst xs), I1.laid (t' := s1.toks) (fun b u e => Heap.get?_push_of_some _ e) (Nat.le_refl _) ?_, rfl, q _ hf⟩
 exact ⟨z, us, 0, r, Heap.get?_push_size _ rfl⟩
end
noncomputable abbrev Sp := List V → Hp → VK → XK → Prop
noncomputable abbrev CXT := List Env → Hp → Shared → XK → Value → Shared → Prop
structure Env0 (P : Program) (w : World) (K : PySem.W.Frag) (mg : Str → Option Value) (base : Heap) (A : Around) (outer : List Env) (s : Shared) (H : Hp) : Prop where
 frames : A.frames = some outer
 mod : Mod K mg base
 bs : ∀ b o, base.get? b = some o → s.heap.get? b = some o ∧ H b = none
 bsz : base.objs.size ≤ s.heap.objs.size
 funs : s.heap.FunFrames base outer
 frf : ∀ b ∈ frs outer, H b = none
 hok : HOk P w H s.heap
 bare : AllBare s.gens
noncomputable def CE (outer : List Env) (P : Program) (w : World) (H : Hp) (s : Shared) (Q : VK) (u : Value) (s' : Shared) : Prop :=
 ∃ v H', s'.os = s.os ∧ AllBare s'.gens ∧ Un (frs outer) [] H H' s.heap s'.heap ∧ HOk P w H' s'.heap ∧ RelV v u ∧ Q v H'
noncomputable def CR (CX : CXT) (outer : List Env) (P : Program) (w : World) (H : Hp) (s : Shared) (Q : VK) (E : XK) (r : Result) (s' : Shared) : Prop :=
 match r with
 | .ok (.ret u) => CE outer P w H s Q u s'
 | .ok _ => False
 | .error e => CX outer H s E e s'
structure FnOk (P : Program) (w : World) (K : PySem.W.Frag) (mg : Str → Option Value) (base : Heap) (CX : CXT) (k : Nat) (f : Addr) (fd : FuncData) (ps : List Str) (sp : Sp) : Prop where
 len : ∀ vs H Q E, sp vs H Q E → vs.length = ps.length
 run : ∀ (A : Around) (outer : List Env) (s : Shared) (H : Hp) (args : Args) (us : List Value) (vs : List V) (Q : VK) (E : XK), Room k A → Env0 P w K mg base A outer s H → BindsTo s fd args (ps.zip us) → Vals vs us → sp vs H Q E →
  codeAny (model P w) A (.call (.ref f) args) (CR CX outer P w H s Q E) s
theorem FnOk.mono {P : Program} {w : World} {K : PySem.W.Frag} {mg : Str → Option Value} {base : Heap} {CX : CXT} {j k : Nat} {f : Addr} {fd : FuncData} {ps : List Str} {sp : Sp} (F : FnOk P w K mg base CX j f fd ps sp) (h : j ≤ k) :
  FnOk P w K mg base CX k f fd ps sp := ⟨F.len, fun A outer s H args us vs Q E hr => F.run A outer s H args us vs Q E (hr.mono h)⟩
theorem Env0.make {P : Program} {w : World} {K : PySem.W.Frag} {mg : Str → Option Value} {base : Heap} {A : Around} {outer : List Env} {s : Shared} {H : Hp} (e : Env0 P w K mg base A outer s H) (C : Addr) (us : List Value) (kw : List (Str × Value)) :
  Env0 P w K mg base (A.under (.builtin "type.__call__" ⟨.ref C :: us, kw⟩)) outer s H := ⟨by first | exact e.frames | (simpa [Around.under, Code.envs, Code.isFrame, pushEnvs] using e.frames), e.mod, e.bs, e.bsz, e.funs, e.frf, e.hok, e.bare⟩
section
variable {X : Cx} {pins : List (Addr × Obj)} {σ : St} {H : Hp} {s s' : Shared}
theorem Inv.env0 (I : Inv X pins σ H s) : Env0 X.prog X.w X.K X.mg X.base X.A X.stack s H :=
 ⟨I.ok.frames, I.ok.mod, I.bs, Nat.le_trans I.ok.bsz I.sz, I.stack, I.stkFree, I.hok, I.bare⟩
theorem Inv.after {Q : VK} {u : Value} (I : Inv X pins σ H s) (h : CE X.stack X.prog X.w H s Q u s') : EP X pins σ Q u s' := by
 obtain ⟨v, H', os, bare, un, hok, r, q⟩ := h
 obtain ⟨hh, g, d, t, os'⟩ := s'
 obtain rfl : os' = s.os := os
 exact ⟨v, H', I.call (h' := hh) (g' := g) (d' := d) (t' := t) (ch := []) un hok bare (fun b z => absurd z (by simp)), r, q⟩
end
noncomputable def tCall (sp : Sp) (dvs : List V) (E : XK) (t : TA) : TE := fun σ H Q => t σ H fun vs H1 => sp (vs ++ dvs) H1 Q E
noncomputable def tMeth (C : Addr) (m : Str) (sp : Sp) (dvs : List V) (E : XK) (ta : TE) (t : TA) : TE := fun σ H Q => ta σ H fun x H1 => ∃ a dx fs, x = .ref a ∧ H1 a = some (.ins C dx fs) ∧ fs.lookup m = none ∧
 t σ H1 fun vs H2 => sp (x :: (vs ++ dvs)) H2 Q E
noncomputable def tMake (C : Addr) (sp : Sp) (dvs : List V) (E : XK) (t : TA) : TE := fun σ H Q => t σ H fun vs H1 => ∀ x dx, H1 x = none → H1 dx = none → dx ≠ x →
 sp (.ref x :: (vs ++ dvs)) (upd (upd H1 dx (.own x)) x (.ins C dx [])) (fun v H2 => v = .non ∧ Q (.ref x) H2) E
noncomputable def Binds (K : PySem.W.Frag) (fd : FuncData) (ps : List Str) (ds : List Value) : Prop :=
 ∀ (s : Shared) (us : List Value), K.In s.heap → (us ++ ds).length = ps.length → BindsTo s fd ⟨us, []⟩ (ps.zip (us ++ ds))
theorem Binds.all {K : PySem.W.Frag} {fd : FuncData} {ps : List Str} (h : ∀ us : List Value, us.length = ps.length → bindArgs fd ⟨us, []⟩ = pure (ps.zip us)) : Binds K fd ps [] := fun s us _ hl => by
 rw [List.append_nil] at hl ⊢
 exact .of_eq (h us hl)
noncomputable def Passes (CX : CXT) (X : Cx) (E : XK) : Prop := ∀ (pins : List (Addr × Obj)) (σ : St) (H : Hp) (s : Shared) (e : Value) (s' : Shared), Inv X pins σ H s → CX X.stack H s E e s' → X.xe e s'
section
variable {X : Cx} {CX : CXT} {k : Nat} {f C : Addr} {fd : FuncData} {ps : List Str} {sp : Sp} {dvs : List V} {ds : List Value} {E : XK} {x m : Str} {p pos apos : Pos} {e o : Expr} {es : List Expr} {ta : TE} {t : TA}
theorem run_fn {pins : List (Addr × Obj)} {σ : St} {H : Hp} {s : Shared} {Q : VK} {us : List Value} {vs : List V} (F : FnOk X.prog X.w X.K X.mg X.base CX k f fd ps sp) (hr : Room k X.A) (hb : Binds X.K fd ps ds) (hd : Vals dvs ds) (hx : Passes CX X E)
  (I : Inv X pins σ H s) (r : Vals vs us) (h : sp (vs ++ dvs) H Q E) : wpAny (model X.prog X.w) X.A (call (.ref f) us) (EP X pins σ Q) X.xe s := by
 have r2 : Vals (vs ++ dvs) (us ++ ds) := r.append hd
 have hl : (us ++ ds).length = ps.length := by rw [← r2.length]; exact F.len _ _ _ _ h
 refine wpAny_call (codeAny_mono (F.run X.A X.stack s H ⟨us, []⟩ (us ++ ds) (vs ++ dvs) Q E hr I.env0 (hb s us I.kIn hl) r2 h) fun r s' hq => ?_)
 cases r with
 | error e => exact hx pins σ H s e s' I hq
 | ok fl =>
  cases fl with
  | ret u => exact I.after hq
  | next => exact False.elim hq
  | brk => exact False.elim hq
  | cont => exact False.elim hq
theorem pe_call (F : FnOk X.prog X.w X.K X.mg X.base CX k f fd ps sp) (hr : Room k X.A) (hg : Gl X x) (hm : X.mg x = some (.ref f)) (hk : PySem.W.keepIn X.K (.ref f) = true) (hb : Binds X.K fd ps ds) (hd : Vals dvs ds) (hx : Passes CX X E)
  (ha : PA X (e :: es) t) (hdb : (x == ("__debug__" : Str)) = false := by decide) (he : starEach (e :: es) X.env = (false, eval e X.env) :: starEach es X.env := by rfl) (hpl : (backTo pos (starEach es X.env)).any (·.1) = false := by rfl) :
  PE X (.Call (.Name x p) (e :: es) [] pos) (tCall sp dvs E t) := by
 intro pins s σ H Q I h
 refine wpAny_Call_Name_kw (ld_glob I hg hm ?_ hdb)
 refine PySem.W.callWith_K (h₀ := X.base) I.ok.mod.kin hk (thn (ha pos pins s σ H _ I h) fun us s1 ⟨vs, H1, I1, r, q⟩ => ⟨I1.kIn, ?_⟩) he hpl
 exact run_fn F hr hb hd hx I1 r q
theorem pe_meth {pl : Sem Bool} (he : PE X o ta) (c : Cls X.K C) (hm : Meth X.K C m f) (F : FnOk X.prog X.w X.K X.mg X.base CX k f fd ps sp) (hr : Room k X.A) (hb : Binds X.K fd ps ds) (hd : Vals dvs ds) (hx : Passes CX X E) (ha : PA X (e :: es) t)
  (hst : starEach (e :: es) X.env = (false, eval e X.env) :: starEach es X.env := by rfl) (hpl : (backTo pos (starEach es X.env)).any (·.1) = false := by rfl)
  (ht : eval (.Call (.Attribute o m apos) (e :: es) [] pos) X.env = (do
   let ov ← eval o X.env
   standAt apos.atName
   let (f, first) ← holding [ov] (getMethod ov m pl)
   callWith pos f first (backTo pos (starEach (e :: es) X.env)) (backToKw pos (keywordEach [] X.env))) := by rfl) :
  PE X (.Call (.Attribute o m apos) (e :: es) [] pos) (tMeth C m sp dvs E ta t) := by
 intro pins s σ H Q I h
 refine PySem.W.methodCall_KW (pl := pl) (thn (he pins s σ H _ I h) fun u s1 ⟨x, H1, I1, rx, a, dx, fs, ex, ea, l, q⟩ => ?_) ht
 subst ex
 obtain rfl : u = Value.ref a := rx
 refine getmeth_ok I1 ea c hm l ?_
 refine PySem.W.callWith_K (first := [.ref a]) (h₀ := X.base) I.ok.mod.kin hm.kp (thn (ha pos pins s1 σ H1 _ I1 q) fun us s2 ⟨vs, H2, I2, r, q2⟩ => ⟨I2.kIn, ?_⟩) hst hpl
 exact run_fn (us := .ref a :: us) (vs := .ref a :: vs) F hr hb hd hx I2 (.cons rfl r) q2
theorem pe_meth0 {pl : Sem Bool} (he : PE X o ta) (c : Cls X.K C) (hm : Meth X.K C m f) (F : FnOk X.prog X.w X.K X.mg X.base CX k f fd ps sp) (hr : Room k X.A) (hb : Binds X.K fd ps ds) (hd : Vals dvs ds) (hx : Passes CX X E)
  (ht : eval (.Call (.Attribute o m apos) [] [] pos) X.env = (do
   let ov ← eval o X.env
   standAt apos.atName
   let (f, first) ← holding [ov] (getMethod ov m pl)
   callWith pos f first (backTo pos (starEach [] X.env)) (backToKw pos (keywordEach [] X.env))) := by rfl) :
  PE X (.Call (.Attribute o m apos) [] [] pos) (tMeth C m sp dvs E ta tNil) := by
 intro pins s σ H Q I h
 refine PySem.W.methodCall_KW (pl := pl) (thn (he pins s σ H _ I h) fun u s1 ⟨x, H1, I1, rx, a, dx, fs, ex, ea, l, q⟩ => ?_) ht
 subst ex
 obtain rfl : u = Value.ref a := rx
 refine getmeth_ok I1 ea c hm l ?_
 exact PySem.W.callWith_K0 (first := [.ref a]) I1.kIn hm.kp (run_fn (us := [.ref a]) (vs := [.ref a]) F hr hb hd hx I1 (.cons rfl .nil) q)
structure Mk (K : PySem.W.Frag) (C f : Addr) : Prop where
 makes : PySem.W.makesIn K C = true
 init : PySem.W.findIn K (.ref C) "__init__" = some (some (.ref f))
 fn : PySem.W.isFn K (.ref f) = true
 kp : PySem.W.keepIn K (.ref C) = true
theorem run_make {pins : List (Addr × Obj)} {σ : St} {H : Hp} {s : Shared} {Q : VK} {us : List Value} {vs : List V} (M : Mk X.K C f) (F : FnOk X.prog X.w X.K X.mg X.base CX k f fd ps sp) (hr : Room (k + 1) X.A) (hb : Binds X.K fd ps ds) (hd : Vals dvs ds)
  (hx : Passes CX X E) (I : Inv X pins σ H s) (r : Vals vs us)
  (h : ∀ x dx, H x = none → H dx = none → dx ≠ x → sp (.ref x :: (vs ++ dvs)) (upd (upd H dx (.own x)) x (.ins C dx [])) (fun v H2 => v = .non ∧ Q (.ref x) H2) E) :
  wpAny (model X.prog X.w) X.A (call (.ref C) us) (EP X pins σ Q) X.xe s := by
 have hq := h (s.heap.objs.size + 1) s.heap.objs.size (I.hok.fresh (Nat.le_succ _)) (I.hok.fresh (Nat.le_refl _)) (Nat.ne_of_lt (Nat.lt_succ_self _))
 have I2 := Inv.made (C := C) I
 have r2 : Vals (V.ref (s.heap.objs.size + 1) :: (vs ++ dvs)) (Value.ref (s.heap.objs.size + 1) :: (us ++ ds)) := .cons rfl (r.append hd)
 have hl : (Value.ref (s.heap.objs.size + 1) :: us ++ ds).length = ps.length := by
  have e := r2.length
  rw [F.len _ _ _ _ hq] at e
  exact e.symm
 refine wpAny_call (make_map (f := f) I.kIn M.makes M.init (beq_iff_eq.mp M.fn) (codeAny_mono (F.run _ X.stack _ _ ⟨Value.ref (s.heap.objs.size + 1) :: us, []⟩ (Value.ref (s.heap.objs.size + 1) :: (us ++ ds)) _ _ E (hr.make C us [])
  (I2.env0.make C us []) (hb _ (Value.ref (s.heap.objs.size + 1) :: us) I2.kIn hl) r2 hq) fun r s' hq' => ?_))
 cases r with
 | error e => exact hx pins σ _ _ e s' I2 hq'
 | ok fl =>
  cases fl with
  | ret u =>
   obtain ⟨v, H', I3, rv, ev, q3⟩ := I2.after hq'
   subst ev
   exact ⟨rv, ⟨V.ref (s.heap.objs.size + 1), H', I3, rfl, q3⟩⟩
  | next => exact False.elim hq'
  | brk => exact False.elim hq'
  | cont => exact False.elim hq'
theorem pe_make (M : Mk X.K C f) (F : FnOk X.prog X.w X.K X.mg X.base CX k f fd ps sp) (hr : Room (k + 1) X.A) (hg : Gl X x) (hm : X.mg x = some (.ref C)) (hb : Binds X.K fd ps ds) (hd : Vals dvs ds) (hx : Passes CX X E)
  (ha : PA X (e :: es) t) (hdb : (x == ("__debug__" : Str)) = false := by decide) (he : starEach (e :: es) X.env = (false, eval e X.env) :: starEach es X.env := by rfl) (hpl : (backTo pos (starEach es X.env)).any (·.1) = false := by rfl) :
  PE X (.Call (.Name x p) (e :: es) [] pos) (tMake C sp dvs E t) := by
 intro pins s σ H Q I h
 refine wpAny_Call_Name_kw (ld_glob I hg hm ?_ hdb)
 refine PySem.W.callWith_K (h₀ := X.base) I.ok.mod.kin M.kp (thn (ha pos pins s σ H _ I h) fun us s1 ⟨vs, H1, I1, r, q⟩ => ⟨I1.kIn, ?_⟩) he hpl
 exact run_make M F hr hb hd hx I1 r q
theorem pe_make0 (M : Mk X.K C f) (F : FnOk X.prog X.w X.K X.mg X.base CX k f fd ps sp) (hr : Room (k + 1) X.A) (hg : Gl X x) (hm : X.mg x = some (.ref C)) (hb : Binds X.K fd ps ds) (hd : Vals dvs ds) (hx : Passes CX X E)
  (hdb : (x == ("__debug__" : Str)) = false := by decide) : PE X (.Call (.Name x p) [] [] pos) (tMake C sp dvs E tNil) := by
 intro pins s σ H Q I h
 refine wpAny_Call_Name_kw (ld_glob I hg hm ?_ hdb)
 exact PySem.W.callWith_K0 I.kIn M.kp (run_make (us := []) M F hr hb hd hx I .nil h)
end
section
variable {X : Cx} {CX : CXT} {k : Nat} {f C : Addr} {fd : FuncData} {ps ks : List Str} {sp : Sp} {E : XK} {x m : Str} {p pos apos kpos : Pos} {e o : Expr} {es : List Expr} {kws : List Keyword} {te ta : TE} {t tk : TA} {nm : Option Str}
variable {g : List Value → List Value → List Value} {gV : List V → List V → List V}
end
structure FnScope (N P : List Str) (sc : Scope) : Prop where
 kind : sc.kind = .function
 co : sc.isCoroutine = false
 gen : sc.isGenerator = false
 nd : N.Nodup
 pre : N.take P.length = P
 par : ∀ x ∈ P, sc.names.lookup x = some .local ∨ sc.names.lookup x = some .cell
 nofree : ∀ y ∈ sc.names, y.2 ≠ .free
theorem bindL_out {kindOf : Str → Option NameKind} {x : Str} : ∀ {binds : List (Str × Value)} {m : Str → Option Value}, (∀ v, (x, v) ∉ binds) → bindL kindOf binds m x = m x
 | [], _, _ => rfl
 | (n, v) :: r, m, h => by
  unfold bindL
  rw [bindL_out fun w hw => h w (List.mem_cons_of_mem _ hw)]
  split
  ·have : x ≠ n := by rintro rfl; exact h v List.mem_cons_self
   simp [this]
  ·rfl
theorem bindC_out {kindOf : Str → Option NameKind} {x : Str} : ∀ {binds : List (Str × Value)} {m : Str → Option Value}, (∀ v, (x, v) ∉ binds) → bindC kindOf binds m x = m x
 | [], _, _ => rfl
 | (n, v) :: r, m, h => by
  unfold bindC
  rw [bindC_out fun w hw => h w (List.mem_cons_of_mem _ hw)]
  split
  ·rfl
  ·have : x ≠ n := by rintro rfl; exact h v List.mem_cons_self
   simp [this]
theorem bindL_get {kindOf : Str → Option NameKind} {x : Str} {v : Value} : ∀ {P : List Str} {vs : List Value} {i : Nat} {m : Str → Option Value}, P.Nodup → P[i]? = some x → vs[i]? = some v → kindOf x = some .local →
  bindL kindOf (P.zip vs) m x = some v
 | [], _, _, _, _, h, _, _ => by simp at h
 | _ :: _, [], _, _, _, _, h, _ => by simp at h
 | p :: P, w :: vs, 0, m, nd, h1, h2, hk => by
  simp at h1 h2; subst h1; subst h2
  show bindL kindOf ((p, w) :: P.zip vs) m p = _
  unfold bindL
  rw [bindL_out fun v hv => (List.nodup_cons.mp nd).1 (List.of_mem_zip hv).1, if_pos hk]
  simp
 | p :: P, w :: vs, i + 1, m, nd, h1, h2, hk => by
  show bindL kindOf ((p, w) :: P.zip vs) m x = _
  unfold bindL
  exact bindL_get (i := i) (List.nodup_cons.mp nd).2 (by simpa using h1) (by simpa using h2) hk
theorem bindC_get {kindOf : Str → Option NameKind} {x : Str} {v : Value} : ∀ {P : List Str} {vs : List Value} {i : Nat} {m : Str → Option Value}, P.Nodup → P[i]? = some x → vs[i]? = some v → kindOf x ≠ some .local →
  bindC kindOf (P.zip vs) m x = some v
 | [], _, _, _, _, h, _, _ => by simp at h
 | _ :: _, [], _, _, _, _, h, _ => by simp at h
 | p :: P, w :: vs, 0, m, nd, h1, h2, hk => by
  simp at h1 h2; subst h1; subst h2
  show bindC kindOf ((p, w) :: P.zip vs) m p = _
  unfold bindC
  rw [bindC_out fun v hv => (List.nodup_cons.mp nd).1 (List.of_mem_zip hv).1, if_neg hk]
  simp
 | p :: P, w :: vs, i + 1, m, nd, h1, h2, hk => by
  show bindC kindOf ((p, w) :: P.zip vs) m x = _
  unfold bindC
  exact bindC_get (i := i) (List.nodup_cons.mp nd).2 (by simpa using h1) (by simpa using h2) hk
noncomputable def start (N : List Str) (vs : List V) : St := vs.map some ++ List.replicate (N.length - vs.length) none
noncomputable def cxOf (CX : CXT) (P : Program) (w : World) (K : PySem.W.Frag) (mg : Str → Option Value) (base : Heap) (N : List Str) (qual : Str) (scope : Scope) (f : Addr) (cd : Value) (A : Around) (outer : List Env) (s : Shared) (H : Hp) (E : XK) : Cx where
 prog := P
 w := w
 K := K
 mg := mg
 base := base
 A := A.deeper (envOfC qual scope s.heap.objs.size f cd)
 N := N
 s_0 := s
 H_0 := H
 env := envOfC qual scope s.heap.objs.size f cd
 outer := outer
 stack := envOfC qual scope s.heap.objs.size f cd :: outer
 ex := []
 calm := true
 fn := fun _ => true
 pn := []
 xe := fun e s' => wpAny (model P w) (A.deeper (envOfC qual scope s.heap.objs.size f cd)) (leaving (envOfC qual scope s.heap.objs.size f cd) e) (fun _ s'' => CX outer H s E e s'') (fun e' s'' => CX outer H s E e' s'') s'
theorem cell_has {sc : Scope} {n : Nat} {x : Str} (h : sc.names.lookup x = some .cell) : ∃ c, (cellsFrom n sc.names []).lookup x = some c := by
 have q := PySem.W.cellsFrom_some sc.names n [] (.inl h)
 exact Option.isSome_iff_exists.mp q
theorem inv_start {CX : CXT} {P : Program} {w : World} {K : PySem.W.Frag} {mg : Str → Option Value} {base : Heap} {N ps : List Str} {qual : Str} {scope : Scope} {f : Addr} {cd : Value} {A : Around} {outer : List Env} {s s1 : Shared} {H : Hp} {E : XK} {us : List Value} {vs : List V}
  (S : FnScope N ps scope) (hd : A.handled = none) (e0 : Env0 P w K mg base A outer s H) (hl : vs.length = ps.length) (r : Vals vs us)
  (x : InCallC s s.heap.objs.size (bindL (envOfC qual scope s.heap.objs.size f cd).kindOf (ps.zip us) fun _ => none) (cellsFrom (s.heap.objs.size + 1) scope.names []) (bindC (envOfC qual scope s.heap.objs.size f cd).kindOf (ps.zip us) fun _ => none) s1) :
  Inv (cxOf CX P w K mg base N qual scope f cd A outer s H E) [] (start N vs) H s1 := by
 have hpl : ps.length ≤ N.length := by have := congrArg List.length S.pre; rw [List.length_take] at this; omega
 obtain ⟨h1, tk, rfl, hk⟩ := x.done
 have noA : ∀ b : Addr, b ∉ (cxOf CX P w K mg base N qual scope f cd A outer s H E).ex := fun b z => absurd (show b ∈ ([] : List Addr) from z) (by simp)
 refine ⟨⟨e0.mod, S.kind, rfl, rfl, Nat.le_refl _, fun y z c h1 h2 => ?_, fun y hy => ?_, fun y c _ h => ?_, fun _ => hd, Around.frames_deeper e0.frames, .inr ⟨rfl, rfl⟩, fun b z => absurd z (noA b), e0.bs, e0.bsz, fun b _ _ => noA b, fun b z => absurd z (noA b), e0.funs, e0.frf⟩,
  rfl, e0.bare, Un.kept hk, ⟨_, x.toInCall.ns, fun i y v h1 h2 h3 => ?_⟩, fun y c h => ⟨_, x.cell y c h⟩, e0.hok.fresh (Nat.le_refl _), fun y c h => ?_, fun p hp => absurd (show p ∈ ([] : List (Addr × Obj)) from hp) (by simp), e0.hok.kept hk, ?_⟩
 ·exact name_of_addr x.apart (PySem.mem_of_lookup h1) (PySem.mem_of_lookup h2)
 ·have hy : scope.names.lookup y = some .cell ∨ scope.names.lookup y = some .free := hy
  rcases hy with hy | hy
  ·exact cell_has hy
  ·exact absurd rfl (S.nofree _ (PySem.mem_of_lookup hy))
 ·exact Nat.le_of_lt (x.above y c (PySem.mem_of_lookup h))
 ·have hi : i < vs.length := by
   unfold start at h2
   by_cases hi : i < vs.length
   ·exact hi
   ·rw [List.getElem?_append_right (by simpa using hi)] at h2
    rw [List.getElem?_replicate] at h2
    split at h2 <;> cases h2
  have ha : vs[i]? = some v := by
   unfold start at h2
   rw [List.getElem?_append_left (by simpa using hi), List.getElem?_map] at h2
   cases e : vs[i]? with
   | none => rw [e] at h2; cases h2
   | some a => rw [e] at h2; cases h2; rfl
  obtain ⟨u, hu, rv⟩ := r.get ha
  have hp : ps[i]? = some y := by
   rw [← S.pre, List.getElem?_take_of_lt (by omega)]; exact h1
  have ndP : ps.Nodup := by rw [← S.pre]; exact S.nd.sublist (List.take_sublist _ _)
  refine ⟨u, rv, ?_⟩
  rcases S.par y (List.mem_of_getElem? hp) with k | k
  ·exact .inl ⟨k, bindL_get ndP hp hu k⟩
  ·obtain ⟨c, e⟩ := cell_has (n := s.heap.objs.size + 1) k
   refine .inr ⟨.inl k, c, e, ?_⟩
   have q := x.cell y c e
   rw [bindC_get ndP hp hu (by show scope.names.lookup y ≠ _; rw [k]; decide)] at q
   exact q
 ·exact e0.hok.fresh (Nat.le_of_lt (x.above y c (PySem.mem_of_lookup h)))
 ·unfold start
  show _ = N.length
  rw [List.length_append, List.length_map, List.length_replicate]
  omega
theorem fn_of {CX : CXT} {P : Program} {w : World} {K : PySem.W.Frag} {mg : Str → Option Value} {base : Heap} {k : Nat} {f : Addr} {name qual : Str} {params : Arguments} {body : List Stmt} {scope : Scope} {dV kV doc pm cdv ct oc : Value} {an od : Option Addr}
  {osl : Array (Option Value)} {N ps : List Str} {sp : Sp} (lk : K.lookup f = some ⟨oc, od, .func (PySem.W.fnOf name qual params body scope dV kV doc pm an cdv ct), osl⟩) (hcd : PySem.W.codeIn K cdv qual = true) (S : FnScope N ps scope)
  (len : ∀ vs H Q E, sp vs H Q E → vs.length = ps.length)
  (hbody : ∀ (A : Around) (outer : List Env) (s : Shared) (H : Hp) (vs : List V) (Q : VK) (E : XK), Room k (A.deeper (envOfC qual scope s.heap.objs.size f cdv)) → sp vs H Q E →
   ∃ t, PSs (cxOf CX P w K mg base N qual scope f cdv A outer s H E) body t ∧ t { nx := fun _ H' => Q .non H', rt := Q } (start N vs) H) :
  FnOk P w K mg base CX (k + 1) f (PySem.W.fnOf name qual params body scope dV kV doc pm an cdv ct) ps sp := by
 refine ⟨len, fun A outer s H args us vs Q E hr e0 hb r hsp => ?_⟩
 have hl := len _ _ _ _ hsp
 have KX : K.In s.heap := e0.mod.kin.keeps fun b o e => (e0.bs b o e).1
 have lim : s.heap.NoLimit := e0.mod.nolimit.keeps fun b o e => (e0.bs b o e).1
 have hkind : ∀ y ∈ ps.zip us, scope.names.lookup y.1 = some .local ∨ (scope.names.lookup y.1 = some .cell ∧ ((cellsFrom (s.heap.objs.size + 1) scope.names []).lookup y.1).isSome = true) := fun ⟨n, v⟩ hy => by
  rcases S.par n (List.of_mem_zip hy).1 with q | q
  ·exact .inl q
  ·exact .inr ⟨q, PySem.W.cellsFrom_some _ _ _ (.inl q)⟩
 refine codeAny_call_function hr.depth (KX _ _ lk) rfl S.co S.gen rfl (PySem.W.codeRec_of KX hcd) (hb _ _ _ _ ?_)
 refine wpAny_newFunctionEnv_cells S.kind hkind fun env he s1 x => ?_
 subst he
 refine ⟨lim.keeps x.toInCall.keep, codeAny_func ?_⟩
 obtain ⟨t, ht, hq⟩ := hbody A outer s H vs Q E (hr.deeper _) hsp
 have I : Inv (cxOf CX P w K mg base N qual scope f cdv A outer s H E) [] (start N vs) H s1 := inv_start S hr.hd e0 hl r x
 refine wpAny_mono (ht [] s1 (start N vs) H _ I hq) (fun fl s' hs => ?_) fun e s' hs => hs
 have fin : ∀ {σ' : St} {H' : Hp} {v : V} {u : Value}, Inv (cxOf CX P w K mg base N qual scope f cdv A outer s H E) [] σ' H' s' → RelV v u → Q v H' → CE outer P w H s Q u s' :=
  fun {σ' H' v u} J rv q => ⟨v, H', J.os, J.bare, J.base, J.hok, rv, q⟩
 cases fl with
 | ret u =>
  obtain ⟨v, σ', H', J, rv, q⟩ := hs
  exact fin J rv q
 | next =>
  obtain ⟨σ', H', J, q⟩ := hs
  exact fin (v := V.non) (u := Value.none) J rfl q
 | brk =>
  obtain ⟨_, _, _, q⟩ := hs
  exact False.elim q
 | cont =>
  obtain ⟨_, _, _, q⟩ := hs
  exact False.elim q
end L2
namespace L2
open PySem PySem.Spec PyProof.Rows
section
variable {X : Cx} {x : Str} {p pos : Pos} {e : Expr} {es : List Expr} {t : TA} {id T : String} {r : List V → Hp → VK → Prop}
noncomputable def tCB (r : List V → Hp → VK → Prop) (t : TA) : TE := fun σ H Q => t σ H fun vs H1 => r vs H1 Q
theorem pe_callB (hc : CallR X (.builtin id) r) (hg : Gl X x) (hm : X.mg x = none) (hv : bootBuiltins x = some (.builtin id)) (ha : PA X (e :: es) t) (hn : x ≠ "__name__" := by decide) (hdb : (x == ("__debug__" : Str)) = false := by decide)
  (he : starEach (e :: es) X.env = (false, eval e X.env) :: starEach es X.env := by rfl) (hpl : (backTo pos (starEach es X.env)).any (·.1) = false := by rfl) : PE X (.Call (.Name x p) (e :: es) [] pos) (tCB r t) := by
 intro pins s σ H Q I h
 refine wpAny_Call_Name_kw (ld_blt I hg hm hv ?_ hn hdb)
 exact PyProof.Rows.callWith_builtin1 (thn (ha pos pins s σ H _ I h) fun us s1 ⟨vs, H1, I1, r1, q1⟩ => hc pins s1 σ H1 vs us Q I1 r1 q1) he hpl
theorem pe_callTy (hc : CallR X (.type T) r) (hg : Gl X x) (hm : X.mg x = none) (hv : bootBuiltins x = some (.type T)) (ha : PA X (e :: es) t) (hn : x ≠ "__name__" := by decide) (hdb : (x == ("__debug__" : Str)) = false := by decide)
  (he : starEach (e :: es) X.env = (false, eval e X.env) :: starEach es X.env := by rfl) (hpl : (backTo pos (starEach es X.env)).any (·.1) = false := by rfl) : PE X (.Call (.Name x p) (e :: es) [] pos) (tCB r t) := by
 intro pins s σ H Q I h
 refine wpAny_Call_Name_kw (ld_blt I hg hm hv ?_ hn hdb)
 exact PyProof.Rows.callWith_type1 (thn (ha pos pins s σ H _ I h) fun us s1 ⟨vs, H1, I1, r1, q1⟩ => hc pins s1 σ H1 vs us Q I1 r1 q1) he hpl
end
end L2
namespace HT
open PySem PyProof.Rows
section
open PySem.SeqAt
open PySem.AutoSeq1 (wpAny_loadPart')
open PySem.MeetsSeq PySem.MeetsSeq2 PySem.MeetsSeq3
end
section
variable {prog : Program} {w : World} {A : Around} {E : Value → Shared → Prop} {s : Shared}
noncomputable def sIx (n d : Nat) : Option Int → Nat
 | none => d
 | some v => if v < 0 then (v + (n : Int)).toNat else min v.toNat n
end
end HT
namespace L2
open PySem PySem.Spec PyProof.Rows
noncomputable abbrev TO := St → Hp → (Option Int → Hp → Prop) → Prop
noncomputable def PO (X : Cx) (e : Option Expr) (t : TO) : Prop :=
 ∀ (pins : List (Addr × Obj)) (s : Shared) (σ : St) (H : Hp) (Q : Option Int → Hp → Prop), Inv X pins σ H s → t σ H Q →
  wpAny (model X.prog X.w) X.A (evalPart e X.env) (fun u s' => ∃ o H', Inv X pins σ H' s' ∧ IsPart u o ∧ Q o H') X.xe s
noncomputable def tNoPart : TO := fun _ H Q => Q none H
noncomputable def tPart (t : TE) : TO := fun σ H Q => t σ H fun x H1 => ∃ i, x = .int i ∧ Q (some i) H1
section
variable {X : Cx} {e : Expr} {te : TE} {lo hi : Option Expr} {tl th : TO} {pos p2 : Pos}
theorem po_none : PO X none tNoPart := by
 intro pins s σ H Q I h
 rw [evalPart_none]
 exact wpAny_pure ⟨none, H, I, .none, h⟩
theorem po_some (h : PE X e te) : PO X (some e) (tPart te) := by
 intro pins s σ H Q I hw
 rw [evalPart_some]
 refine thn (h pins s σ H _ I hw) fun u s1 ⟨x, H1, I1, r1, q1⟩ => ?_
 obtain ⟨i, rfl, q⟩ := q1
 obtain ⟨t, rfl⟩ := r1
 exact ⟨some i, H1, I1, .int i t, q⟩
noncomputable def SlR (X : Cx) (r : V → Option Int → Option Int → Hp → VK → Prop) : Prop :=
 ∀ (pins : List (Addr × Obj)) (s : Shared) (σ : St) (H : Hp) (x : V) (v vl vu : Value) (lo hi : Option Int) (sl : Addr) (Q : VK), Inv X pins σ H s → RelV x v → s.heap.IsSliceOf sl vl vu .none → IsPart vl lo → IsPart vu hi → r x lo hi H Q →
  ∃ T id, typeLookup (.type T) "__getitem__" = pure (some (.builtin id)) ∧ s.TypeIs v T ∧ wpAny (model X.prog X.w) X.A (getItem v (.ref sl)) (EP X pins σ Q) X.xe s
noncomputable def tSl (r : V → Option Int → Option Int → Hp → VK → Prop) (te : TE) (tl th : TO) : TE := fun σ H Q => te σ H fun x H1 => tl σ H1 fun l H2 => th σ H2 fun u H3 => r x l u H3 Q
theorem pe_slice {r : V → Option Int → Option Int → Hp → VK → Prop} (hr : SlR X r) (he : PE X e te) (hl : PO X lo tl) (hu : PO X hi th) : PE X (.Subscript e (.Slice lo hi none p2) pos) (tSl r te tl th) := by
 intro pins s σ H Q I h
 refine Subscript_ (thn (he pins s σ H _ I h) fun v s1 ⟨x, H1, I1, r1, q1⟩ => ?_)
 refine wpAny_Slice (thn (hl pins s1 σ H1 _ I1 q1) fun vl s2 ⟨l, H2, I2, pl, q2⟩ => thn (hu pins s2 σ H2 _ I2 q2) fun vu s3 ⟨u, H3, I3, pu, q3⟩ => ?_)
 rw [evalPart_none]
 refine wpAny_pure ?_
 have I4 : Inv X pins σ H3 { s3 with heap := s3.heap.push { cls := .type "slice", data := .fields #[vl, vu, .none] } } := I3.kept (t' := s3.toks) fun b ob q => Heap.get?_push_of_some _ q
 obtain ⟨T, id, hT, ht, hg⟩ := hr pins { s3 with heap := s3.heap.push { cls := .type "slice", data := .fields #[vl, vu, .none] } } σ H3 x v vl vu l u s3.heap.objs.size Q I4 r1 (Heap.IsSliceOf.new ..) pl pu q3
 show wpAny (model X.prog X.w) X.A (subscriptTail e (.Slice lo hi none p2) v (.ref s3.heap.objs.size)) (EP X pins σ Q) X.xe { s3 with heap := s3.heap.push { cls := .type "slice", data := .fields #[vl, vu, .none] } }
 exact tail_any (ops := [.ref s3.heap.objs.size, v]) ht hT hg (by with_unfolding_all rfl)
noncomputable def cutV (xs : List V) (lo hi : Option Int) : List V := (xs.drop (HT.sIx xs.length 0 lo)).take (HT.sIx xs.length xs.length hi - HT.sIx xs.length 0 lo)
theorem cutV_length (xs : List V) (lo hi : Option Int) : (cutV xs lo hi).length ≤ xs.length := by
 unfold cutV
 rw [List.length_take, List.length_drop]
 omega
end
end L2
namespace L2
open PySem PySem.Spec PyProof.Rows
noncomputable def ixN (n : Nat) (i : Int) : Option Nat := if 0 ≤ i then (if i < n then some i.toNat else none) else if -(n : Int) ≤ i then some (i + n).toNat else none
noncomputable def atI {α : Type} (xs : List α) (i : Int) : Option α := (ixN xs.length i).bind fun j => xs[j]?
theorem ixN_seq {n : Nat} {i : Int} {j : Nat} (h : ixN n i = some j) : seqIndex? i n = some j ∧ j < n ∧ -(n : Int) ≤ i ∧ i < n := by
 unfold ixN at h
 by_cases h0 : 0 ≤ i
 ·rw [if_pos h0] at h
  by_cases h1 : i < n
  ·rw [if_pos h1] at h
   have e : i.toNat = j := Option.some.inj h
   exact ⟨by rw [seqIndex_of h0 h1, e], by omega, by omega, h1⟩
  ·rw [if_neg h1] at h; cases h
 ·rw [if_neg h0] at h
  by_cases h1 : -(n : Int) ≤ i
  ·rw [if_pos h1] at h
   have e : (i + n).toNat = j := Option.some.inj h
   exact ⟨by rw [seqIndex_neg (by omega) h1, e], by omega, h1, by omega⟩
  ·rw [if_neg h1] at h; cases h
theorem atI_get {α : Type} {xs : List α} {i : Int} {v : α} (h : atI xs i = some v) : ∃ j, seqIndex? i xs.length = some j ∧ xs[j]? = some v ∧ j < xs.length ∧ -(xs.length : Int) ≤ i ∧ i < xs.length := by
 unfold atI at h
 cases e : ixN xs.length i with
 | none => rw [e] at h; cases h
 | some j =>
  rw [e] at h
  obtain ⟨h1, h2, h3, h4⟩ := ixN_seq e
  exact ⟨j, h1, h, h2, h3, h4⟩
theorem atI_nat {α : Type} {xs : List α} {j : Nat} {v : α} (h : xs[j]? = some v) : atI xs (j : Int) = some v := by
 have hj : j < xs.length := (List.getElem?_eq_some_iff.mp h).1
 have e : ixN xs.length (j : Int) = some j := by
  unfold ixN
  rw [if_pos (by omega), if_pos (by omega)]; simp
 unfold atI; rw [e]; exact h
theorem atI_last {α : Type} (xs : List α) (v : α) : atI (xs ++ [v]) (-1) = some v := by
 have hl : (xs ++ [v]).length = xs.length + 1 := by simp
 have e : ixN (xs ++ [v]).length (-1) = some xs.length := by
  unfold ixN
  rw [hl, if_neg (by decide), if_pos (by omega)]
  congr 1
  omega
 unfold atI
 rw [e]
 show (xs ++ [v])[xs.length]? = some v
 simp
noncomputable def PlainIx (b : Expr) : Prop := ∀ o i, subscripted b false o i = operate [o, i] (getItem o i)
noncomputable def IxR (X : Cx) (r : R2) : Prop :=
 ∀ (value slice : Expr) (pins : List (Addr × Obj)) (s : Shared) (σ : St) (H : Hp) (x y : V) (v u : Value) (Q : VK), Inv X pins σ H s → RelV x v → RelV y u → r x y H Q →
  subscripted slice false v u = operate [v, u] (getItem v u) → wpAny (model X.prog X.w) X.A (subscriptTail value slice v u) (EP X pins σ Q) X.xe s
noncomputable def MtR (X : Cx) (id : String) (r : V → List V → Hp → VK → Prop) : Prop :=
 ∀ (pins : List (Addr × Obj)) (s : Shared) (σ : St) (H : Hp) (x : V) (xs : List V) (v : Value) (us : List Value) (Q : VK), Inv X pins σ H s → RelV x v → Vals xs us → r x xs H Q →
  wpAny (model X.prog X.w) X.A (call (.builtin id) (v :: us)) (EP X pins σ Q) X.xe s
section
variable {X : Cx} {a b : Expr} {ta tb : TE} {pos : Pos}
theorem pe_ix {r : R2} (hr : IxR X r) (ha : PE X a ta) (hb : PE X b tb) (hs : PlainIx b) : PE X (.Subscript a b pos) (tOp r ta tb) := by
 intro pins s σ H Q I h
 exact Subscript_ (binT ha hb I h fun v u s2 x y H2 I2 rx ry q => hr a b pins s2 σ H2 x y v u Q I2 rx ry q (hs _ _))
noncomputable def rIxL (K : PySem.W.Frag) : R2 := fun x y H Q => ∃ p xs i v, x = .ref p ∧ y = .int i ∧ SqL K H p xs ∧ atI xs i = some v ∧ Q v H
theorem ix_list : IxR X (rIxL X.K) := by
 intro value slice pins s σ H x y v u Q I rx ry h hs
 obtain ⟨p, xs, i, z, rfl, rfl, hq, he, q⟩ := h
 cases rx
 obtain ⟨t, rfl⟩ := ry
 obtain ⟨its, r, pl, hz⟩ := I.list hq
 obtain ⟨j, h1, h2, h3, h4, h5⟩ := atI_get he
 obtain ⟨w, ew, rw'⟩ := r.get h2
 have hl := r.length
 have hn := line63
 have fin : EP X pins σ Q w s := ⟨z, H, I, rw', q⟩
 by_cases h0 : 0 ≤ i
 ·have hj : i.toNat = j := by
   rw [seqIndex_of h0 h5] at h1
   exact Option.some.inj h1
  exact item_listR pl.isList h0 (by omega) (by rw [hj]; simpa using ew) fin hs
 ·have hj : (i + (its.toArray.size : Int)).toNat = j := by
   rw [seqIndex_neg (by omega) h4] at h1
   rw [List.size_toArray, ← hl]
   exact Option.some.inj h1
  exact subscriptTail_builtinR (x := w) pl.isList.typeIs slot_list_getitem.lookup
   (wpAny_getItem_list_neg (Q := fun r s' => r = w ∧ EP X pins σ Q r s') pl.isList (by omega) (by rw [List.size_toArray] <;> omega) (by omega) (by rw [hj]; simpa using ew) ⟨rfl, fin⟩) hs
theorem mapSeq_set (its : List Value) (n j : Nat) (u : Value) : Obj.mapSeq (·.setIfInBounds j u) { cls := .type "list", data := .seq its.toArray n } = { cls := .type "list", data := .seq (its.set j u).toArray n } := by
 simp [Obj.mapSeq]
theorem Inv.lst {pins : List (Addr × Obj)} {σ : St} {H : Hp} {s : Shared} {p : Addr} {xs : List V} (I : Inv X pins σ H s) (h : H p = some (.lst xs)) :
  ∃ (its : List Value) (n : Nat), Vals xs its ∧ s.heap.get? p = some { cls := .type "list", data := .seq its.toArray n } ∧ xs.length ≤ sizeLine := by
 obtain ⟨z, its, n, r, e⟩ := I.hok p _ h
 exact ⟨its, n, r, e, z⟩
theorem Inv.lstUpd {pins : List (Addr × Obj)} {σ : St} {H : Hp} {s : Shared} {p : Addr} {xs ys : List V} {its its' : List Value} {n n' : Nat} {f : Obj → Obj} (I : Inv X pins σ H s) (h : H p = some (.lst xs))
  (ho : s.heap.get? p = some { cls := .type "list", data := .seq its.toArray n }) (hf : f { cls := .type "list", data := .seq its.toArray n } = { cls := .type "list", data := .seq its'.toArray n' }) (r : Vals ys its') (hz : ys.length ≤ sizeLine) (t : Nat) :
  Inv X pins σ (upd H p (.lst ys)) { s with heap := s.heap.update p f, toks := t } := by
 have e : (s.heap.update p f).get? p = some { cls := .type "list", data := .seq its'.toArray n' } := by
  rw [Heap.get?_update_self f ho (by rw [hf] <;> rfl), hf]
 refine I.write (x := p) (e := p) (by rw [h]; trivial) (.inl rfl) (fun b u hb q => (Heap.get?_update_other _ _ (Ne.symm hb)).trans q) ⟨_, e⟩ ?_
 exact ⟨hz, its', n', r, e⟩
noncomputable def rSetL : V → V → V → Hp → (Hp → Prop) → Prop := fun o i v H Q => ∃ p xs k j, o = .ref p ∧ i = .int k ∧ H p = some (.lst xs) ∧ ixN xs.length k = some j ∧ Q (upd H p (.lst (xs.set j v)))
theorem set_list : PSet X rSetL := by
 intro pins s σ H o i v ov iv u Q I ro ri rv h
 obtain ⟨p, xs, k, j, rfl, rfl, hp, hj, q⟩ := h
 cases ro
 obtain ⟨t, rfl⟩ := ri
 obtain ⟨its, n, r, ho, hz⟩ := I.lst hp
 obtain ⟨h1, h2, h3, h4⟩ := ixN_seq hj
 have hl := r.length
 have hn := line63
 have I' : Inv X pins σ (upd H p (.lst (xs.set j v))) { s with heap := s.heap.update p (Obj.mapSeq (·.setIfInBounds j u)) } :=
  I.lstUpd hp ho (mapSeq_set its n j u) (r.set rv j) (by rw [List.length_set]; exact hz) s.toks
 by_cases h0 : 0 ≤ k
 ·have hk : k.toNat = j := by
   rw [seqIndex_of h0 h4] at h1
   exact Option.some.inj h1
  exact PySem.W.ki_setAt ho h0 (by omega) (by rw [List.size_toArray, ← hl]; exact h4) (by rw [hk]; exact ⟨_, I', q⟩)
 ·have hk : (k + (its.toArray.size : Int)).toNat = j := by
   rw [seqIndex_neg (by omega) h3] at h1
   rw [List.size_toArray, ← hl]
   exact Option.some.inj h1
  exact PySem.W.ki_setBack ho (by omega) (by rw [List.size_toArray, ← hl]; exact h3) (by omega) (by rw [hk]; exact ⟨_, I', q⟩)
theorem slice_bounds (lo hi : Option Int) (n : Nat) : (sliceBounds lo hi none n).1 = ((HT.sIx n 0 lo : Nat) : Int) ∧ (sliceBounds lo hi none n).2.1 = ((HT.sIx n n hi : Nat) : Int) ∧ (sliceBounds lo hi none n).2.2 = 1 := by
 refine ⟨?_, ?_, rfl⟩
 ·cases lo with
  | none => simp [sliceBounds, HT.sIx]
  | some i =>
   simp only [sliceBounds, HT.sIx, Option.getD_none, show (1 : Int) > 0 by decide, if_true]
   by_cases h : i < 0
   ·simp only [h, if_true] <;> omega
   ·simp only [h, if_false] <;> omega
 ·cases hi with
  | none => simp [sliceBounds, HT.sIx]
  | some i =>
   simp only [sliceBounds, HT.sIx, Option.getD_none, show (1 : Int) > 0 by decide, if_true]
   by_cases h : i < 0
   ·simp only [h, if_true] <;> omega
   ·simp only [h, if_false] <;> omega
theorem slicePick_cut (its : List Value) (lo hi : Option Int) : slicePick its.toArray lo hi none = ((its.drop (HT.sIx its.length 0 lo)).take (HT.sIx its.length its.length hi - HT.sIx its.length 0 lo)).toArray := by
 obtain ⟨h1, h2, h3⟩ := slice_bounds lo hi its.toArray.size
 unfold slicePick
 rw [h1, h2, h3]
 simp only [sliceRange_one, pick_run, List.size_toArray] <;> rfl
noncomputable def rSlL (K : PySem.W.Frag) : V → Option Int → Option Int → Hp → VK → Prop := fun x lo hi H Q => ∃ a xs, x = .ref a ∧ SqL K H a xs ∧ ∀ p, H p = none → Q (.ref p) (upd H p (.lst (cutV xs lo hi)))
theorem sl_list : SlR X (rSlL X.K) := by
 intro pins s σ H x v vl vu lo hi sl Q I rx hs pl pu h
 obtain ⟨a, xs, rfl, hx, q⟩ := h
 cases rx
 obtain ⟨its, r, ht, hz⟩ := I.list hx
 have hlen := r.length
 refine ⟨"list", _, slot_list_getitem.lookup, ht.isList.typeIs, ?_⟩
 refine wpAny_getItem_list_slice ht.isList hs pl pu .none (by simp) ?_ (by rw [List.size_toArray] <;> omega)
 rw [slicePick_cut, ← hlen]
 refine ⟨.ref s.heap.objs.size, _, I.laid (t' := s.toks) (o := .lst (cutV xs lo hi)) (fun b ob q => Heap.get?_push_of_some _ q) (Nat.le_refl _) ?_, rfl, q _ (I.hok.fresh (Nat.le_refl _))⟩
 exact ⟨Nat.le_trans (cutV_length xs lo hi) hz, _, 0, (r.drop (HT.sIx xs.length 0 lo)).take (HT.sIx xs.length xs.length hi - HT.sIx xs.length 0 lo), Heap.get?_push_size _ rfl⟩
noncomputable def flatV : V → Bool
 | .non => true
 | .bl _ => true
 | .int _ => true
 | .str _ => true
 | _ => false
noncomputable def eqV : V → V → Bool
 | .non, .non => true
 | .bl a, .bl b => a == b
 | .bl a, .int b => (if a then 1 else 0) == b
 | .int a, .bl b => a == (if b then 1 else 0)
 | .int a, .int b => a == b
 | .str a, .str b => a == b
 | _, _ => false
theorem eqAt_V {A : Around} {s : Shared} {y x : V} {u v : Value} (ry : RelV y u) (rx : RelV x v) (fy : flatV y = true) (fx : flatV x = true) : SeqAt.EqAt A s u v (eqV y x) := by
 cases y with
 | non =>
  cases ry
  cases x with
  | non => cases rx; exact SeqAt.EqAt.same _
  | bl b => cases rx; exact SeqAt.EqAt.none_bool b
  | int b => obtain ⟨t, rfl⟩ := rx; exact SeqAt.EqAt.none_int b t
  | str b => obtain ⟨t, rfl⟩ := rx; exact SeqAt.EqAt.none_str b t
  | _ => exact absurd (show false = true from fx) Bool.false_ne_true
 | bl a =>
  cases ry
  cases x with
  | non => cases rx; exact SeqAt.EqAt.bool_none a
  | bl b => cases rx; exact SeqAt.EqAt.bool_bool a b
  | int b => obtain ⟨t, rfl⟩ := rx; exact SeqAt.EqAt.bool_int a b t
  | str b => obtain ⟨t, rfl⟩ := rx; exact SeqAt.EqAt.bool_str a b t
  | _ => exact absurd (show false = true from fx) Bool.false_ne_true
 | int a =>
  obtain ⟨t', rfl⟩ := ry
  cases x with
  | non => cases rx; exact SeqAt.EqAt.int_none a t'
  | bl b => cases rx; exact SeqAt.EqAt.int_bool a t' b
  | int b => obtain ⟨t, rfl⟩ := rx; exact SeqAt.EqAt.int_int a t' b t
  | str b => obtain ⟨t, rfl⟩ := rx; exact SeqAt.EqAt.int_str a t' b t
  | _ => exact absurd (show false = true from fx) Bool.false_ne_true
 | str a =>
  obtain ⟨t', rfl⟩ := ry
  cases x with
  | non => cases rx; exact SeqAt.EqAt.str_none a t'
  | bl b => cases rx; exact SeqAt.EqAt.str_bool a t' b
  | int b => obtain ⟨t, rfl⟩ := rx; exact SeqAt.EqAt.str_int a t' b t
  | str b => obtain ⟨t, rfl⟩ := rx; exact SeqAt.EqAt.str_str a t' b t
  | _ => exact absurd (show false = true from fx) Bool.false_ne_true
 | _ => exact absurd (show false = true from fy) Bool.false_ne_true
noncomputable def eqU (x : V) (u : Value) : Bool := match u with
 | .none => eqV .non x
 | .bool b => eqV (.bl b) x
 | .int i _ => eqV (.int i) x
 | .str z _ => eqV (.str z) x
 | _ => false
theorem eqU_of {x y : V} {u : Value} (r : RelV y u) (f : flatV y = true) : eqU x u = eqV y x := by
 cases y with
 | non => cases r; rfl
 | bl b => cases r; rfl
 | int i => obtain ⟨t, rfl⟩ := r; rfl
 | str z => obtain ⟨t, rfl⟩ := r; rfl
 | _ => exact absurd (show false = true from f) Bool.false_ne_true
theorem any_eqU {x : V} : ∀ {xs : List V} {us : List Value}, Vals xs us → xs.all flatV = true → us.any (eqU x) = xs.any fun y => eqV y x
 | _, _, .nil, _ => rfl
 | y :: xs, u :: us, .cons r t, f => by
  rw [List.all_cons, Bool.and_eq_true] at f
  rw [List.any_cons, List.any_cons, eqU_of r f.1, any_eqU t f.2]
theorem mem_eqAt {A : Around} {s : Shared} {x : V} {v : Value} (rx : RelV x v) (fx : flatV x = true) : ∀ {xs : List V} {us : List Value}, Vals xs us → xs.all flatV = true → ∀ u ∈ us, SeqAt.EqAt A s u v (eqU x u)
 | _, _, .nil, _ => fun u hu => by cases hu
 | y :: xs, u :: us, .cons r t, f => fun u' hu => by
  rw [List.all_cons, Bool.and_eq_true] at f
  rcases List.mem_cons.mp hu with rfl | hu
  ·rw [eqU_of r f.1]; exact eqAt_V r rx f.1 fx
  ·exact mem_eqAt rx fx t f.2 u' hu
noncomputable def inV (x : V) (xs : List V) : Bool := xs.any fun y => eqV y x
noncomputable def rIn (K : PySem.W.Frag) (neg : Bool) : R2 := fun x y H Q => ∃ p xs, y = .ref p ∧ (SqL K H p xs ∨ SqT K H p xs) ∧ flatV x = true ∧ xs.all flatV = true ∧ Q (.bl (if neg then !inV x xs else inV x xs)) H
theorem op_in_seq : OpR X (compareOp .In) (rIn X.K false) := by
 intro pins s σ H x y v u Q I rx ry h
 obtain ⟨p, xs, rfl, hq, fx, fs, q⟩ := h
 cases ry
 rcases hq with hq | hq
 ·obtain ⟨its, r, pl, hz⟩ := I.list hq
  refine SeqAt.in_listAt (eqU x) pl.isList (fun w hw => mem_eqAt rx fx r fs w (by simpa using hw)) ⟨.bl _, H, I, rfl, ?_⟩
  rw [show its.toArray.any (eqU x) = its.any (eqU x) by simp, any_eqU r fs]
  exact q
 ·obtain ⟨its, r, pl, hz⟩ := I.tuple hq
  refine SeqAt.in_tupleAt (eqU x) pl (fun w hw => mem_eqAt rx fx r fs w (by simpa using hw)) ⟨.bl _, H, I, rfl, ?_⟩
  rw [show its.toArray.any (eqU x) = its.any (eqU x) by simp, any_eqU r fs]
  exact q
theorem op_notIn_seq : OpR X (compareOp .NotIn) (rIn X.K true) := by
 intro pins s σ H x y v u Q I rx ry h
 obtain ⟨p, xs, rfl, hq, fx, fs, q⟩ := h
 cases ry
 rcases hq with hq | hq
 ·obtain ⟨its, r, pl, hz⟩ := I.list hq
  refine SeqAt.notIn_listAt (eqU x) pl.isList (fun w hw => mem_eqAt rx fx r fs w (by simpa using hw)) ⟨.bl _, H, I, rfl, ?_⟩
  rw [show its.toArray.any (eqU x) = its.any (eqU x) by simp, any_eqU r fs]
  exact q
 ·obtain ⟨its, r, pl, hz⟩ := I.tuple hq
  refine SeqAt.notIn_tupleAt (eqU x) pl (fun w hw => mem_eqAt rx fx r fs w (by simpa using hw)) ⟨.bl _, H, I, rfl, ?_⟩
  rw [show its.toArray.any (eqU x) = its.any (eqU x) by simp, any_eqU r fs]
  exact q
theorem call_len_seq : CallR X (.builtin "len") (fun xs H Q => ∃ p ys, xs = [.ref p] ∧ (SqL X.K H p ys ∨ SqT X.K H p ys) ∧ Q (.int ys.length) H) := by
 intro pins s σ H xs us Q I r h
 obtain ⟨p, ys, rfl, hq, q⟩ := h
 obtain ⟨u, rfl, rx⟩ := vals1 r
 cases rx
 have hn := line63
 rcases hq with hq | hq
 ·obtain ⟨its, r', pl, hz⟩ := I.list hq
  have hlen := r'.length
  exact Calls.call_len_list pl.isList (by simp only [List.size_toArray] <;> omega) ⟨.int ys.length, H, I.tok _, ⟨s.toks + 1, by rw [List.size_toArray, hlen]⟩, q⟩
 ·obtain ⟨its, r', pl, hz⟩ := I.tuple hq
  have hlen := r'.length
  exact len_tuple pl (by simp only [List.size_toArray] <;> omega) ⟨.int ys.length, H, I.tok _, ⟨s.toks + 1, by rw [List.size_toArray, hlen]⟩, q⟩
theorem call_list_of : CallR X (.type "list") (fun xs H Q => ∃ p ys, xs = [.ref p] ∧ (SqL X.K H p ys ∨ SqT X.K H p ys) ∧ ∀ l, H l = none → Q (.ref l) (upd H l (.lst ys))) := by
 intro pins s σ H xs us Q I r h
 obtain ⟨p, ys, rfl, hq, q⟩ := h
 obtain ⟨u, rfl, rx⟩ := vals1 r
 cases rx
 have fin : ∀ (its : List Value), Vals ys its → ys.length ≤ sizeLine → ∀ (h' : Heap) (c' : Nat), (∀ b o', s.heap.get? b = some o' → h'.get? b = some o') →
   h'.get? s.heap.objs.size = some { cls := .type "list", dict := none, data := .seq its.toArray c', slots := #[] } → EP X pins σ Q (.ref s.heap.objs.size) { s with heap := h' } := fun its r' hz h' c' kp e =>
  ⟨.ref s.heap.objs.size, _, I.laid (t' := s.toks) kp (Nat.le_refl _) (show ObjOk X.prog X.w _ h' _ (.lst ys) from ⟨hz, its, c', r', e⟩), rfl, q _ (I.hok.fresh (Nat.le_refl _))⟩
 rcases hq with hq | hq
 ·obtain ⟨its, r', pl, hz⟩ := I.list hq
  have hlen := r'.length
  obtain ⟨o, ho, hc, n, hd⟩ := pl.isList
  exact call_list_seq p (.inl rfl) ho hc hd (fun h' c' kp e => fin its r' hz h' c' kp e) (by simp only [List.size_toArray] <;> omega)
 ·obtain ⟨its, r', pl, hz⟩ := I.tuple hq
  have hlen := r'.length
  obtain ⟨o, ho, hc, n, hd⟩ := pl
  exact call_list_seq p (.inr rfl) ho hc hd (fun h' c' kp e => fin its r' hz h' c' kp e) (by simp only [List.size_toArray] <;> omega)
noncomputable def tyV (K : PySem.W.Frag) (T : String) (x : V) (H : Hp) : Prop := match x with
 | .str _ => T = "str"
 | .int _ => T = "int"
 | .ref p => (T = "list" ∧ ∃ xs, SqL K H p xs) ∨ (T = "tuple" ∧ ∃ o, K.lookup p = some o ∧ o.cls = .type "tuple" ∧ o.dict = none) ∨
   (T = "dict" ∧ ((∃ kvs, H p = some (.dK kvs)) ∨ ∃ kvs, H p = some (.dT kvs))) ∨ (T = "set" ∧ ∃ S n, H p = some (.set S n))
 | _ => False
theorem tyV_is {pins : List (Addr × Obj)} {σ : St} {H : Hp} {s : Shared} {T : String} {x : V} {v : Value} (I : Inv X pins σ H s) (r : RelV x v) (ty : tyV X.K T x H) :
  s.TypeIs v T ∧ ∀ a, v = .ref a → ∃ ob, s.heap.get? a = some ob ∧ ob.dict = none := by
 cases x with
 | str z =>
  obtain ⟨t, rfl⟩ := r
  cases (show T = "str" from ty)
  exact ⟨typeIs_str s z t, fun _ e => nomatch e⟩
 | int i =>
  obtain ⟨t, rfl⟩ := r
  cases (show T = "int" from ty)
  exact ⟨typeIs_int s i t, fun _ e => nomatch e⟩
 | ref p =>
  cases r
  rcases ty with ⟨rfl, xs, hq⟩ | ⟨rfl, o, hk, hc, hd⟩ | ⟨rfl, hk⟩ | ⟨rfl, S, n, hk⟩
  ·obtain ⟨its, _, pl, _⟩ := I.list hq
   refine ⟨pl.isList.typeIs, fun a e => ?_⟩
   cases e
   obtain ⟨o, n, e, c, hd, _⟩ := pl
   exact ⟨o, e, hd⟩
  ·refine ⟨⟨o, I.kIn p o hk, hc⟩, fun a e => ?_⟩
   cases e
   exact ⟨o, I.kIn _ o hk, hd⟩
  ·have z : ∃ o, s.heap.get? p = some o ∧ o.ExactDict := by
    rcases hk with ⟨kvs, hk⟩ | ⟨kvs, hk⟩
    ·obtain ⟨_, _, _, _, o, _, _, e, ex, _⟩ := I.hok p _ hk
     exact ⟨o, e, ex⟩
    ·obtain ⟨_, _, _, _, o, _, _, e, ex, _⟩ := I.hok p _ hk
     exact ⟨o, e, ex⟩
   obtain ⟨o, e, ex⟩ := z
   refine ⟨⟨o, e, ex.1⟩, fun a e2 => ?_⟩
   cases e2
   exact ⟨o, e, ex.2.1⟩
  ·obtain ⟨o, _, _, _, e, ex, _⟩ := I.hok p _ hk
   refine ⟨⟨o, e, ex.1⟩, fun a e2 => ?_⟩
   cases e2
   exact ⟨o, e, ex.2.1⟩
 | _ => exact False.elim ty
noncomputable def tBM (K : PySem.W.Frag) (T : String) (r : V → List V → Hp → VK → Prop) (to : TE) (t : TA) : TE := fun σ H Q => to σ H fun x H1 => tyV K T x H1 ∧ t σ H1 fun xs H2 => r x xs H2 Q
variable {o e : Expr} {es : List Expr} {to : TE} {t : TA} {name : Str} {apos cpos : Pos} {T id : String} {r : V → List V → Hp → VK → Prop}
theorem pe_bm (pa : PlainAttrs T) (slot : Slot T name id) (hty : typeOf (.builtin id) = pure (.type "method_descriptor")) (hm : MtR X id r) (ho : PE X o to) (ha : PA X (e :: es) t)
  (hbase : attributeBase o name X.env (eval o X.env) = eval o X.env := by rfl)
  (hfew : ((backTo cpos (starEach (e :: es) X.env)).all (fun x => !x.1) && (backToKw cpos (keywordEach [] X.env)).all (fun x => x.1.isSome)
   && decide ((e :: es).length + ([] : List Keyword).length + (if ([] : List Keyword).isEmpty then 0 else 1) < 30)) = true := by rfl)
  (hline : (apos.endLine == cpos.line) = true := by rfl) (hs : starEach (e :: es) X.env = (false, eval e X.env) :: starEach es X.env := by rfl) (hplain : (backTo cpos (starEach es X.env)).any (·.1) = false := by rfl) :
  PE X (.Call (.Attribute o name apos) (e :: es) [] cpos) (tBM X.K T r to t) := by
 intro pins s σ H Q I h
 refine wpAny_Call_method_late hbase hfew hline rfl (thn (ho pins s σ H _ I h) fun v s1 ⟨x, H1, I1, r1, ty, q1⟩ => ?_)
 obtain ⟨h1, h2⟩ := tyV_is I1 r1 ty
 refine ⟨T, id, pa, slot, hty, h1, h2, ?_⟩
 have hA := ha cpos pins s1 σ H1 _ I1 q1
 rw [hs] at hA ⊢
 refine Calls.callWith_builtin (by show (false || (backTo cpos (starEach es X.env)).any (·.1)) = false; rw [hplain] <;> rfl) (Calls.evalArgs_plain ?_)
 exact thn hA fun us s2 ⟨vs, H2, I2, r2, q2⟩ => hm pins s2 σ H2 x vs v us Q I2 r1 r2 q2
end
end L2
namespace L2
open PySem PySem.Spec PyProof.Rows
noncomputable def MtM (X : Cx) (id : String) (r : V → List V → Hp → VK → Prop) : Prop :=
 ∀ (pins : List (Addr × Obj)) (s : Shared) (σ : St) (H : Hp) (x : V) (xs : List V) (v : Value) (us : List Value) (Q : VK), Inv X pins σ H s → RelV x v → Vals xs us → r x xs H Q →
  wpAny (model X.prog X.w) X.A (call (.builtin id) (v :: us)) (EP X pins σ Q) X.xe s
theorem Vals.one : ∀ {x : V} {us : List Value}, Vals [x] us → ∃ u, us = [u] ∧ RelV x u
 | _, _, .cons r .nil => ⟨_, rfl, r⟩
theorem Vals.eraseIdx : ∀ {xs : List V} {us : List Value} (i : Nat), Vals xs us → Vals (xs.eraseIdx i) (us.eraseIdx i)
 | _, _, _, .nil => .nil
 | _, _, 0, .cons _ t => t
 | _, _, i + 1, .cons r t => .cons r (Vals.eraseIdx i t)
theorem len_erase {α : Type} : ∀ (l : List α) (i : Nat), (l.eraseIdx i).length ≤ l.length
 | [], _ => Nat.le_refl _
 | _ :: _, 0 => Nat.le_succ _
 | _ :: r, i + 1 => Nat.succ_le_succ (len_erase r i)
section
variable {X : Cx} {pins : List (Addr × Obj)} {σ : St} {H : Hp} {s : Shared} {l b : Addr} {xs ys zs : List V}
theorem Inv.lset {its its' : List Value} {n : Nat} {f : Array Value → Array Value} {t' : Nat} (I : Inv X pins σ H s) (hH : H l = some (.lst xs))
  (e : s.heap.get? l = some { cls := .type "list", data := .seq its.toArray n }) (hf : f its.toArray = its'.toArray) (hv : Vals ys its') (hz : ys.length ≤ sizeLine) :
  Inv X pins σ (upd H l (.lst ys)) { s with heap := s.heap.update l (Obj.mapSeq f), toks := t' } := by
 have q := PySem.IsL.update e f
 rw [hf] at q
 refine I.write (x := l) (e := l) (by rw [hH]; exact trivial) (.inl rfl) (fun b' u hb hu => (Heap.get?_update_other s.heap (Obj.mapSeq f) (Ne.symm hb)).trans hu) ⟨_, q⟩ ?_
 exact ⟨hz, its', _, hv, q⟩
theorem Inv.lnew {its : List Value} {t' : Nat} (I : Inv X pins σ H s) (hv : Vals ys its) (hz : ys.length ≤ sizeLine) :
  Inv X pins σ (upd H s.heap.objs.size (.lst ys)) { s with heap := s.heap.push { cls := .type "list", data := .seq its.toArray }, toks := t' } :=
 I.laid (fun _ _ q => Heap.get?_push_of_some _ q) (Nat.le_refl _) ⟨hz, its, 0, hv, Heap.get?_push_size _ rfl⟩
theorem Inv.fresh (I : Inv X pins σ H s) : H s.heap.objs.size = none := I.hok.fresh (Nat.le_refl _)
theorem Inv.lstM (I : Inv X pins σ H s) (hH : H l = some (.lst xs)) : xs.length ≤ sizeLine ∧ ∃ (its : List Value) (n : Nat), Vals xs its ∧ xs.length = its.length ∧ s.heap.get? l = some { cls := .type "list", data := .seq its.toArray n } := by
 obtain ⟨z, its, n, r, e⟩ := I.hok l _ hH
 exact ⟨z, its, n, r, r.length, e⟩
theorem notLongL {n : Nat} (h : n ≤ sizeLine) : Builtin.List.listTooLong n = false := by
 unfold Builtin.List.listTooLong
 exact decide_eq_false (by omega)
end
section
variable {X : Cx}
noncomputable def rAppend : V → List V → Hp → VK → Prop := fun x vs H Q => ∃ l xs y, x = .ref l ∧ vs = [y] ∧ H l = some (.lst xs) ∧ xs.length < sizeLine ∧ Q .non (upd H l (.lst (xs ++ [y])))
theorem mt_append : MtM X "list.append" rAppend := by
 intro pins s σ H x vs v us Q I rx rv h
 obtain ⟨l, xs, y, rfl, rfl, hH, hz, q⟩ := h
 cases rx
 obtain ⟨u, rfl, ru⟩ := rv.one
 obtain ⟨z, its, n, r, hl, e⟩ := I.lstM hH
 refine call_meets F.slot_list_append ⟨_, e, rfl⟩ F.entry_list_append (F.args_list_append_2 _ _) (PySem.list_append l its.toArray n u (by rw [List.size_toArray]; omega)) ⟨e, ?_⟩
 refine ⟨.non, _, I.lset (its' := its ++ [u]) hH e (by simp) (r.append (.cons ru .nil)) ?_, rfl, q⟩
 rw [List.length_append, List.length_singleton]
 omega
noncomputable def rExtend : V → List V → Hp → VK → Prop := fun x vs H Q => ∃ l b xs zs, x = .ref l ∧ vs = [.ref b] ∧ H l = some (.lst xs) ∧ H b = some (.lst zs) ∧ xs.length + zs.length ≤ sizeLine ∧ Q .non (upd H l (.lst (xs ++ zs)))
theorem mt_extend : MtM X "list.extend" rExtend := by
 intro pins s σ H x vs v us Q I rx rv h
 obtain ⟨l, b, xs, zs, rfl, rfl, hH, hB, hz, q⟩ := h
 cases rx
 obtain ⟨u, rfl, ru⟩ := rv.one
 cases ru
 obtain ⟨z, its, n, r, hl, e⟩ := I.lstM hH
 obtain ⟨z2, its2, n2, r2, hl2, e2⟩ := I.lstM hB
 have hsz : its.toArray.size + its2.toArray.size ≤ sizeLine := by rw [List.size_toArray, List.size_toArray]; omega
 have hlong : ¬ (!its.toArray.isEmpty && Builtin.List.listTooLong (its.toArray.size + its2.toArray.size)) = true := by
  rw [notLongL hsz, Bool.and_false]
  exact Bool.false_ne_true
 refine call_meets F.slot_list_extend ⟨_, e, rfl⟩ F.entry_list_extend (F.args_list_extend_2 _ _)
  (AutoSeq1.list_extend_list_list_0 l its.toArray n b its2.toArray n2 hlong (by rw [List.size_toArray]; omega) (by omega)) ⟨e, e2, ?_⟩
 refine ⟨.non, _, I.lset (its' := its ++ its2) hH e (by simp) (r.append r2) ?_, rfl, q⟩
 rw [List.length_append]
 omega
noncomputable def rPopAt : V → List V → Hp → VK → Prop := fun x vs H Q => ∃ l xs i k y, x = .ref l ∧ vs = [.int i] ∧ H l = some (.lst xs) ∧ -(2 ^ 63) ≤ i ∧ i < 2 ^ 63 ∧ seqIndex? i xs.length = some k ∧ xs[k]? = some y ∧ Q y (upd H l (.lst (xs.eraseIdx k)))
theorem mt_popAt : MtM X "list.pop" rPopAt := by
 intro pins s σ H x vs v us Q I rx rv h
 obtain ⟨l, xs, i, k, y, rfl, rfl, hH, h1, h2, hk, hy, q⟩ := h
 cases rx
 obtain ⟨u, rfl, ru⟩ := rv.one
 obtain ⟨t, rfl⟩ := ru
 obtain ⟨z, its, n, r, hl, e⟩ := I.lstM hH
 obtain ⟨w, hw, rw'⟩ := r.get hy
 refine call_meets F.slot_list_pop ⟨_, e, rfl⟩ F.entry_list_pop (F.args_list_pop_2 _ _)
  (MeetsSeq.list_pop_at l its.toArray n i t k w (fitsIndex_both h1 h2) (by rw [List.size_toArray, ← hl]; exact hk) (by rw [← Array.getElem?_toList]; exact hw) (by rw [List.size_toArray]; omega)) ⟨e, ?_⟩
 refine ⟨y, _, I.lset (its' := its.eraseIdx k) hH e ?_ (r.eraseIdx k) ?_, rw', q⟩
 ·show its.toArray.eraseIdxIfInBounds k = (its.eraseIdx k).toArray
  rw [List.eraseIdxIfInBounds_toArray]
 ·have := len_erase xs k
  omega
noncomputable def rCat : R2 := fun x y H Q => ∃ l b xs zs, x = .ref l ∧ y = .ref b ∧ H l = some (.lst xs) ∧ H b = some (.lst zs) ∧ xs.length + zs.length ≤ sizeLine ∧ ∀ p, H p = none → Q (.ref p) (upd H p (.lst (xs ++ zs)))
theorem op_cat : OpR X (binaryOp .Add) rCat := by
 intro pins s σ H x y v u Q I rx ry h
 obtain ⟨l, b, xs, zs, rfl, rfl, hH, hB, hz, q⟩ := h
 cases rx
 cases ry
 obtain ⟨z, its, n, r, hl, e⟩ := I.lstM hH
 obtain ⟨z2, its2, n2, r2, hl2, e2⟩ := I.lstM hB
 refine PySem.P.add_list e e2 ?_ (by rw [List.size_toArray, List.size_toArray]; omega)
 have ea : its.toArray ++ its2.toArray = (its ++ its2).toArray := by simp
 rw [ea]
 exact ⟨.ref _, _, I.lnew (t' := s.toks) (r.append r2) (by rw [List.length_append]; omega), rfl, q _ I.fresh⟩
end
section
variable {prog : Program} {w : World} {A : Around} {E : Value → Shared → Prop} {s : Shared}
end
section
variable {X : Cx}
end
end L2
namespace L2
open PySem PySem.Spec PyProof.Rows
theorem Vals.ints : ∀ {ns : List Int} {us : List Value}, Vals (ns.map V.int) us → IntsAre us ns
 | [], us, h => by
  rw [List.map_nil] at h
  cases h
  exact IntsAre.nil
 | n :: ns, us, h => by
  rw [List.map_cons] at h
  cases h with
  | cons r t =>
   obtain ⟨k, rfl⟩ := r
   exact IntsAre.cons n k (Vals.ints t)
theorem Vals.bls : ∀ {bs : List Bool} {us : List Value}, Vals (bs.map V.bl) us → us = bs.map Value.bool
 | [], us, h => by
  rw [List.map_nil] at h
  cases h
  rfl
 | b :: bs, us, h => by
  rw [List.map_cons] at h
  cases h with
  | cons r t =>
   cases r
   rw [Vals.bls t, List.map_cons]
theorem Vals.ref1 {a : Addr} {us : List Value} (r : Vals [V.ref a] us) : us = [Value.ref a] := by
 cases r with
 | cons r t =>
  cases t
  cases r
  rfl
section
variable {prog : Program} {w : World} {A : Around} {E : Value → Shared → Prop} {s : Shared} {l : Addr} {its : List Value} {ns : List Int} {Q : Value → Shared → Prop}
theorem sum_raw (hh : A.handled = none) (hl : s.heap.IsList l its.toArray) (hi : IntsAre its ns)
  (h : ∀ h' tk t', (∀ b o, s.heap.get? b = some o → h'.get? b = some o) → Q (.int ns.sum t') { s with heap := h', toks := tk }) : wpAny (model prog w) A (call (.builtin "sum") [.ref l]) Q E s := by
 obtain ⟨xs, e⟩ := hi.allInts.items
 have hn : numsOf (intItems xs).toList = ns := by rw [← e]; exact hi.numsOf
 rw [nums_intItems] at hn
 rw [e] at hl
 refine PySem.sum_intListG hh hl fun h' tk t' hk => ?_
 have := h h' tk t' hk
 rw [preSum_eq, List.take_of_length_le (by simp), hn]; exact this
end
section
variable {X : Cx}
noncomputable def rSum (K : PySem.W.Frag) : List V → Hp → VK → Prop := fun vs H Q => ∃ (a : Addr) (ns : List Int), vs = [V.ref a] ∧ SqL K H a (ns.map V.int) ∧ Q (.int ns.sum) H
theorem cr_sum (hc : X.calm = true) : CallR X (.builtin "sum") (rSum X.K) := by
 intro pins s σ H vs us Q I r h
 obtain ⟨a, ns, rfl, hs, q⟩ := h
 obtain ⟨its, rv, hl, _⟩ := I.list hs
 rw [Vals.ref1 r]
 exact sum_raw (I.ok.hd hc) hl.isList rv.ints fun h' tk t' hk => ⟨.int _, H, I.kept hk, ⟨_, rfl⟩, q⟩
end
section
variable {X : Cx}
end
section
variable {X : Cx}
end
theorem iter_any {prog : Program} {w : World} {A : Around} {E : Value → Shared → Prop} {s : Shared} {l : Addr} {items : Array Value} {Q : Value → Shared → Prop} (hl : s.heap.IsList l items)
  (h : ∀ s₂ : Shared, s₂ = { s with heap := s.heap.push { cls := .type "list_iterator", data := .fields #[.ref l, .int 0 0] } } →
   (s₂.heap.IsListIter s.heap.objs.size l 0 ∧ s₂.heap.IsList l items) → l ≠ s.heap.objs.size → Q (.ref s.heap.objs.size) s₂) : wpAny (model prog w) A (pyIter (.ref l)) Q E s := by
 have hlt : l < s.heap.objs.size := by obtain ⟨_, e, _⟩ := hl; exact Heap.lt_size e
 exact wpAny_pyIter_list hl (h _ rfl ⟨⟨_, Heap.get?_push_size _ rfl, rfl, rfl⟩, hl.push _⟩ (Nat.ne_of_lt hlt))
theorem truth_bools {prog : Program} {w : World} {A : Around} {bs : List Bool} {its : List Value} (e : its = bs.map Value.bool) :
  TruthOf prog w A (fun i v => its.toArray[i]? = some v) (fun i => bs.getD i false) := fun i v s Q E hv hq => by
 have hv' : its[i]? = some v := by simpa using hv
 rw [e, List.getElem?_map] at hv'
 obtain ⟨b, hb, rfl⟩ := Option.map_eq_some_iff.mp hv'
 have hg : bs.getD i false = b := by rw [List.getD_eq_getElem?_getD, hb] <;> rfl
 have hq' : Q (bs.getD i false) s := hq
 rw [hg] at hq'
 exact wpAny_truthy_bool hq'
theorem all_range : ∀ bs : List Bool, (List.range bs.length).all (fun i => bs.getD i false) = bs.all id
 | [] => rfl
 | b :: bs => by
  rw [List.length_cons, List.range_succ_eq_map, List.all_cons, List.all_map, List.all_cons, ← all_range bs]
  all_goals rfl
section
variable {X : Cx}
noncomputable def rAll (K : PySem.W.Frag) : List V → Hp → VK → Prop := fun vs H Q => ∃ (a : Addr) (bs : List Bool), vs = [V.ref a] ∧ SqL K H a (bs.map V.bl) ∧ Q (.bl (bs.all id)) H
theorem cr_all (hc : X.calm = true) : CallR X (.builtin "all") (rAll X.K) := by
 intro pins s σ H vs us Q I r h
 obtain ⟨a, bs, rfl, hs, q⟩ := h
 obtain ⟨its, rv, hl, _⟩ := I.list hs
 rw [Vals.ref1 r]
 have hb := rv.bls
 refine call_all_walk (iter_any hl.isList fun s₂ e2 st hne => ?_)
 subst e2
 refine ⟨_, _, _, _, _, _, _, rfl, Walks.list (A := X.A.in1) (I.ok.hd hc) _ a hne its.toArray, st, truth_bools hb, fun h' tk hk => ?_⟩
 refine ⟨.bl _, H, I.kept fun b o eo => hk b o (fun hmem => ?_) (Heap.get?_push_of_some _ eo), ?_, q⟩
 ·rcases List.mem_cons.mp hmem with e1 | hmem
  ·exact absurd (e1 ▸ Heap.lt_size eo) (Nat.lt_irrefl _)
  ·cases hmem
 ·show Value.bool _ = Value.bool _
  rw [← all_range, hb, List.size_toArray, List.length_map]
end
mutual
inductive Dp (K : PySem.W.Frag) (H : Hp) : V → PyData → Prop
 | non : Dp K H .non .none
 | bl (b : Bool) : Dp K H (.bl b) (.bool b)
 | int (i : Int) : Dp K H (.int i) (.int i)
 | str (x : Str) : Dp K H (.str x) (.str x)
 | lst {a : Addr} {xs : List V} {ds : List PyData} : SqL K H a xs → DpAll K H xs ds → Dp K H (.ref a) (.list ds)
 | tup {a : Addr} {xs : List V} {ds : List PyData} : SqT K H a xs → DpAll K H xs ds → Dp K H (.ref a) (.tuple ds)
inductive DpAll (K : PySem.W.Frag) (H : Hp) : List V → List PyData → Prop
 | nil : DpAll K H [] []
 | cons {v : V} {vs : List V} {d : PyData} {ds : List PyData} : Dp K H v d → DpAll K H vs ds → DpAll K H (v :: vs) (d :: ds)
end
section
variable {X : Cx} {pins : List (Addr × Obj)} {σ : St} {H : Hp} {s : Shared}
mutual
theorem Dp.reads (I : Inv X pins σ H s) : ∀ (d : PyData) (v : V) (u : Value), Dp X.K H v d → RelV v u → ∃ as, Reads s.heap u d as
 | .none, _, _, h, r => by
  cases h
  cases r
  exact ⟨_, Reads.none⟩
 | .bool b, _, _, h, r => by
  cases h
  cases r
  exact ⟨_, Reads.bool b⟩
 | .int i, _, _, h, r => by
  cases h
  obtain ⟨t, rfl⟩ := r
  exact ⟨_, Reads.int i t⟩
 | .str x, _, _, h, r => by
  cases h
  obtain ⟨t, rfl⟩ := r
  exact ⟨_, Reads.str x t⟩
 | .list ds, _, _, h, r => by
  cases h with
  | lst hs ha =>
   cases r
   obtain ⟨its, rv, ⟨o, n, ho, hc, _, hd⟩, _⟩ := I.list hs
   obtain ⟨as, hr⟩ := Dp.readsAll I ds _ its ha rv
   exact ⟨_, Reads.list ho hc hd hr⟩
 | .tuple ds, _, _, h, r => by
  cases h with
  | tup hs ha =>
   cases r
   obtain ⟨its, rv, ⟨o, ho, hc, n, hd⟩, _⟩ := I.tuple hs
   obtain ⟨as, hr⟩ := Dp.readsAll I ds _ its ha rv
   exact ⟨_, Reads.tuple ho hc hd hr⟩
 | .dict _, _, _, h, _ => by cases h
theorem Dp.readsAll (I : Inv X pins σ H s) : ∀ (ds : List PyData) (vs : List V) (us : List Value), DpAll X.K H vs ds → Vals vs us → ∃ as, ReadsAll s.heap us ds as
 | [], _, _, h, r => by
  cases h
  cases r
  exact ⟨_, ReadsAll.nil⟩
 | d :: ds, _, _, h, r => by
  cases h with
  | cons h1 h2 =>
   cases r with
   | cons r1 r2 =>
    obtain ⟨as, q1⟩ := Dp.reads I d _ _ h1 r1
    obtain ⟨bs, q2⟩ := Dp.readsAll I ds _ _ h2 r2
    exact ⟨_, ReadsAll.cons q1 q2⟩
end
end
section
variable {X : Cx}
noncomputable def rEqD (K : PySem.W.Frag) : R2 := fun x y H Q => ∃ d e, Dp K H x d ∧ Dp K H y e ∧ SeqAt.shaped d = true ∧ SeqAt.shaped e = true ∧ Q (.bl (PyData.eqv d e)) H
noncomputable def rNeD (K : PySem.W.Frag) : R2 := fun x y H Q => ∃ d e, Dp K H x d ∧ Dp K H y e ∧ SeqAt.shaped d = true ∧ SeqAt.shaped e = true ∧ Q (.bl (!PyData.eqv d e)) H
theorem op_eqD (hu : X.A.units + 64 < cLine) : OpR X (compareOp .Eq) (rEqD X.K) := by
 intro pins s σ H x y v u Q I rx ry h
 obtain ⟨d, e, hd, he, sd, se, q⟩ := h
 obtain ⟨as, r1⟩ := Dp.reads I d x v hd rx
 obtain ⟨bs, r2⟩ := Dp.reads I e y u he ry
 exact SeqAt.compareEq_shaped r1 r2 sd se hu ⟨.bl _, H, I, rfl, q⟩
theorem op_neD (hu : X.A.units + 64 < cLine) : OpR X (compareOp .NotEq) (rNeD X.K) := by
 intro pins s σ H x y v u Q I rx ry h
 obtain ⟨d, e, hd, he, sd, se, q⟩ := h
 obtain ⟨as, r1⟩ := Dp.reads I d x v hd rx
 obtain ⟨bs, r2⟩ := Dp.reads I e y u he ry
 exact SeqAt.compareNe_shaped r1 r2 sd se hu ⟨.bl _, H, I, rfl, q⟩
end
end L2
namespace L2
open PySem PySem.Spec PyProof.Rows
noncomputable abbrev CellAt (h : Heap) (c : Addr) (v : Option Value) : Prop := h.IsCell c v
noncomputable def relS (scope sc : Scope) : Scope :=
 { scope with names := scope.names.map fun (n, k) => if (k == .free && sc.kind == .function && sc.names.lookup n == some .cell) then (n, .cell) else (n, k) }
noncomputable def cloFrom (cells : List (Str × Addr)) : List (Str × NameKind) → List (Str × Addr) → List (Str × Addr)
 | [], acc => acc
 | (n, k) :: r, acc => if k == .free then cloFrom cells r ((n, (cells.lookup n).getD 0) :: acc) else cloFrom cells r acc
theorem closure_loop (env : Env) (f : Str × NameKind → List (Str × Addr) → Sem (ForInStep (List (Str × Addr))))
  (hf : ∀ n k c, f (n, k) c = if k == .free then (do let a ← cellOf env n; pure (.yield ((n, a) :: c))) else pure (.yield c)) :
  ∀ (names : List (Str × NameKind)) (acc : List (Str × Addr)), (∀ y ∈ names, y.2 = .free → ∃ c, env.cells.lookup y.1 = some c) → forIn names acc f = pure (cloFrom env.cells names acc)
 | [], acc, _ => by rw [List.forIn_nil]; rfl
 | (n, k) :: r, acc, h => by
  rw [List.forIn_cons, hf]
  have ih := fun acc => closure_loop env f hf r acc fun y hy => h y (List.mem_cons_of_mem _ hy)
  unfold cloFrom
  by_cases hk : (k == NameKind.free) = true
  ·rw [if_pos hk, if_pos hk]
   obtain ⟨c, hc⟩ := h (n, k) List.mem_cons_self (by simpa using hk)
   have e : cellOf env n = pure c := by unfold cellOf; rw [hc]
   rw [e]
   have e2 : (env.cells.lookup n).getD 0 = c := by rw [hc]; rfl
   rw [e2]
   exact ih _
  ·rw [if_neg hk, if_neg hk]
   exact ih _
theorem closure_ok {scope : Scope} {env : Env} (h : ∀ y ∈ scope.names, y.2 = .free → ∃ c, env.cells.lookup y.1 = some c) : closureFor scope env = pure (cloFrom env.cells scope.names []) := by
 simp only [closureFor]
 rw [closure_loop env _ (fun n k c => rfl) scope.names [] h]
 rfl
theorem mem_lookup {α : Type} : ∀ {l : List (Str × α)} {n : Str} {c : α}, (n, c) ∈ l → ∃ c', l.lookup n = some c'
 | (k, v) :: r, n, c, h => by
  rw [List.lookup_cons]
  cases hb : n == k with
  | true => exact ⟨_, rfl⟩
  | false =>
   rcases List.mem_cons.mp h with e | h
   ·cases e; simp at hb
   ·exact mem_lookup h
theorem cloFrom_mem {cells : List (Str × Addr)} : ∀ {names : List (Str × NameKind)} {acc : List (Str × Addr)} {n : Str} {c : Addr}, (n, c) ∈ cloFrom cells names acc → (n, c) ∈ acc ∨ ((n, .free) ∈ names ∧ c = (cells.lookup n).getD 0)
 | [], _, _, _, h => .inl h
 | (m, k) :: r, acc, n, c, h => by
  unfold cloFrom at h
  split at h
  ·rename_i hk
   have hk : k = .free := by simpa using hk
   rcases cloFrom_mem h with h | ⟨h1, h2⟩
   ·rcases List.mem_cons.mp h with e | h
    ·cases e; exact .inr ⟨hk ▸ List.mem_cons_self, rfl⟩
    ·exact .inl h
   ·exact .inr ⟨List.mem_cons_of_mem _ h1, h2⟩
  ·rcases cloFrom_mem h with h | ⟨h1, h2⟩
   ·exact .inl h
   ·exact .inr ⟨List.mem_cons_of_mem _ h1, h2⟩
theorem cloFrom_acc {cells : List (Str × Addr)} : ∀ {names : List (Str × NameKind)} {acc : List (Str × Addr)} {p : Str × Addr}, p ∈ acc → p ∈ cloFrom cells names acc
 | [], _, _, h => h
 | (m, k) :: r, acc, p, h => by
  unfold cloFrom
  split
  ·exact cloFrom_acc (List.mem_cons_of_mem _ h)
  ·exact cloFrom_acc h
theorem cloFrom_has {cells : List (Str × Addr)} : ∀ {names : List (Str × NameKind)} {acc : List (Str × Addr)} {n : Str}, (n, .free) ∈ names → (n, (cells.lookup n).getD 0) ∈ cloFrom cells names acc
 | (m, k) :: r, acc, n, h => by
  unfold cloFrom
  rcases List.mem_cons.mp h with e | h
  ·cases e
   exact cloFrom_acc List.mem_cons_self
  ·split
   ·exact cloFrom_has h
   ·exact cloFrom_has h
theorem cells_mem : ∀ {names : List (Str × NameKind)} {h : Heap} {acc : List (Str × Addr)} {x : Str} {c : Addr}, (x, c) ∈ cellsFrom h.objs.size names acc →
  (x, c) ∈ acc ∨ ((x, .cell) ∈ names ∧ h.objs.size ≤ c ∧ CellAt (pushCells h names) c none)
 | [], _, _, _, _, h => .inl h
 | (n, k) :: r, h, acc, x, c, hm => by
  unfold cellsFrom at hm
  unfold pushCells
  split at hm
  ·rename_i hk
   rw [if_pos hk]
   have hk : k = .cell := by simpa using hk
   rw [← Heap.size_push h { cls := .type "cell", data := .cell none }] at hm
   rcases cells_mem hm with hm | ⟨h1, h2, h3⟩
   ·rcases List.mem_cons.mp hm with e | hm
    ·cases e
     exact .inr ⟨hk ▸ List.mem_cons_self, Nat.le_refl _, _, pushCells_keeps r _ _ _ (Heap.get?_push_size _ rfl), rfl⟩
    ·exact .inl hm
   ·rw [Heap.size_push] at h2
    exact .inr ⟨List.mem_cons_of_mem _ h1, Nat.le_of_succ_le h2, h3⟩
  ·rename_i hk
   rw [if_neg hk]
   rcases cells_mem hm with hm | ⟨h1, h2, h3⟩
   ·exact .inl hm
   ·exact .inr ⟨List.mem_cons_of_mem _ h1, h2, h3⟩
theorem cells_acc : ∀ {names : List (Str × NameKind)} {n : Nat} {acc : List (Str × Addr)} {p : Str × Addr}, p ∈ acc → p ∈ cellsFrom n names acc
 | [], _, _, _, h => h
 | (m, k) :: r, n, acc, p, h => by
  unfold cellsFrom
  split
  ·exact cells_acc (List.mem_cons_of_mem _ h)
  ·exact cells_acc h
theorem cells_has : ∀ {names : List (Str × NameKind)} {n : Nat} {acc : List (Str × Addr)} {x : Str}, (x, .cell) ∈ names → ∃ c, (x, c) ∈ cellsFrom n names acc
 | (m, k) :: r, n, acc, x, h => by
  unfold cellsFrom
  rcases List.mem_cons.mp h with e | h
  ·cases e
   exact ⟨n, cells_acc List.mem_cons_self⟩
  ·split
   ·exact cells_has h
   ·exact cells_has h
theorem cells_inj : ∀ {names : List (Str × NameKind)} {h : Heap} {acc : List (Str × Addr)} {x y : Str} {c : Addr}, (∀ p ∈ acc, p.2 < h.objs.size) → (∀ x y c, (x, c) ∈ acc → (y, c) ∈ acc → x = y) →
  (x, c) ∈ cellsFrom h.objs.size names acc → (y, c) ∈ cellsFrom h.objs.size names acc → x = y
 | [], _, _, _, _, _, _, hi, h1, h2 => hi _ _ _ h1 h2
 | (n, k) :: r, h, acc, x, y, c, hl, hi, h1, h2 => by
  unfold cellsFrom at h1 h2
  split at h1
  ·rename_i hk
   rw [if_pos hk] at h2
   rw [← Heap.size_push h { cls := .type "cell", data := .cell none }] at h1 h2
   refine cells_inj (h := h.push _) (fun p hp => ?_) (fun x y c a b => ?_) h1 h2
   ·rw [Heap.size_push]
    rcases List.mem_cons.mp hp with rfl | hp
    ·exact Nat.lt_succ_self _
    ·exact Nat.lt_succ_of_lt (hl p hp)
   ·rcases List.mem_cons.mp a with e | a <;> rcases List.mem_cons.mp b with e' | b
    ·cases e; cases e'; rfl
    ·cases e; exact absurd (hl _ b) (Nat.lt_irrefl _)
    ·cases e'; exact absurd (hl _ a) (Nat.lt_irrefl _)
    ·exact hi _ _ _ a b
  ·rename_i hk
   rw [if_neg hk] at h2
   exact cells_inj hl hi h1 h2
theorem newEnv_comp {M : Model} {A : Around} {E : Value → Shared → Prop} {s : Shared} {scope : Scope} {globals : Addr} {closure : List (Str × Addr)} {qual : Str} {func : Option Addr} {code : Value} {around : Env} {builtins : Addr} {Q : Env → Shared → Prop}
  (h : Q (newEnv scope s.heap.objs.size globals (cellsFrom (s.heap.objs.size + 1) scope.names closure) qual func code (some around) builtins)
   { s with heap := pushCells (s.heap.push { cls := .type "dict", data := .dict #[] }) scope.names }) :
  wpAny M A (newFunctionEnv scope globals closure [] qual func code (some around) builtins) Q E s := by
 simp only [newFunctionEnv, Option.isSome_some, if_true]
 refine wpAny_bind (wpAny_alloc ?_)
 refine wpAny_bind (wpAny_layCells _ (fun n k c => rfl) scope.names closure _ _ ?_)
 rw [show ({ s with heap := s.heap.push { cls := .type "dict", data := .dict #[] } } : Shared).heap.objs.size = s.heap.objs.size + 1 from Heap.size_push ..]
 rw [List.forIn_nil]
 exact wpAny_bind (wpAny_pure (wpAny_pure h))
theorem lookup_relS {sc : Scope} : ∀ {names : List (Str × NameKind)} {x : Str} {k : NameKind},
  (names.map fun (n, k) => if (k == NameKind.free && sc.kind == .function && sc.names.lookup n == some .cell) then (n, NameKind.cell) else (n, k)).lookup x = some k →
  ∃ k', names.lookup x = some k' ∧ (k = k' ∨ (k' = .free ∧ k = .cell))
 | [], _, _, h => by simp at h
 | (n, k₀) :: r, x, k, h => by
  have ih := @lookup_relS sc r x k
  have h' : List.lookup x ((if (k₀ == NameKind.free && sc.kind == .function && sc.names.lookup n == some .cell) = true then (n, NameKind.cell) else (n, k₀)) :: (r.map _)) = some k := h
  cases hx : x == n with
  | true =>
   simp only [List.lookup_cons, hx]
   by_cases hc : (k₀ == NameKind.free && sc.kind == .function && sc.names.lookup n == some .cell) = true
   ·rw [if_pos hc] at h'
    simp only [List.lookup_cons, hx] at h'
    cases h'
    simp only [Bool.and_eq_true, beq_iff_eq] at hc
    exact ⟨k₀, rfl, .inr ⟨hc.1.1, rfl⟩⟩
   ·rw [if_neg hc] at h'
    simp only [List.lookup_cons, hx] at h'
    cases h'
    exact ⟨_, rfl, .inl rfl⟩
  | false =>
   simp only [List.lookup_cons, hx]
   by_cases hc : (k₀ == NameKind.free && sc.kind == .function && sc.names.lookup n == some .cell) = true
   ·rw [if_pos hc] at h'
    simp only [List.lookup_cons, hx] at h'
    exact ih h'
   ·rw [if_neg hc] at h'
    simp only [List.lookup_cons, hx] at h'
    exact ih h'
structure BlkOk (N : List Str) (sc scope : Scope) (own : List (Str × Nat)) : Prop where
 kind : scope.kind = .function
 uniq : ∀ y ∈ scope.names, scope.names.lookup y.1 = some y.2
 ix : ∀ p ∈ own, N[p.2]? = some p.1
 free : ∀ y ∈ scope.names, y.2 = .free → sc.names.lookup y.1 = some .cell ∨ sc.names.lookup y.1 = some .free
 own : ∀ y ∈ scope.names, y.2 = .local ∨ y.2 = .cell → y.1 ∈ own.map (·.1) ∨ y.1 ∉ N
noncomputable def wipe (σ : St) : List Nat → St
 | [] => σ
 | v :: vs => (wipe σ vs).set v none
theorem wipe_length (σ : St) : ∀ vs : List Nat, (wipe σ vs).length = σ.length
 | [] => rfl
 | v :: vs => by unfold wipe; rw [List.length_set, wipe_length σ vs]
theorem wipe_some {σ : St} {i : Nat} {x : V} : ∀ {vs : List Nat}, (wipe σ vs)[i]? = some (some x) → σ[i]? = some (some x) ∧ i ∉ vs
 | [], h => ⟨h, by simp⟩
 | v :: vs, h => by
  unfold wipe at h
  by_cases hi : v = i
  ·subst hi
   by_cases hv : v < (wipe σ vs).length
   ·rw [List.getElem?_set_self hv] at h; cases h
   ·rw [List.getElem?_eq_none (by simpa using hv)] at h; cases h
  ·rw [List.getElem?_set_ne hi] at h
   obtain ⟨h1, h2⟩ := wipe_some h
   exact ⟨h1, by simp only [List.mem_cons, not_or]; exact ⟨fun e => hi e.symm, h2⟩⟩
noncomputable abbrev Cx.blk (X : Cx) (s : Shared) (H : Hp) (scope : Scope) (cenv : Env) (fp : List Addr) : Cx := { X with s_0 := s, H_0 := H, env := cenv, outer := X.stack, ex := fp, fn := fun x => scope.names.lookup x == some .cell, pn := [], xe := fun _ _ => False }
section
variable {X : Cx} {pins : List (Addr × Obj)} {σ : St} {H : Hp} {s : Shared}
theorem block_start {scope : Scope} {own : List (Str × Nat)} {fp : List Addr} (I : Inv X pins σ H s) (ok : BlkOk X.N X.env.scope scope own) (hN : X.N.Nodup) (hfp : ∀ b ∈ fp, FpOk X pins H b ∧ b < s.heap.objs.size) :
  Inv (X.blk s H scope (compEnvC scope (cellsFrom (s.heap.objs.size + 1) scope.names (cloFrom X.env.cells scope.names [])) s.heap.objs.size X.env) fp) [] (wipe σ (own.map (·.2))) H { s with heap := pushCells (s.heap.push { cls := .type "dict", data := .dict #[] }) scope.names } := by
 have hfree : ∀ y ∈ scope.names, y.2 = .free → ∃ c, X.env.cells.lookup y.1 = some c := fun y hy e => by
  rcases ok.free y hy e with k | k
  ·exact I.ok.has _ (.inl k)
  ·exact I.ok.has _ (.inr k)
 generalize hcenv : compEnvC scope (cellsFrom (s.heap.objs.size + 1) scope.names (cloFrom X.env.cells scope.names [])) s.heap.objs.size X.env = cenv
 have kp : ∀ b o, s.heap.get? b = some o → (pushCells (s.heap.push { cls := .type "dict", data := .dict #[] }) scope.names).get? b = some o := fun b o e => pushCells_keeps _ _ _ _ (Heap.get?_push_of_some _ e)
 have hL : cenv.locals = s.heap.objs.size := by rw [← hcenv]; rfl
 have hcl : cenv.cells = cellsFrom (s.heap.objs.size + 1) scope.names (cloFrom X.env.cells scope.names []) := by rw [← hcenv]; rfl
 have hsc : cenv.scope = relS scope X.env.scope := by rw [← hcenv]; rfl
 rw [← Heap.size_push s.heap { cls := .type "dict", data := .dict #[] }] at hcl
 have cm : ∀ {y c}, (y, c) ∈ cloFrom X.env.cells scope.names [] → X.env.cells.lookup y = some c ∧ c < s.heap.objs.size := fun {y c} hm => by
  rcases cloFrom_mem hm with hm | ⟨h1, rfl⟩
  ·cases hm
  ·obtain ⟨c, hc⟩ := hfree _ h1 rfl
   rw [hc]
   obtain ⟨w, z⟩ := I.cell _ _ hc
   exact ⟨rfl, z.lt⟩
 have mem : ∀ {y c}, cenv.cells.lookup y = some c → (X.env.cells.lookup y = some c ∧ c < s.heap.objs.size) ∨ (s.heap.objs.size + 1 ≤ c ∧ CellAt (pushCells (s.heap.push { cls := .type "dict", data := .dict #[] }) scope.names) c none) := fun {y c} e => by
  rw [hcl] at e
  rcases cells_mem (PySem.mem_of_lookup e) with hm | ⟨_, h2, h3⟩
  ·exact .inl (cm hm)
  ·rw [Heap.size_push] at h2; exact .inr ⟨h2, h3⟩
 have look : ∀ {y}, scope.names.lookup y = some .free → ∃ c, cenv.cells.lookup y = some c ∧ X.env.cells.lookup y = some c := fun {y} hl => by
  have hy : (y, NameKind.free) ∈ scope.names := PySem.mem_of_lookup hl
  obtain ⟨c', e'⟩ := mem_lookup (cells_acc (names := scope.names) (n := (s.heap.push { cls := .type "dict", data := .dict #[] }).objs.size) (cloFrom_has (cells := X.env.cells) (acc := []) hy))
  rw [← hcl] at e'
  refine ⟨c', e', ?_⟩
  rw [hcl] at e'
  rcases cells_mem (PySem.mem_of_lookup e') with hm | ⟨h1, _, _⟩
  ·exact (cm hm).1
  ·have := ok.uniq _ h1
   rw [hl] at this; cases this
 have okB : (X.blk s H scope cenv fp).Ok := by
  refine ⟨I.ok.mod, by show cenv.scope.kind = _; rw [hsc]; exact ok.kind, by show cenv.globals = _; rw [← hcenv]; exact I.ok.glob, by show cenv.builtins = _; rw [← hcenv]; exact I.ok.blt, by show s.heap.objs.size ≤ cenv.locals; rw [hL]; exact Nat.le_refl _,
   fun y z c e1 e2 => ?_, fun y hy => ?_, fun y c z e => ?_, I.ok.hd, I.ok.frames, .inl rfl, fun b hb => ⟨?_, fun y c e z => ?_⟩, I.bs, Nat.le_trans I.ok.bsz I.sz, fun b o e hb => ?_, fun b hb z => ?_, I.stack, I.stkFree⟩
  ·have e1 : cenv.cells.lookup y = some c := e1
   have e2 : cenv.cells.lookup z = some c := e2
   rw [hcl] at e1 e2
   refine cells_inj (fun p hp => ?_) (fun y z c a b => I.ok.inj y z c (cm a).1 (cm b).1) (PySem.mem_of_lookup e1) (PySem.mem_of_lookup e2)
   rw [Heap.size_push]
   exact Nat.lt_succ_of_lt (cm (y := p.1) (c := p.2) hp).2
  ·show ∃ c, cenv.cells.lookup y = some c
   have key : ∀ k, cenv.kindOf y = some k → (k = .cell ∨ k = .free) → ∃ c, cenv.cells.lookup y = some c := fun k hk hk' => by
    unfold Env.kindOf at hk
    rw [hsc] at hk
    obtain ⟨k', e, r⟩ := lookup_relS hk
    have : k' = .cell ∨ k' = .free := by
     rcases r with rfl | ⟨rfl, _⟩
     ·exact hk'
     ·exact .inr rfl
    rcases this with rfl | rfl
    ·obtain ⟨c, hm⟩ := cells_has (n := (s.heap.push { cls := .type "dict", data := .dict #[] }).objs.size) (acc := cloFrom X.env.cells scope.names []) (PySem.mem_of_lookup e)
     obtain ⟨c', e'⟩ := mem_lookup hm
     exact ⟨c', by rw [hcl]; exact e'⟩
    ·obtain ⟨c, h1, _⟩ := look e
     exact ⟨c, h1⟩
   rcases hy with hy | hy
   ·exact key _ hy (.inl rfl)
   ·exact key _ hy (.inr rfl)
  ·have z : (scope.names.lookup y == some NameKind.cell) = true := z
   have z : scope.names.lookup y = some .cell := by simpa using z
   have e : cenv.cells.lookup y = some c := e
   rw [hcl] at e
   rcases cells_mem (PySem.mem_of_lookup e) with hm | ⟨_, h2, _⟩
   ·rcases cloFrom_mem hm with hm | ⟨h1, _⟩
    ·cases hm
    ·have q := ok.uniq _ h1
     rw [z] at q; cases q
   ·rw [Heap.size_push] at h2
    exact Nat.le_of_succ_le h2
  ·show b ≠ cenv.locals
   rw [hL]; exact Nat.ne_of_lt (hfp b hb).2
  ·have e : cenv.cells.lookup y = some c := e
   rcases mem e with ⟨h1, _⟩ | ⟨h1, _⟩
   ·exact (hfp b hb).1.2.2.2.2.1 y c h1 z
   ·have h2 : s.heap.objs.size + 1 ≤ b := by rw [← z]; exact h1
    exact absurd (Nat.lt_of_lt_of_le (hfp b hb).2 (Nat.le_of_succ_le h2)) (Nat.lt_irrefl _)
  ·rcases (hfp b hb).1.2.2.2.1 with z | z
   ·exact I.ok.noex b o e z
   ·exact absurd (Nat.lt_of_lt_of_le (Heap.lt_size e) (Nat.le_trans I.ok.bsz z)) (Nat.lt_irrefl _)
  ·rcases List.mem_cons.mp (I.stkSub b z) with z | z
   ·exact (hfp b hb).1.2.1 z
   ·exact (hfp b hb).1.2.2.1 z
 refine ⟨okB, rfl, I.bare, Un.kept kp, ⟨fun _ => none, ?_, fun i y av e1 e2 e3 => ?_⟩, fun y c e => ?_, ?_, fun y c e => ?_, fun p hp => ?_, I.hok.kept kp, by rw [wipe_length]; exact I.len⟩
 ·show Heap.Ns _ cenv.locals _
  rw [hL]
  exact Heap.Ns.keeps (Heap.Ns.new ..) fun b o e => pushCells_keeps _ _ _ _ e
 ·obtain ⟨e2, hne⟩ := wipe_some e2
  have hfr : scope.names.lookup y = some .free ∧ (cenv.kindOf y = some .cell ∨ cenv.kindOf y = some .free) := by
   have key : ∀ k, cenv.scope.names.lookup y = some k → k = .local ∨ k = .cell ∨ k = .free → scope.names.lookup y = some .free ∧ (cenv.kindOf y = some .cell ∨ cenv.kindOf y = some .free) := fun k hk hk' => by
    have hk0 := hk
    rw [hsc] at hk
    obtain ⟨k', e, r⟩ := lookup_relS hk
    have no : ¬ (k' = .local ∨ k' = .cell) := fun hh => by
     rcases ok.own _ (PySem.mem_of_lookup e) hh with e' | e'
     ·obtain ⟨p, hp, hpy⟩ := List.mem_map.mp e'
      have e3 := ok.ix p hp
      have : p.1 = y := hpy
      rw [this] at e3
      exact hne (List.mem_map.mpr ⟨p, hp, nodup_ix hN e3 e1⟩)
     ·exact e' (List.mem_of_getElem? e1)
    rcases r with rfl | ⟨rfl, rfl⟩
    ·rcases hk' with rfl | rfl | rfl
     ·exact absurd (.inl rfl) no
     ·exact absurd (.inr rfl) no
     ·exact ⟨e, .inr hk0⟩
    ·exact ⟨e, .inl hk0⟩
   have e3 : Vis cenv.scope y := e3
   rcases e3 with e3 | e3 | e3
   ·exact key _ e3 (.inl rfl)
   ·exact key _ e3 (.inr (.inl rfl))
   ·exact key _ e3 (.inr (.inr rfl))
  obtain ⟨m, hn, hl⟩ := I.loc
  have hvis : Vis X.env.scope y := (ok.free _ (PySem.mem_of_lookup hfr.1) rfl).elim (fun k => .inr (.inl k)) (fun k => .inr (.inr k))
  obtain ⟨w, r, q⟩ := hl i y av e1 e2 hvis
  refine ⟨w, r, .inr ⟨hfr.2, ?_⟩⟩
  obtain ⟨c, h1, h2⟩ := look hfr.1
  rcases q with ⟨k, _⟩ | ⟨_, c', e', z⟩
  ·have k : X.env.scope.names.lookup y = some .local := k
   rcases ok.free _ (PySem.mem_of_lookup hfr.1) rfl with k' | k' <;> rw [show X.env.scope.names.lookup y = _ from k'] at k <;> cases k
  ·rw [h2] at e'; cases e'
   exact ⟨c, h1, z.keeps kp⟩
 ·have e : cenv.cells.lookup y = some c := e
  rcases mem e with ⟨h1, _⟩ | ⟨_, z⟩
  ·obtain ⟨w, z⟩ := I.cell y c h1
   exact ⟨w, z.keeps kp⟩
  ·exact ⟨_, z⟩
 ·show H cenv.locals = none
  rw [hL]; exact I.hok.fresh (Nat.le_refl _)
 ·have e : cenv.cells.lookup y = some c := e
  rcases mem e with ⟨h1, _⟩ | ⟨h1, _⟩
  ·exact I.freeC y c h1
  ·exact I.hok.fresh (Nat.le_of_succ_le h1)
 ·exact absurd (show p ∈ ([] : List (Addr × Obj)) ++ [] from hp) (by simp)
theorem app_ok {E : Value → Shared → Prop} {D : Addr} {xs : List V} {y : V} {v : Value} {Q : Value → Shared → Prop} (I : Inv X pins σ H s) (hD : H D = some (.lst xs)) (hz : xs.length < sizeLine) (r : RelV y v)
  (h : ∀ s', Inv X pins σ (upd H D (.lst (xs ++ [y]))) s' → Q .none s') : wpAny (model X.prog X.w) X.A (call (.builtin "list.append") [.ref D, v]) Q E s := by
 obtain ⟨hz', its, n, ri, e⟩ := I.hok D _ hD
 have hl := ri.length
 refine append_at (hsz := by rw [List.size_toArray]; omega) e fun h' sb ho' => ?_
 refine h { s with heap := h' } (I.write (t' := s.toks) (by rw [hD]; trivial) (.inl rfl) (fun b u hb q => (sb.2 b hb).trans q) ⟨_, ho'⟩ ⟨by rw [List.length_append]; exact hz, its ++ [v], n + 1, ri.append (.cons r .nil), ?_⟩)
 rw [ho']
 simp
noncomputable def PTs (X : Cx) (ifs : List Expr) (t : TT) : Prop :=
 ∀ (pins : List (Addr × Obj)) (s : Shared) (σ : St) (H : Hp) (Q : Bool → Hp → Prop), Inv X pins σ H s → t σ H Q →
  wpAny (model X.prog X.w) X.A (forIn ifs true fun c r => if r = true then do let ok ← isTrue c X.env (eval c X.env); pure (ForInStep.yield ok) else pure (ForInStep.yield r)) (TP X pins σ Q) X.xe s
noncomputable def tYes : TT := fun _ H Q => Q true H
theorem pts_nil : PTs X [] tYes := fun _ _ _ H _ I h => wpAny_tests_nil ⟨H, I, h⟩
theorem pts_one {c : Expr} {t : TT} (h : PT X c t) : PTs X [c] t := fun pins s σ H Q I hw => wpAny_tests_one (h pins s σ H Q I hw)
end
theorem thnF {α : Type} {t : Sem α} {Q Q' : α → Shared → Prop} {M : Model} {A : Around} {E : Value → Shared → Prop} {s : Shared} (h : wpAny M A t Q (fun _ _ => False) s) (hQ : ∀ a s, Q a s → Q' a s) : wpAny M A t Q' E s := wpAny_mono h hQ fun _ _ z => False.elim z
theorem compLoop_any {prog : Program} {w : World} {A : Around} {R : Result → Shared → Prop} {s : Shared} {elt target iter : Expr} {ifs : List Expr} {scope : Scope} {pos : Pos} {it acc : Value} {env : Env} (I : Nat → Shared → Prop)
  (turn : ∀ n s, I n s → wpAny (model prog w) A (pyNext it) (fun r s₁ => match r with
   | none => R (.ok .next) s₁
   | some v => wpAny (model prog w) A (letOwnedTupleGo target it v) (fun _ s₁' => wpAny (model prog w) A (assign target env v) (fun _ s₂ =>
     wpAny (model prog w) A (forIn ifs true fun c r => if r = true then do let ok ← isTrue c env (eval c env); pure (ForInStep.yield ok) else pure (ForInStep.yield r)) (fun ok s₃ =>
      if ok = true then wpAny (model prog w) A (eval elt env) (fun x s₄ =>
       wpAny (model prog w) A (call (.builtin "list.append") [acc, x]) (fun _ s₅ => ∃ m, m < n ∧ I m s₅) (notedBy (model prog w) A env fun e s' => R (.error e) s') s₄) (notedBy (model prog w) A env fun e s' => R (.error e) s') s₃
      else ∃ m, m < n ∧ I m s₃) (notedBy (model prog w) A env fun e s' => R (.error e) s') s₂) (notedBy (model prog w) A env fun e s' => R (.error e) s') s₁') (notedBy (model prog w) A env fun e s' => R (.error e) s') s₁) (notedBy (model prog w) A env fun e s' => R (.error e) s') s)
  (n : Nat) (h : I n s) :
  codeAny (model prog w) A (.compLoop (.ListComp elt [⟨target, iter, ifs, 0⟩] scope pos) 0 it acc env) R s := by
 refine codeAny_loop rfl I (fun n s hI => ?_) n h
 show wpAny _ A ((compTurn (.ListComp elt [⟨target, iter, ifs, 0⟩] scope pos) 0 it acc env).onRaise (fun x => do noteFrame x env; theTreesLotGoes x)) _ _ s
 refine wpAny_noted ?_
 rw [compTurn_list]
 refine wpAny_bind (wpAny_standAt (wpAny_bind (wpAny_mono (turn n s hI) (fun r s₁ h₁ => ?_) fun _ _ h' => h')))
 cases r with
 | none => exact wpAny_pure h₁
 | some v =>
  refine wpAny_bind (wpAny_mono h₁ (fun _ s₁' h₁' => ?_) fun _ _ h' => h')
  refine wpAny_bind (wpAny_mono h₁' (fun _ s₂ h₂ => wpAny_bind (wpAny_mono h₂ (fun ok s₃ h₃ => ?_) fun _ _ h' => h')) fun _ _ h' => h')
  cases ok with
  | false => exact wpAny_pure ⟨rfl, h₃⟩
  | true =>
   exact wpAny_bind (wpAny_bind (wpAny_mono h₃ (fun x s₄ h₄ => wpAny_bind (wpAny_mono h₄ (fun _ s₅ h₅ => wpAny_pure (wpAny_pure ⟨rfl, h₅⟩)) fun _ _ h' => h')) fun _ _ h' => h'))
section
variable {X : Cx}
noncomputable def tLc (wi : TI) (g : TG) (tt : TT) (te : TE) (vs : List Nat) : TE := fun σ H Q => wi σ H fun J H1 => ∀ D, H1 D = none → ∃ W : Nat → Nat → Hp → Prop, (∃ m, W 0 m (upd H1 D (.lst []))) ∧ ∀ i m H, W i m H →
 (J.stop i H ∧ Q (.ref D) H) ∨ (J.go i H ∧ ∃ Nx : Hp → Prop, (∀ H', Nx H' → ∃ m', m' < m ∧ W (i + 1) m' H') ∧ ∀ x H', J.yld i H x H' → g x (wipe σ vs) H' fun σ2 H2 => wipe σ2 vs = wipe σ vs ∧ tt σ2 H2 fun b H3 =>
  if b = true then te σ2 H3 fun y H4 => ∃ acc, H4 D = some (.lst acc) ∧ acc.length < sizeLine ∧ Nx (upd H4 D (.lst (acc ++ [y]))) else Nx H3)
theorem lc_core {pins : List (Addr × Obj)} {s : Shared} {σ : St} {H : Hp} {Q : VK} {elt tg iter : Expr} {ifs : List Expr} {scope : Scope} {own : List (Str × Nat)} {pos pos' : Pos} {wi : TI} {g : TG} {tt : TT} {te : TE} {use : Option (Value → Sem Unit)} {Qf : Value → Shared → Prop}
  (hc : X.calm = true) (hN : X.N.Nodup) (I : Inv X pins σ H s) (hi : PI X tg iter wi) (ok : BlkOk X.N X.env.scope scope own)
  (hg : ∀ (s : Shared) (H : Hp) (C : Addr) (cl : List (Str × Addr)) (fp : List Addr), PG (X.blk s H scope (compEnvC scope cl C X.env) fp) tg g) (ht : ∀ (s : Shared) (H : Hp) (C : Addr) (cl : List (Str × Addr)) (fp : List Addr), PTs (X.blk s H scope (compEnvC scope cl C X.env) fp) ifs tt)
  (he : ∀ (s : Shared) (H : Hp) (C : Addr) (cl : List (Str × Addr)) (fp : List Addr), PE (X.blk s H scope (compEnvC scope cl C X.env) fp) elt te) (hs : ∀ x, foldedSetIterable iter X.env x = pure x)
  (h : tLc wi g tt te (own.map (·.2)) σ H Q)
  (hRR : ∀ D C s' m H', Inv X pins σ H' s' → Q (.ref D) H' → s'.heap.Ns C m → FpOk X pins H' C → compPost (model X.prog X.w) X.A X.xe use Qf (.ref D) C (.ok .next) s') :
  wpAny (model X.prog X.w) X.A (comprehension (.ListComp elt [⟨tg, iter, ifs, 0⟩] scope pos) scope X.env pos' (newList []) false (eval iter X.env) use) Qf X.xe s := by
 have hfree : ∀ y ∈ scope.names, y.2 = .free → ∃ c, X.env.cells.lookup y.1 = some c := fun y hy e => by
  rcases ok.free y hy e with k | k
  ·exact I.ok.has _ (.inl k)
  ·exact I.ok.has _ (.inr k)
 refine wpAny_comprehension_free (use := use) rfl hs (closure_ok hfree) ok.kind (fun y hy e => by rw [ok.uniq y hy, e])
  (thn (hi pins s σ H _ I h) fun xv s1 hx => thn hx fun itv s2 h2 => ?_)
 obtain ⟨it, fp, tn, J, H2, e, I2, T, st2, f2, q⟩ := h2
 subst e
 refine wpAny_newObj_type (newEnv_comp ?_) (by show 0 ≤ sizeLine; decide)
 generalize hD : s2.heap.objs.size = D
 have hDn : H2 D = none := I2.hok.fresh (Nat.le_of_eq hD)
 obtain ⟨W, ⟨m0, w0⟩, turn⟩ := q D hDn
 generalize hs3 : ({ s2 with heap := s2.heap.push { cls := .type "list", data := .seq ([] : List Value).toArray } } : Shared) = s3
 have I3 : Inv X pins σ (upd H2 D (.lst [])) s3 := by
  rw [← hs3]
  refine I2.laid (t' := s2.toks) (fun b o e => Heap.get?_push_of_some _ e) (Nat.le_of_eq hD) ⟨Nat.zero_le _, [], 0, .nil, ?_⟩
  rw [← hD]
  exact Heap.get?_push_size _ rfl
 have h3 : s3.heap = s2.heap.push { cls := .type "list", data := .seq ([] : List Value).toArray } := by rw [← hs3]
 have sz : ∀ b ∈ fp, b < s2.heap.objs.size := fun b hb => by
  obtain ⟨o, e, _⟩ := T.obj _ _ st2 b hb
  exact Heap.lt_size e
 have f3 : ∀ b ∈ fp, FpOk X pins (upd H2 D (.lst [])) b ∧ b < s3.heap.objs.size := fun b hb => by
  have hlt := sz b hb
  refine ⟨⟨?_, (f2 b hb).2⟩, by rw [h3, Heap.size_push]; exact Nat.lt_succ_of_lt hlt⟩
  rw [upd_ne (by rw [← hD]; exact Nat.ne_of_lt hlt)]
  exact (f2 b hb).1
 have st3 : tn 0 s3.heap := T.keep _ _ _ st2 fun b _ o e => by rw [h3]; exact Heap.get?_push_of_some _ e
 have I4 := block_start I3 ok hN f3
 have pg := hg s3 (upd H2 D (.lst [])) s3.heap.objs.size (cellsFrom (s3.heap.objs.size + 1) scope.names (cloFrom X.env.cells scope.names [])) fp
 have pt := ht s3 (upd H2 D (.lst [])) s3.heap.objs.size (cellsFrom (s3.heap.objs.size + 1) scope.names (cloFrom X.env.cells scope.names [])) fp
 have pe := he s3 (upd H2 D (.lst [])) s3.heap.objs.size (cellsFrom (s3.heap.objs.size + 1) scope.names (cloFrom X.env.cells scope.names [])) fp
 show codeAny _ _ (.compStart (.ListComp elt [⟨tg, iter, ifs, 0⟩] scope pos) 0 (.ref it) (.ref D) (compEnvC scope (cellsFrom (s3.heap.objs.size + 1) scope.names (cloFrom X.env.cells scope.names [])) s3.heap.objs.size X.env)) (compPost (model X.prog X.w) X.A X.xe use Qf (.ref D) s3.heap.objs.size) { s3 with heap := pushCells (s3.heap.push { cls := .type "dict", data := .dict #[] }) scope.names }
 have nfp : ∀ b ∈ fp, (upd H2 D (.lst [])) b = none := fun b hb => (f3 b hb).1.1
 generalize hce : compEnvC scope (cellsFrom (s3.heap.objs.size + 1) scope.names (cloFrom X.env.cells scope.names [])) s3.heap.objs.size X.env = ce at I4 pg pt pe ⊢
 have cL : ce.locals = s3.heap.objs.size := by subst hce; rfl
 generalize hH3 : upd H2 D (.lst []) = H3 at I3 I4 pg pt pe w0 nfp f3
 generalize hs4 : ({ s3 with heap := pushCells (s3.heap.push { cls := .type "dict", data := .dict #[] }) scope.names } : Shared) = s4 at I4 ⊢
 have st4 : tn 0 s4.heap := T.keep _ _ _ st3 fun b _ o e => by rw [← hs4]; exact pushCells_keeps _ _ _ _ (Heap.get?_push_of_some _ e)
 have stat : ∀ {σ' : St} {H' : Hp} {s' : Shared}, Inv (X.blk s3 H3 scope ce fp) [] σ' H' s' → (∀ b ∈ fp, H' b = none) → ∀ b ∈ fp, FpOk (X.blk s3 H3 scope ce fp) [] H' b := fun {σ' H' s'} I' hn b hb =>
  ⟨hn b hb, (I'.ok.exf b hb).1, I'.ok.exfs b hb, .inl hb, fun x c e => (I'.ok.exf b hb).2 x c e, fun p hp => absurd (show p ∈ ([] : List (Addr × Obj)) ++ [] from hp) (by simp)⟩
 have loop : codeAny (model X.prog X.w) X.A (.compLoop (.ListComp elt [⟨tg, iter, ifs, 0⟩] scope pos) 0 (.ref it) (.ref D) ce) (compPost (model X.prog X.w) X.A X.xe use Qf (.ref D) s3.heap.objs.size) s4 := by
  refine compLoop_any (fun n s' => ∃ i H', Inv (X.blk s3 H3 scope ce fp) [] (wipe σ (own.map (·.2))) H' s' ∧ tn i s'.heap ∧ (∀ b ∈ fp, H' b = none) ∧ W i n H') ?_ m0 ⟨0, H3, I4, st4, nfp, w0⟩
  rintro n s5 ⟨i, H5, I5, st5, n5, w5⟩
  rcases turn i n H5 w5 with ⟨stop, qq⟩ | ⟨go, Nx, hNx, step⟩
  ·have td := T.done (X.blk s3 H3 scope ce fp) rfl rfl rfl hc i [] s5 _ H5 (fun _ _ => False) I5 (stat I5 n5) st5 stop
   refine thnF td fun r s6 ⟨hr, I6⟩ => ?_
   subst hr
   have I7 : Inv X pins σ H5 s6 := I3.call' (ch := fp) I6.os I6.base I6.hok I6.bare fun b hb => ⟨(f3 b hb).1.2.2.2.1, (f3 b hb).1.2.1, (f3 b hb).1.2.2.2.2.1, (f3 b hb).1.2.2.2.2.2⟩
   have nC : H5 s3.heap.objs.size = none := by
    have z : H5 ce.locals = none := I6.free
    rw [cL] at z
    exact z
   obtain ⟨m, hn, _⟩ := I6.loc
   have hn : s6.heap.Ns ce.locals m := hn
   rw [cL] at hn
   exact hRR D s3.heap.objs.size s6 m H5 I7 qq hn (I3.fpOk (Nat.le_refl _) nC)
  ·have ti := T.item (X.blk s3 H3 scope ce fp) rfl rfl rfl hc i [] s5 _ H5 (fun _ _ => False) I5 (stat I5 n5) st5 go
   refine thnF ti fun r s6 ⟨u, hr, h6⟩ => ?_
   subst hr
   refine thnF h6 fun _ s7 ⟨x, H7, I7, r7, y7, st7, n7⟩ => ?_
   have I7' := I7.pinned (stat I7 n7) (T.obj _ _ st7)
   refine thnF (pg _ s7 _ H7 x u _ I7' r7 (step x H7 y7)) fun _ s8 ⟨σ8, H8, I8, hw8, q8⟩ => ?_
   refine thnF (pt _ s8 σ8 H8 _ I8 q8) fun b s9 ⟨H9, I9, q9⟩ => ?_
   have fin : ∀ {s' : Shared} {H' : Hp}, Inv (X.blk s3 H3 scope ce fp) ([] ++ pinsAt fp s7.heap) σ8 H' s' → Nx H' → ∃ m, m < n ∧ ∃ i H', Inv (X.blk s3 H3 scope ce fp) [] (wipe σ (own.map (·.2))) H' s' ∧ tn i s'.heap ∧ (∀ b ∈ fp, H' b = none) ∧ W i m H' := fun {s' H'} I' nx => by
    obtain ⟨m', hm, w'⟩ := hNx H' nx
    have pin' : ∀ b ∈ fp, ∀ o, s7.heap.get? b = some o → s'.heap.get? b = some o ∧ H' b = none := fun b hb o e =>
     let z := I'.pin (b, o) (List.mem_append_right _ (List.mem_append_right _ (mem_pinsAt hb e)))
     ⟨z.1, z.2.1⟩
    have hl : (wipe σ (own.map (·.2))).length = σ8.length := by rw [← hw8, wipe_length]
    refine ⟨m', hm, i + 1, H', (I'.unpinned (pins := [])).weak hl (fun j v e => ?_), T.keep _ _ _ st7 fun b hb o e => (pin' b hb o e).1, fun b hb => ?_, w'⟩
    ·rw [← hw8] at e
     exact (wipe_some e).1
    ·obtain ⟨o, e, _⟩ := T.obj _ _ st7 b hb
     exact (pin' b hb o e).2
   cases b with
   | false =>
    simp only [Bool.false_eq_true, if_false] at q9 ⊢
    exact fin I9 q9
   | true =>
    simp only [if_true] at q9 ⊢
    refine thnF (pe _ s9 σ8 H9 _ I9 q9) fun z s10 ⟨yv, H10, I10, r10, acc, hD10, hz10, nx⟩ => ?_
    exact app_ok (X := X.blk s3 H3 scope ce fp) I10 hD10 hz10 r10 fun s11 I11 => fin I11 nx
 exact codeAny_compStart_list loop (T.self X.A 0 _ _ _ st4 loop)
theorem pe_lc {elt tg iter : Expr} {ifs : List Expr} {scope : Scope} {own : List (Str × Nat)} {pos : Pos} {wi : TI} {g : TG} {tt : TT} {te : TE} (hc : X.calm = true) (hN : X.N.Nodup) (hi : PI X tg iter wi) (ok : BlkOk X.N X.env.scope scope own)
  (hg : ∀ (s : Shared) (H : Hp) (C : Addr) (cl : List (Str × Addr)) (fp : List Addr), PG (X.blk s H scope (compEnvC scope cl C X.env) fp) tg g) (ht : ∀ (s : Shared) (H : Hp) (C : Addr) (cl : List (Str × Addr)) (fp : List Addr), PTs (X.blk s H scope (compEnvC scope cl C X.env) fp) ifs tt)
  (he : ∀ (s : Shared) (H : Hp) (C : Addr) (cl : List (Str × Addr)) (fp : List Addr), PE (X.blk s H scope (compEnvC scope cl C X.env) fp) elt te) (hs : ∀ x, foldedSetIterable iter X.env x = pure x := by intro _; rfl) :
  PE X (.ListComp elt [⟨tg, iter, ifs, 0⟩] scope pos) (tLc wi g tt te (own.map (·.2))) := by
 intro pins s σ H Q I h
 rw [eval_ListComp]
 refine lc_core hc hN I hi ok hg ht he hs h fun D C s' m H' I' q hn f => ⟨m, hn, fun h'' sb => ?_⟩
 obtain ⟨f0, f1, f2, f3, f4, f5⟩ := f
 exact ⟨.ref D, H', I'.turned (t' := s'.toks) (fun b o hb e => (sb.2 b hb).trans e) f0 f1 f3 f4 f5, rfl, q⟩
theorem ps_setLc {i : Nat} {y : Str} {py : Pos} {elt tg iter : Expr} {ifs : List Expr} {scope : Scope} {own : List (Str × Nat)} {pos spos : Pos} {wi : TI} {g : TG} {tt : TT} {te : TE} (hc : X.calm = true) (hN : X.N.Nodup) (hy : X.N[i]? = some y) (hyl : X.env.scope.names.lookup y = some .local)
  (hsw : swapsWith (.ListComp elt [⟨tg, iter, ifs, 0⟩] scope pos) (some (.Name y py)) spos.line X.env = pure true) (hi : PI X tg iter wi) (ok : BlkOk X.N X.env.scope scope own)
  (hg : ∀ (s : Shared) (H : Hp) (C : Addr) (cl : List (Str × Addr)) (fp : List Addr), PG (X.blk s H scope (compEnvC scope cl C X.env) fp) tg g) (ht : ∀ (s : Shared) (H : Hp) (C : Addr) (cl : List (Str × Addr)) (fp : List Addr), PTs (X.blk s H scope (compEnvC scope cl C X.env) fp) ifs tt)
  (he : ∀ (s : Shared) (H : Hp) (C : Addr) (cl : List (Str × Addr)) (fp : List Addr), PE (X.blk s H scope (compEnvC scope cl C X.env) fp) elt te) (hs : ∀ x, foldedSetIterable iter X.env x = pure x := by intro _; rfl) :
  PS X (.Assign [.Name y py] (.ListComp elt [⟨tg, iter, ifs, 0⟩] scope pos) spos) (tAsg (tLc wi g tt te (own.map (·.2))) (gName i)) := by
 intro pins s σ H D I h
 rw [exec_Assign_Name_used _ _ _ _ hsw]
 refine wpAny_bind (wpAny_standAt (wpAny_bind ?_))
 show wpAny _ X.A (do let _ ← comprehension (.ListComp elt [⟨tg, iter, ifs, 0⟩] scope pos) scope X.env (firstIterPos [⟨tg, iter, ifs, 0⟩] pos) (newList []) false (eval iter X.env) (some (assign (.Name y py) X.env))) _ _ s
 have h : tLc wi g tt te (own.map (·.2)) σ H (fun x H1 => gName i x σ H1 D.nx) := h
 refine wpAny_bind (thn (lc_core (Qf := fun _ s' => SP X pins D .next s') hc hN I hi ok hg ht he hs h fun L C s' m H' I' q hn f => ?_) fun _ s' hq => wpAny_pure (wpAny_pure hq))
 show wpAny _ _ (assign (.Name y py) X.env (.ref L)) _ _ _
 refine wpAny_assign_Name (store_ok2 (v := V.ref L) I' hN hy (.inl hyl) rfl (fun s2 I2 ⟨a, sb, ha⟩ => ?_) (.inr hyl))
 obtain ⟨f0, f1, f2, f3, f4, f5⟩ := f
 have haC : C ≠ a := by
  rcases ha with z | z
  ·rw [z]; exact f1
  ·exact fun e => f4 y a z e.symm
 refine ⟨m, hn.sameBut sb haC, fun h3 sb3 => ?_⟩
 exact ⟨_, H', I2.turned (t' := s2.toks) (fun b o hb e => (sb3.2 b hb).trans e) f0 f1 f3 f4 f5, q⟩
theorem sw_true {elt : Expr} {gs : List Comprehension} {scope : Scope} {pos py : Pos} {y : Str} {l : Nat} {env : Env} (hk : env.scope.kind = .function) (hy : env.scope.names.lookup y = some .local) (hl : (py.line == pos.line) = true)
  (ha : (scope.names.any fun (n, k) => n == y && (k == .local || k == .cell)) = false) : swapsWith (.ListComp elt gs scope pos) (some (.Name y py)) l env = pure true := by
 have ky : env.kindOf y = some .local := hy
 have hb : env.blockKind = .function := by unfold Env.blockKind; rw [hk]; rfl
 unfold swapsWith
 simp only [hb, ky, ha, Expr.pos, hl]
 rfl
end
theorem lc_list {K : PySem.W.Frag} {a : Addr} {xs : List V} {g : TG} {tt : TT} {te : TE} {vs : List Nat} {σ : St} {H1 : Hp} {D : Addr} {Qd : Hp → Prop} (Pv : Nat → Hp → Prop) (h0 : Pv 0 (upd H1 D (.lst []))) (hl : ∀ i H, i ≤ xs.length → Pv i H → SqL K H a xs)
  (hs : ∀ i x H, xs[i]? = some x → Pv i H → g x (wipe σ vs) H fun σ2 H2 => wipe σ2 vs = wipe σ vs ∧ tt σ2 H2 fun b H3 =>
   if b = true then te σ2 H3 fun y H4 => ∃ acc, H4 D = some (.lst acc) ∧ acc.length < sizeLine ∧ Pv (i + 1) (upd H4 D (.lst (acc ++ [y]))) else Pv (i + 1) H3) (hd : ∀ H, Pv xs.length H → Qd H) :
  ∃ W : Nat → Nat → Hp → Prop, (∃ m, W 0 m (upd H1 D (.lst []))) ∧ ∀ i m H, W i m H →
   ((Itl K a).stop i H ∧ Qd H) ∨ ((Itl K a).go i H ∧ ∃ Nx : Hp → Prop, (∀ H', Nx H' → ∃ m', m' < m ∧ W (i + 1) m' H') ∧ ∀ x H', (Itl K a).yld i H x H' → g x (wipe σ vs) H' fun σ2 H2 => wipe σ2 vs = wipe σ vs ∧ tt σ2 H2 fun b H3 =>
    if b = true then te σ2 H3 fun y H4 => ∃ acc, H4 D = some (.lst acc) ∧ acc.length < sizeLine ∧ Nx (upd H4 D (.lst (acc ++ [y]))) else Nx H3) := by
 refine ⟨fun i m H => m = xs.length - i ∧ i ≤ xs.length ∧ Pv i H, ⟨xs.length, by simp, Nat.zero_le _, h0⟩, ?_⟩
 rintro i m H ⟨rfl, hi, p⟩
 have q := hl i H hi p
 by_cases hlt : i < xs.length
 ·refine .inr ⟨⟨xs, xs[i], q, by simp [hlt]⟩, Pv (i + 1), fun H' p' => ⟨xs.length - (i + 1), by omega, rfl, hlt, p'⟩, fun x H' y => ?_⟩
  obtain ⟨e, y⟩ := y
  subst e
  exact hs i x _ (y xs q) p
 ·have e : i = xs.length := by omega
  subst e
  exact .inl ⟨⟨xs, q, Nat.le_refl _⟩, hd H p⟩
noncomputable def blkC (N : List Str) (sc scope : Scope) (own : List (Str × Nat)) : Bool :=
 (match scope.kind with | .function => true | _ => false) && (scope.names.all fun y => decide (scope.names.lookup y.1 = some y.2)) && (own.all fun p => decide (N[p.2]? = some p.1)) &&
  (scope.names.all fun y => match y.2 with
   | .free => (match sc.names.lookup y.1 with | some .cell => true | some .free => true | _ => false)
   | .local => decide (y.1 ∈ own.map (·.1)) || decide (y.1 ∉ N)
   | .cell => decide (y.1 ∈ own.map (·.1)) || decide (y.1 ∉ N)
   | _ => true)
theorem blkOk_by {N : List Str} {sc scope : Scope} {own : List (Str × Nat)} (h : blkC N sc scope own = true) : BlkOk N sc scope own := by
 unfold blkC at h
 simp only [Bool.and_eq_true, List.all_eq_true, decide_eq_true_eq] at h
 obtain ⟨⟨⟨h1, h2⟩, h3⟩, h4⟩ := h
 refine ⟨?_, h2, h3, fun y hy e => ?_, fun y hy e => ?_⟩
 ·split at h1
  ·assumption
  ·cases h1
 ·have q := h4 y hy
  simp only [e] at q
  split at q <;> first | exact .inl (by assumption) | exact .inr (by assumption) | cases q
 ·have q := h4 y hy
  rcases e with e | e <;> (simp only [e, Bool.or_eq_true, decide_eq_true_eq] at q; exact q)
end L2
namespace L2
open PySem PySem.Spec PyProof.Rows
section
variable {prog : Program} {w : World} {A : Around} {R : Result → Shared → Prop} {s : Shared} {elt t0 i0 t1 i1 : Expr} {ifs0 ifs1 : List Expr} {scope : Scope} {pos : Pos} {it acc : Value} {env : Env}
end
section
variable {X : Cx}
end
end L2
namespace L2
open PySem PySem.Spec PyProof.Rows
section
variable {κ : Type} [DecidableEq κ]
noncomputable def valV (kvs : List (κ × V)) (k : κ) : Option V := (kvs.find? fun kv => decide (kv.1 = k)).map (·.2)
noncomputable def putK (kvs : List (κ × V)) (k : κ) (v : V) : List (κ × V) :=
 if (kvs.any fun kv => decide (kv.1 = k)) = true then kvs.map (fun kv => if kv.1 = k then (kv.1, v) else kv) else kvs ++ [(k, v)]
theorem valV_pos {p : κ × V} {r : List (κ × V)} {k : κ} (e : p.1 = k) : valV (p :: r) k = some p.2 := by simp [valV, List.find?_cons, e]
theorem valV_neg {p : κ × V} {r : List (κ × V)} {k : κ} (e : ¬ p.1 = k) : valV (p :: r) k = valV r k := by simp [valV, List.find?_cons, e]
theorem valV_any (k : κ) : ∀ kvs : List (κ × V), (kvs.any fun kv => decide (kv.1 = k)) = (valV kvs k).isSome
 | [] => rfl
 | p :: r => by
  rw [List.any_cons]
  by_cases e : p.1 = k
  ·simp only [valV_pos e, decide_eq_true e, Bool.true_or, Option.isSome_some]
  ·rw [valV_neg e, decide_eq_false e, Bool.false_or]; exact valV_any k r
theorem length_putK (kvs : List (κ × V)) (k : κ) (v : V) : (putK kvs k v).length ≤ kvs.length + 1 := by
 unfold putK
 split
 ·rw [List.length_map]; omega
 ·rw [List.length_append, List.length_cons, List.length_nil]; omega
theorem putK_new {kvs : List (κ × V)} {k : κ} (v : V) (h : valV kvs k = none) : putK kvs k v = kvs ++ [(k, v)] := by
 unfold putK
 rw [valV_any, h]
 exact if_neg (by decide)
theorem RelO.isSome_eq {o : Option V} {u : Option Value} (r : RelO o u) : o.isSome = u.isSome := by
 cases o with
 | none => cases u with
  | none => rfl
  | some _ => exact (show False from r).elim
 | some _ => cases u with
  | none => exact (show False from r).elim
  | some _ => rfl
theorem RelO.getD {o : Option V} {u : Option Value} {d : V} {d' : Value} (r : RelO o u) (rd : RelV d d') : RelV (o.getD d) (u.getD d') := by
 cases o with
 | none => cases u with
  | none => exact rd
  | some _ => exact (show False from r).elim
 | some _ => cases u with
  | none => exact (show False from r).elim
  | some _ => exact r
theorem KV.val {kvs : List (κ × V)} {vs : List (κ × Value)} (r : KV kvs vs) (k : κ) : RelO (valV kvs k) (valueAt vs k) := by
 unfold KV at r
 induction r with
 | nil => exact True.intro
 | @cons p q ps qs h t ih =>
  obtain ⟨h1, h2⟩ := h
  by_cases e : p.1 = k
  ·have e' : q.1 = k := h1.symm.trans e
   have b : valueAt (q :: qs) k = some q.2 := by simp [valueAt, List.find?_cons, e']
   rw [valV_pos e, b]; exact h2
  ·have e' : ¬ q.1 = k := fun z => e (h1.trans z)
   have b : valueAt (q :: qs) k = valueAt qs k := by simp [valueAt, List.find?_cons, e']
   rw [valV_neg e, b]; exact ih
theorem KV.any {kvs : List (κ × V)} {vs : List (κ × Value)} (r : KV kvs vs) (k : κ) : (kvs.any fun kv => decide (kv.1 = k)) = vs.any fun kv => decide (kv.1 = k) := by
 unfold KV at r
 induction r with
 | nil => rfl
 | cons h t ih => rw [List.any_cons, List.any_cons, ih, h.1]
theorem KV.repl {kvs : List (κ × V)} {vs : List (κ × Value)} (r : KV kvs vs) (k : κ) {y : V} {u : Value} (ry : RelV y u) :
  KV (kvs.map fun kv => if kv.1 = k then (kv.1, y) else kv) (vs.map fun kv => if kv.1 = k then (kv.1, u) else kv) := by
 unfold KV at r ⊢
 induction r with
 | nil => exact .nil
 | @cons p q ps qs h t ih =>
  rw [List.map_cons, List.map_cons]
  refine .cons ?_ ih
  obtain ⟨h1, h2⟩ := h
  by_cases e : p.1 = k
  ·rw [if_pos e, if_pos (h1.symm.trans e)]; exact ⟨h1, ry⟩
  ·rw [if_neg e, if_neg (fun z => e (h1.trans z))]; exact ⟨h1, h2⟩
theorem KV.put {kvs : List (κ × V)} {vs : List (κ × Value)} (r : KV kvs vs) (k : κ) {y : V} {u : Value} (ry : RelV y u) : KV (putK kvs k y) (stored vs k u) := by
 unfold putK stored
 rw [r.any k]
 by_cases e : (vs.any fun kv => decide (kv.1 = k)) = true
 ·rw [if_pos e, if_pos e]; exact r.repl k ry
 ·rw [if_neg e, if_neg e]; exact Paired.snoc r ⟨rfl, ry⟩
theorem KV.length {kvs : List (κ × V)} {vs : List (κ × Value)} (r : KV kvs vs) : kvs.length = vs.length := Paired.length r
end
theorem kV_is {P : Program} {w : World} {k : Key} {u : Value} (r : RelV (kV k) u) : (mixKind P w).is k u = true := by
 cases k with
 | inl i => obtain ⟨t, e⟩ := (show ∃ t, u = Value.int i t from r); subst e; exact mixKind_int P w i t
 | inr x => obtain ⟨t, e⟩ := (show ∃ t, u = Value.str x t from r); subst e; exact mixKind_str P w x t
theorem items_are {P : Program} {w : World} : ∀ {ks : List Key} {us : List Value}, Vals (ks.map kV) us → ItemsAre (mixKind P w) ks us
 | [], _, r => by rw [List.map_nil] at r; cases r; exact .nil
 | k :: ks, _, r => by
  rw [List.map_cons] at r
  cases r with
  | cons h t => exact .cons (kV_is h) (items_are t)
noncomputable abbrev KT (H : Hp) : List (List Key × V) → List (List Key × Addr × Value) → Prop := Paired fun p q => p.1 = q.1 ∧ H q.2.1 = some (.tup (p.1.map kV)) ∧ RelV p.2 q.2.2
theorem KT.val {H : Hp} {kvs : List (List Key × V)} {xs : List (List Key × Addr × Value)} (r : KT H kvs xs) (k : List Key) : RelO (valV kvs k) ((atKey xs k).map (·.2)) := by
 induction r with
 | nil => exact True.intro
 | @cons p q ps qs h t ih =>
  obtain ⟨h1, _, h2⟩ := h
  by_cases e : p.1 = k
  ·have e' : q.1 = k := h1.symm.trans e
   have b : atKey (q :: qs) k = some q.2 := by simp [atKey, List.find?_cons, e']
   rw [valV_pos e, b]; exact h2
  ·have e' : ¬ q.1 = k := fun z => e (h1.trans z)
   have b : atKey (q :: qs) k = atKey qs k := by simp [atKey, List.find?_cons, e']
   rw [valV_neg e, b]; exact ih
theorem KT.repl {H : Hp} {kvs : List (List Key × V)} {xs : List (List Key × Addr × Value)} (r : KT H kvs xs) (k : List Key) {y : V} {u : Value} (ry : RelV y u) :
  KT H (kvs.map fun kv => if kv.1 = k then (kv.1, y) else kv) (xs.map (putAt k u)) := by
 induction r with
 | nil => exact .nil
 | @cons p q ps qs h t ih =>
  rw [List.map_cons, List.map_cons]
  refine .cons ?_ ih
  obtain ⟨h1, h2, h3⟩ := h
  unfold putAt
  by_cases e : p.1 = k
  ·rw [if_pos e, if_pos (h1.symm.trans e)]; exact ⟨h1, h2, ry⟩
  ·rw [if_neg e, if_neg (fun z => e (h1.trans z))]; exact ⟨h1, h2, h3⟩
theorem KT.put {H : Hp} {kvs : List (List Key × V)} {xs : List (List Key × Addr × Value)} (r : KT H kvs xs) (k : List Key) {b : Addr} {y : V} {u : Value} (hb : H b = some (.tup (k.map kV))) (ry : RelV y u) :
  KT H (putK kvs k y) (storedH xs k b u) := by
 have e : (kvs.any fun kv => decide (kv.1 = k)) = (atKey xs k).isSome := by
  rw [valV_any, (r.val k).isSome_eq, Option.isSome_map]
 unfold putK storedH
 rw [e]
 by_cases q : (atKey xs k).isSome = true
 ·rw [if_pos q, if_pos q]; exact r.repl k ry
 ·rw [if_neg q, if_neg q]; exact Paired.snoc r ⟨rfl, hb, ry⟩
theorem KT.keeps {H H' : Hp} {kvs : List (List Key × V)} {xs : List (List Key × Addr × Value)} (r : KT H kvs xs) (ht : ∀ b ys, H b = some (.tup ys) → H' b = some (.tup ys)) : KT H' kvs xs :=
 Paired.mapP r fun _ _ z => ⟨z.1, ht _ _ z.2.1, z.2.2⟩
section
variable {P : Program} {w : World} {H : Hp} {h : Heap} {a : Addr}
theorem rd_of {u : HO} (ok : HOk P w H h) (e : Rd H a u) : ObjOk P w H h a u := e.ok ok
theorem dk_rd {kvs : List (Key × V)} (ok : HOk P w H h) (e : Rd H a (.dK kvs)) : kvs.length ≤ sizeLine ∧ (a == sysModules) = false ∧ ∃ vs, KV kvs vs ∧ h.DictOf (mixKind P w) a vs :=
 show ObjOk P w H h a (.dK kvs) from rd_of ok e
theorem dk_of {kvs : List (Key × V)} (ok : HOk P w H h) (e : H a = some (.dK kvs)) : kvs.length ≤ sizeLine ∧ (a == sysModules) = false ∧ ∃ vs, KV kvs vs ∧ h.DictOf (mixKind P w) a vs := dk_rd ok (.inl e)
theorem key_of {ks : List Key} (ok : HOk P w H h) (e : H a = some (.tup (ks.map kV))) : (tupleKind (mixKind P w)).is h ks a := by
 obtain ⟨_, its, r, o, h1, h2, n, h3⟩ := (show ObjOk P w H h a (.tup (ks.map kV)) from ok a _ e)
 exact ⟨o, its.toArray, n, h1, h2, h3, by simpa using items_are r⟩
theorem dt_rd {kvs : List (List Key × V)} (ok : HOk P w H h) (e : Rd H a (.dT kvs)) : kvs.length ≤ sizeLine ∧ (a == sysModules) = false ∧
  ∃ xs, KT H kvs xs ∧ h.DictOfH (tupleKind (mixKind P w)) a xs := by
 obtain ⟨z, y, xs, r, o, es, ep, h1, h2, h3, h4, h5⟩ := (show ObjOk P w H h a (.dT kvs) from rd_of ok e)
 refine ⟨z, y, xs, r, o, es, ep, h1, h2, h3, h4, fun x hx => ?_, h5⟩
 have all : ∀ {l : List (List Key × V)} {m : List (List Key × Addr × Value)}, KT H l m → ∀ x ∈ m, (tupleKind (mixKind P w)).is h x.1 x.2.1 := by
  intro l m q
  induction q with
  | nil => intro x hx; exact nomatch hx
  | @cons p q ps qs hq t ih =>
   intro x hx
   rcases List.mem_cons.mp hx with e | hx
   ·subst e
    exact key_of ok (by rw [← hq.1]; exact hq.2.1)
   ·exact ih x hx
 exact all r x hx
theorem dt_of {kvs : List (List Key × V)} (ok : HOk P w H h) (e : H a = some (.dT kvs)) : kvs.length ≤ sizeLine ∧ (a == sysModules) = false ∧
  ∃ xs, KT H kvs xs ∧ h.DictOfH (tupleKind (mixKind P w)) a xs := dt_rd ok (.inl e)
end
noncomputable def DGet (H : Hp) (a : Addr) (y : V) (r : Option V) : Prop :=
 (∃ kvs k, Rd H a (.dK kvs) ∧ y = kV k ∧ r = valV kvs k) ∨ ∃ kvs k b, Rd H a (.dT kvs) ∧ y = .ref b ∧ H b = some (.tup (k.map kV)) ∧ r = valV kvs k
noncomputable def DPut (H : Hp) (a : Addr) (y v : V) (H' : Hp) : Prop :=
 (∃ kvs k, H a = some (.dK kvs) ∧ y = kV k ∧ kvs.length < sizeLine ∧ H' = upd H a (.dK (putK kvs k v))) ∨
 ∃ kvs k b, H a = some (.dT kvs) ∧ y = .ref b ∧ H b = some (.tup (k.map kV)) ∧ kvs.length < sizeLine ∧ H' = upd H a (.dT (putK kvs k v))
theorem DGet.k {H : Hp} {a : Addr} {kvs : List (Key × V)} {k : Key} (e : H a = some (.dK kvs)) : DGet H a (kV k) (valV kvs k) := .inl ⟨kvs, k, .inl e, rfl, rfl⟩
theorem DGet.t {H : Hp} {a b : Addr} {kvs : List (List Key × V)} {k : List Key} (e : H a = some (.dT kvs)) (eb : H b = some (.tup (k.map kV))) : DGet H a (.ref b) (valV kvs k) := .inr ⟨kvs, k, b, .inl e, rfl, eb, rfl⟩
theorem DPut.k {H : Hp} {a : Addr} {kvs : List (Key × V)} {k : Key} {v : V} (e : H a = some (.dK kvs)) (hl : kvs.length < sizeLine) : DPut H a (kV k) v (upd H a (.dK (putK kvs k v))) := .inl ⟨kvs, k, e, rfl, hl, rfl⟩
theorem DPut.t {H : Hp} {a b : Addr} {kvs : List (List Key × V)} {k : List Key} {v : V} (e : H a = some (.dT kvs)) (eb : H b = some (.tup (k.map kV))) (hl : kvs.length < sizeLine) :
  DPut H a (.ref b) v (upd H a (.dT (putK kvs k v))) := .inr ⟨kvs, k, b, e, rfl, eb, hl, rfl⟩
section
variable {X : Cx} {pins : List (Addr × Obj)} {σ : St} {H : Hp} {s : Shared} {a : Addr} {y v : V} {u r : Value} {o : Option V} {A : Around} {E : Value → Shared → Prop}
theorem Inv.big (I : Inv X pins σ H s) : sysModules < s.heap.objs.size := by
 have h : mainGlobals < s.heap.objs.size := (I.mod.glob.keeps I.bk).lt
 exact Nat.lt_trans (by decide) h
theorem d_in {Q : Value → Shared → Prop} (hu : A.units + 1 < cLine) (I : Inv X pins σ H s) (g : DGet H a y o) (ry : RelV y u) (h : ∀ s', Inv X pins σ H s' → Q (.bool o.isSome) s') :
  wpAny (model X.prog X.w) A (compareOp .In u (.ref a)) Q E s := by
 rcases g with ⟨kvs, k, e, ey, l⟩ | ⟨kvs, k, b, e, ey, eb, l⟩
 ·subst ey
  obtain ⟨z, hd, vs, rel, dd⟩ := dk_rd I.hok e
  refine wpAny_in_of (kV_is ry) hd dd.mapOf ?_
  rw [← (rel.val k).isSome_eq, ← l]
  exact h _ (I.tok _)
 ·subst ey
  cases (show u = Value.ref b from ry)
  obtain ⟨z, hd, xs, rel, dd⟩ := dt_rd I.hok e
  refine wpAny_in_heap (tupleKind_room_in1 hu) (key_of I.hok eb) hd dd ?_
  have q := (rel.val k).isSome_eq
  rw [Option.isSome_map] at q
  rw [← q, ← l]
  exact h _ (I.tok _)
theorem d_write {h' : Heap} {t' : Nat} {ob : HO} (I : Inv X pins σ H s) (mu : Mut (H a)) (hs : Heap.SameBut a s.heap h') (he : ∃ q, h'.get? a = some q) (new : ObjOk X.prog X.w (upd H a ob) h' a ob) :
  Inv X pins σ (upd H a ob) { s with heap := h', toks := t' } :=
 I.write (x := a) (e := a) mu (.inl rfl) (fun b q hb z => (hs.2 b hb).trans z) he new
theorem dk_new {P : Program} {w : World} {H' : Hp} {h' : Heap} {kvs : List (Key × V)} {vs : List (Key × Value)} (z : kvs.length ≤ sizeLine) (hd : (a == sysModules) = false) (rel : KV kvs vs) (dd : h'.DictOf (mixKind P w) a vs) :
  ObjOk P w H' h' a (.dK kvs) := ⟨z, hd, vs, rel, dd⟩
theorem d_setItem {H' : Hp} {Q : Unit → Shared → Prop} (hu : A.units + 1 < cLine) (I : Inv X pins σ H s) (g : DPut H a y v H') (ry : RelV y u) (rv : RelV v r) (h : ∀ s', Inv X pins σ H' s' → Q () s') :
  wpAny (model X.prog X.w) A (setItem (.ref a) u r) Q E s := by
 rcases g with ⟨kvs, k, e, ey, l, eH⟩ | ⟨kvs, k, b, e, ey, eb, l, eH⟩
 ·subst ey eH
  obtain ⟨z, hd, vs, rel, dd⟩ := dk_of I.hok e
  have hz : vs.length ≤ sizeLine := by rw [← rel.length]; exact z
  have hl : (putK kvs k v).length ≤ sizeLine := by have := length_putK kvs k v; omega
  refine wpAny_setItem_pairs (hsz := hz) (kV_is ry) dd fun h' dd' hs => h _ ?_
  have he : ∃ q, h'.get? a = some q := let ⟨q, _, _, hq, _⟩ := dd'; ⟨q, hq⟩
  exact d_write I (by rw [e]; exact True.intro) hs he (dk_new hl hd (rel.put k rv) dd')
 ·subst ey eH
  cases (show u = Value.ref b from ry)
  obtain ⟨z, hd, xs, rel, dd⟩ := dt_of I.hok e
  have hz : xs.length ≤ sizeLine := by rw [← Paired.length rel]; exact z
  have hl : (putK kvs k v).length ≤ sizeLine := by have := length_putK kvs k v; omega
  refine wpAny_setItem_heap (hsz := hz) (tupleKind_room_in1 hu) (key_of I.hok eb) dd fun h' dd' hs => h _ ?_
  obtain ⟨q, es, ep, hq, h2, h3, h4, _, h5⟩ := dd'
  refine d_write I (by rw [e]; exact True.intro) hs ⟨q, hq⟩ ⟨hl, hd, _, (rel.put k eb rv).keeps fun c ys ec => ?_, q, es, ep, hq, h2, h3, h4, h5⟩
  rw [upd_ne (ne_of ec e (fun z => nomatch z))]
  exact ec
end
section
variable {X : Cx} {pins : List (Addr × Obj)} {σ : St} {H : Hp} {s : Shared} {a : Addr} {kvs : List (Key × V)} {k : Key} {u : Value} {A : Around} {E : Value → Shared → Prop}
theorem d_len {Q : Value → Shared → Prop} (I : Inv X pins σ H s) (e : Rd H a (.dK kvs)) (h : ∀ t s', Inv X pins σ H s' → Q (.int kvs.length t) s') : wpAny (model X.prog X.w) A (call (.builtin "len") [.ref a]) Q E s := by
 obtain ⟨z, hd, vs, rel, dd⟩ := dk_rd I.hok e
 refine call_len_dict hd dd (by rw [← rel.length]; rw [sizeLine_eq] at z; omega) ?_
 rw [← rel.length]
 exact h _ _ (I.tok _)
end
noncomputable def NoSl (i : Expr) : Prop := ∀ ov iv, subscripted i false ov iv = operate [ov, iv] (getItem ov iv)
theorem subD_of {prog : Program} {w : World} {A : Around} {E : Value → Shared → Prop} {s : Shared} {env : Env} {value slice : Expr} {pos : Pos} {T id : String} {Q : Value → Shared → Prop}
  (hl : typeLookup (.type T) "__getitem__" = pure (some (.builtin id))) (hs : NoSl slice)
  (h : wpAny (model prog w) A (eval value env) (fun o s₁ => wpAny (model prog w) A (eval slice env) (fun i s₂ => s₂.TypeIs o T ∧ wpAny (model prog w) A (getItem o i) Q E s₂) E s₁) E s) :
  wpAny (model prog w) A (eval (.Subscript value slice pos) env) Q E s := by
 refine Subscript_ (wpAny_mono h (fun o s₁ h₁ => wpAny_mono h₁ (fun i s₂ h₂ => ?_) fun _ _ x => x) fun _ _ x => x)
 obtain ⟨hT, h₂⟩ := h₂
 unfold subscriptTail
 refine wpAny_bind ?_
 rw [getitemInPython_of_ne hT.not_modules]
 refine wpAny_bind (wpAny_specialOf hT hl ?_)
 have fin : wpAny (model prog w) A (subscripted slice false o i) (fun r s₃ => wpAny (model prog w) A (letTemporaryGo value o r >>= fun _ => pure r) Q E s₃) E s₂ := by
  rw [hs o i]
  exact wpAny_operating (wpAny_mono h₂ (fun r s₃ h₃ => wpAny_bind (wpAny_letTemporaryGo (wpAny_pure h₃))) fun _ _ x => x)
 first
  | exact wpAny_pure (wpAny_bind fin)
  | exact wpAny_bind (wpAny_pure (wpAny_bind fin))
  | exact wpAny_bind fin
noncomputable def tDIn (ty td : TE) : TE := fun σ H Q => ty σ H fun y H1 => td σ H1 fun x H2 => ∃ a o, x = .ref a ∧ DGet H2 a y o ∧ Q (.bl o.isSome) H2
noncomputable def sDPut (td ty tv : TE) : TS := fun D σ H => tv σ H fun v H1 => td σ H1 fun x H2 => ty σ H2 fun y H3 => ∃ a H4, x = .ref a ∧ DPut H3 a y v H4 ∧ D.nx σ H4
section
variable {X : Cx} {o i e value : Expr} {pos pos' tpos : Pos} {td ty tv : TE}
theorem pc_din (hu : X.A.units + 1 < cLine) (hi : PE X i ty) (ho : PE X o td) : PC X .In i o (tDIn ty td) := by
 intro pins s σ H Q I h
 refine thn (hi pins s σ H _ I h) fun iv s1 ⟨y, H1, I1, ry, q1⟩ => thn (ho pins s1 σ H1 _ I1 q1) fun u s2 ⟨x, H2, I2, rx, a, ov, ex, g, q2⟩ => ?_
 subst ex
 obtain rfl : u = Value.ref a := rx
 exact d_in hu I2 g ry fun s3 I3 => ⟨.bl ov.isSome, H2, I3, rfl, q2⟩
theorem ps_dput (hu : X.A.units + 1 < cLine) (ho : PE X o td) (hi : PE X i ty) (hv : PE X value tv) (hs : swapsWith value (some (.Subscript o i pos')) pos.line X.env = pure false) :
  PS X (.Assign [.Subscript o i pos'] value pos) (sDPut td ty tv) := by
 intro pins s σ H D I h
 refine wpAny_Assign_Subscript (thn (hv pins s σ H _ I h) fun r s1 ⟨v, H1, I1, rv, q1⟩ => thn (ho pins s1 σ H1 _ I1 q1) fun u s2 ⟨x, H2, I2, rx, q2⟩ => thn (hi pins s2 σ H2 _ I2 q2) fun iv s3 ⟨y, H3, I3, ry, a, H4, ex, g, q3⟩ => ?_) hs
 subst ex
 obtain rfl : u = Value.ref a := rx
 exact d_setItem hu I3 g ry rv fun s4 I4 => ⟨σ, H4, I4, q3⟩
end
theorem dk_empty {P : Program} {w : World} {H : Hp} (h : Heap) (hb : sysModules < h.objs.size) : ObjOk P w H (h.push { cls := .type "dict", data := .dict #[] }) h.objs.size (.dK []) :=
 ⟨Nat.zero_le _, beq_eq_false_iff_ne.mpr (Ne.symm (Nat.ne_of_lt hb)), [], .nil, Heap.DictOf.new h⟩
theorem dt_empty {P : Program} {w : World} {H : Hp} (h : Heap) (hb : sysModules < h.objs.size) : ObjOk P w H (h.push { cls := .type "dict", data := .dict #[] }) h.objs.size (.dT []) :=
 ⟨Nat.zero_le _, beq_eq_false_iff_ne.mpr (Ne.symm (Nat.ne_of_lt hb)), [], .nil, _, #[], 0, Heap.get?_push_size _ rfl, ⟨rfl, rfl, rfl⟩, rfl, rfl, List.nodup_nil⟩
noncomputable def tDNewK : TE := fun _ H Q => ∀ p, H p = none → Q (.ref p) (upd H p (.dK []))
noncomputable def tDNewT : TE := fun _ H Q => ∀ p, H p = none → Q (.ref p) (upd H p (.dT []))
section
variable {X : Cx} {pos : Pos}
theorem pe_dnewK : PE X (.Dict [] [] pos) tDNewK := fun pins s σ H Q I h =>
 wpAny_Dict_empty ⟨.ref s.heap.objs.size, _, I.laid (a := s.heap.objs.size) (o := .dK []) (t' := s.toks) (fun _ _ q => Heap.get?_push_of_some _ q) (Nat.le_refl _) (dk_empty s.heap I.big), rfl, h _ (I.hok.fresh (Nat.le_refl _))⟩
theorem pe_dnewT : PE X (.Dict [] [] pos) tDNewT := fun pins s σ H Q I h =>
 wpAny_Dict_empty ⟨.ref s.heap.objs.size, _, I.laid (a := s.heap.objs.size) (o := .dT []) (t' := s.toks) (fun _ _ q => Heap.get?_push_of_some _ q) (Nat.le_refl _) (dt_empty s.heap I.big), rfl, h _ (I.hok.fresh (Nat.le_refl _))⟩
end
structure M1 (X : Cx) (o : Expr) (m : Str) (apos : Pos) (e : Expr) (cpos : Pos) : Prop where
 base : attributeBase o m X.env (eval o X.env) = eval o X.env
 few : ((backTo cpos (starEach [e] X.env)).all (fun x => !x.1) && (backToKw cpos (keywordEach [] X.env)).all (fun x => x.1.isSome)
  && decide (([e] : List Expr).length + ([] : List Keyword).length + (if ([] : List Keyword).isEmpty then 0 else 1) < 30)) = true
 line : (apos.endLine == cpos.line) = true
 trees : backTo cpos (starEach [e] X.env) = [(false, eval e X.env)]
noncomputable def IsD (H : Hp) (a : Addr) : Prop := (∃ kvs, Rd H a (.dK kvs)) ∨ ∃ kvs, Rd H a (.dT kvs)
theorem isD_at {X : Cx} {pins : List (Addr × Obj)} {σ : St} {H : Hp} {s : Shared} {a : Addr} (I : Inv X pins σ H s) (d : IsD H a) :
  s.TypeIs (.ref a) "dict" ∧ (∀ b, Value.ref a = .ref b → ∃ ob, s.heap.get? b = some ob ∧ ob.dict = none) ∧ (a == sysModules) = false := by
 rcases d with ⟨kvs, e⟩ | ⟨kvs, e⟩
 ·obtain ⟨_, hd, vs, _, dd⟩ := dk_rd I.hok e
  refine ⟨dd.typeIs, fun b q => ?_, hd⟩
  cases q
  obtain ⟨ob, _, _, h1, h2, _⟩ := dd
  exact ⟨ob, h1, h2.2.1⟩
 ·obtain ⟨_, hd, xs, _, dd⟩ := dt_rd I.hok e
  refine ⟨dd.typeIs, fun b q => ?_, hd⟩
  cases q
  obtain ⟨ob, _, _, h1, h2, _⟩ := dd
  exact ⟨ob, h1, h2.2.1⟩
section
variable {X : Cx} {pins : List (Addr × Obj)} {σ : St} {H : Hp} {s : Shared} {a : Addr} {y d : V} {u r : Value} {o : Option V} {A : Around} {E : Value → Shared → Prop}
theorem d_get1 {Q : Value → Shared → Prop} (hu : A.units + 1 < cLine) (I : Inv X pins σ H s) (g : DGet H a y o) (ry : RelV y u) (h : ∀ w' s', Inv X pins σ H s' → RelV (o.getD .non) w' → Q w' s') :
  wpAny (model X.prog X.w) A (call (.builtin "dict.get") [.ref a, u]) Q E s := by
 rcases g with ⟨kvs, k, e, ey, l⟩ | ⟨kvs, k, b, e, ey, eb, l⟩
 ·subst ey
  obtain ⟨z, hd, vs, rel, dd⟩ := dk_rd I.hok e
  refine call_meetsIn PySem.F.slot_dict_get dd.typeIs PySem.F.entry_dict_get (PySem.F.args_dict_get_2 _ _) (meets_dict_get (mixKind X.prog X.w) a (kV_is ry) hd) ⟨_, dd.mapOf, h _ _ (I.tok _) ?_⟩
  rw [l]
  exact (rel.val k).getD rfl
 ·subst ey
  cases (show u = Value.ref b from ry)
  obtain ⟨z, hd, xs, rel, dd⟩ := dt_rd I.hok e
  refine call_meetsIn PySem.F.slot_dict_get dd.typeIs PySem.F.entry_dict_get (PySem.F.args_dict_get_2 _ _) (meetsH_dict_get (tupleKind (mixKind X.prog X.w)) a b hd) ⟨tupleKind_room_in1 hu, k, xs, key_of I.hok eb, dd, h _ _ (I.tok _) ?_⟩
  rw [l]
  exact (rel.val k).getD rfl
end
noncomputable def tDGet1 (td ty : TE) : TE := fun σ H Q => td σ H fun x H1 => ∃ a, x = .ref a ∧ IsD H1 a ∧ ty σ H1 fun y H2 => ∃ o, DGet H2 a y o ∧ Q (o.getD .non) H2
section
variable {X : Cx} {o e f : Expr} {apos cpos : Pos} {td ty tx : TE}
theorem pe_dget1 (hu : X.A.units + 1 < cLine) (ho : PE X o td) (he : PE X e ty) (m : M1 X o "get" apos e cpos) : PE X (.Call (.Attribute o "get" apos) [e] [] cpos) (tDGet1 td ty) := by
 intro pins s σ H Q I h
 refine wpAny_Call_method m.base m.few m.line PySem.F.plainAttrs_dict PySem.F.slot_dict_get PySem.F.type_dict_get (thn (ho pins s σ H _ I h) fun u s1 ⟨x, H1, I1, rx, a, ex, d, q1⟩ => ?_)
 subst ex
 obtain rfl : u = Value.ref a := rx
 obtain ⟨t1, t2, _⟩ := isD_at I1 d
 refine ⟨t1, t2, ?_⟩
 rw [m.trees]
 refine Calls.callWith_builtin rfl (Calls.evalArgs_plain (Calls.spliced_cons (thn (he pins s1 σ H1 _ I1 q1) fun iv s2 ⟨y, H2, I2, ry, ov, g, q2⟩ => Calls.spliced_nil ?_)))
 exact d_get1 hu I2 g ry fun w' s3 I3 rw' => ⟨_, H2, I3, rw', q2⟩
end
section
variable {X : Cx} {pins : List (Addr × Obj)} {σ : St} {H : Hp} {s : Shared} {a : Addr} {kvs : List (Key × V)} {A : Around} {E : Value → Shared → Prop}
end
section
variable {X : Cx} {pins : List (Addr × Obj)} {σ : St} {H : Hp} {s : Shared} {a : Addr} {y : V} {u : Value} {A : Around} {E : Value → Shared → Prop}
end
end L2
namespace L2
open PySem PySem.Spec PyProof.Rows
section
variable {prog : Program} {w : World} {A : Around} {E : Value → Shared → Prop}
end
section
variable {X : Cx}
end
end L2
namespace L2
open PySem PySem.Spec PyProof.Rows
section
variable {X : Cx} {pins : List (Addr × Obj)} {σ : St} {H : Hp} {s : Shared} {h' : Heap}
theorem Inv.turnedNew {t' : Nat} {ch : List Addr} {T : Addr} {ob : HO} (I : Inv X pins σ H s) (k : ∀ b o, b ∉ ch → s.heap.get? b = some o → h'.get? b = some o) (hf : ∀ b ∈ ch, FpOk X pins H b) (hT : s.heap.objs.size ≤ T)
  (new : ObjOk X.prog X.w (upd H T ob) h' T ob) : Inv X pins σ (upd H T ob) { s with heap := h', toks := t' } := by
 have hn : H T = none := I.hok.fresh hT
 have nit : ∀ b u, H b = some u → b ∉ ch := fun b u e z => by
  have q := (hf b z).1
  rw [q] at e; cases e
 refine I.step (g' := s.gens) (d' := s.drawn) (ch := ch) (fun b hb => ⟨(hf b hb).2.2.2.1, (hf b hb).2.1, (hf b hb).2.2.2.2.1, (hf b hb).2.2.2.2.2⟩) (fun b o _ _ hc e _ => k b o hc e) (fun b o _ _ hc e _ => ⟨o.slots, k b o hc e⟩)
  (fun b o _ e n => ?_) (fun b o hc e => ⟨o, k b o hc e⟩) (fun b xs e => ?_) (fun b o u e => ?_) (fun b ps e => ⟨#[], ?_⟩) (fun m hm => ?_) (fun b u e => ?_) I.bare
 ·rw [upd_ne (Nat.ne_of_lt (Nat.lt_of_lt_of_le (Heap.lt_size e) hT))]; exact n
 ·rw [upd_ne (ne_of_none e hn)]; exact e
 ·rw [upd_ne (ne_of_none e hn)]; exact e
 ·rw [upd_ne (ne_of_none e hn), e]; simp
 ·obtain ⟨o, es, ep, ho, r⟩ := hm
  exact ⟨o, es, ep, k _ o (fun z => (hf _ z).2.1 rfl) ho, r⟩
 ·by_cases hb : b = T
  ·subst hb
   rw [upd_same] at e
   cases e
   exact new
  ·rw [upd_ne hb] at e
   refine (I.hok b u e).stay (fun c v hc q => k c v ?_ q) (fun c q => by rw [upd_ne (ne_of_none q hn)]; exact q) fun c xs q => by rw [upd_ne (ne_of_none q hn)]; exact q
   rcases hc with z | z
   ·rw [z]; exact nit b u e
   ·exact nit c _ z
end
section
variable {X : Cx}
theorem pi_one {tg : Expr} {pins : List (Addr × Obj)} {σ : St} {H : Hp} {s : Shared} {R : It → Hp → Prop} {J : It} {tn : Nat → Heap → Prop} {tk : Nat} (I : Inv X pins σ H s) (o : Obj)
  (T : Turn X.prog X.w X.K tg J [s.heap.objs.size] s.heap.objs.size tn) (st : tn 0 (s.heap.push o)) (q : R J H) : PIE X pins σ tg R (.ref s.heap.objs.size) { s with heap := s.heap.push o, toks := tk } := by
 refine ⟨s.heap.objs.size, [s.heap.objs.size], tn, J, H, rfl, I.kept fun b ob e => Heap.get?_push_of_some _ e, T, st, fun b hb => ?_, q⟩
 have e : b = s.heap.objs.size := by simpa using hb
 subst e
 exact I.fpOk (Nat.le_refl _) (I.hok.fresh (Nat.le_refl _))
end
section
variable {X : Cx} {tg : Expr}
end
section
variable {X : Cx} {tg : Expr}
end
noncomputable def Its (x : Str) : It := ⟨fun i _ => i < x.cps.size, fun i H v H' => H' = H ∧ ∃ c, x.cps[i]? = some c ∧ v = .str ⟨#[c]⟩, fun i _ => x.cps.size ≤ i⟩
theorem turn_str {P : Program} {w : World} {K : PySem.W.Frag} {tg : Expr} (it : Addr) (x : Str) (t : Tok) (ty : String) (hty : ty = "str_ascii_iterator" ∨ ty = "str_iterator") :
  Turn P w K tg (Its x) [it] it (fun i h => h.IsStrIter it ty x t i) where
 mem := by simp
 obj := fun i h st b hb => by
  have e : b = it := by simpa using hb
  subst e
  obtain ⟨o, e, c, d⟩ := st
  exact ⟨o, e, fun v z => by rw [d] at z; cases z⟩
 keep := fun i h h' st k => let ⟨o, ho, r⟩ := st; ⟨o, k it (by simp) o ho, r⟩
 item := by
  intro X hP hw hK hc i pins s σ H E I hf st hg
  subst hP hw hK
  obtain ⟨f0, f1, f2, f3, f4, f5⟩ := hf it (by simp)
  have W : Walks X.prog X.w X.A it [it] [it] x.cps.size (SignAt x) (fun i h => h.IsStrIter it ty x t i) := by
   rcases hty with e | e
   ·rw [e]; exact Walks.strAscii (I.ok.hd hc) it x t
   ·rw [e]; exact Walks.strWide (I.ok.hd hc) it x t
  have hno : ["enumerate", "zip", "dict_itemiterator", "dict_reverseitemiterator", "odict_iterator", "itertools.zip_longest", "itertools.pairwise"].contains ty = false := by
   rcases hty with e | e
   ·rw [e]; decide
   ·rw [e]; decide
  refine W.item i s _ _ hg st fun v h' tk hv st' kk => ?_
  obtain ⟨c, u, hcx, rfl⟩ := hv
  have I1 : Inv X pins σ H { s with heap := h', toks := tk } := I.turned (fun b o hb e => kk b o (by simpa using hb) e) f0 f1 f3 f4 f5
  obtain ⟨oi, e, cc, dd⟩ := id st'
  exact ⟨_, rfl, go_of (s := { s with heap := h', toks := tk }) e cc dd hno ⟨.str ⟨#[c]⟩, H, I1, ⟨u, rfl⟩, ⟨rfl, c, hcx, rfl⟩, st', fun b hb => (hf b hb).1⟩⟩
 done := by
  intro X hP hw hK hc i pins s σ H E I hf st hg
  subst hP hw hK
  obtain ⟨f0, f1, f2, f3, f4, f5⟩ := hf it (by simp)
  have hx : x.cps[i]? = none := Array.getElem?_eq_none hg
  rcases hty with e | e
  ·rw [e] at st
   exact wpAny_pyNext_ascii_end (I.ok.hd hc) st hx fun h' eb => ⟨rfl, I.turned (t' := s.toks) (fun b o hb e => eb b o hb e) f0 f1 f3 f4 f5⟩
  ·rw [e] at st
   exact wpAny_pyNext_wide_end (I.ok.hd hc) st hx fun h' eb => ⟨rfl, I.turned (t' := s.toks) (fun b o hb e => eb b o hb e) f0 f1 f3 f4 f5⟩
 self := fun A i s Q E st h => by
  rcases hty with e | e
  ·rw [e] at st; exact wpAny_pyIter_striter_ascii st h
  ·rw [e] at st; exact wpAny_pyIter_striter_wide st h
noncomputable def iStr (te : TE) : TI := fun σ H R => te σ H fun v H1 => ∃ x, v = .str x ∧ R (Its x) H1
theorem pi_str {X : Cx} {tg e : Expr} {te : TE} (he : PE X e te) : PI X tg e (iStr te) := by
 intro pins s σ H R I h
 refine thn (he pins s σ H _ I h) fun v s1 ⟨y, H1, I1, r1, x, ex, q⟩ => ?_
 subst ex
 obtain ⟨t, rfl⟩ := r1
 cases ha : x.cps.all (· < 128)
 ·exact wpAny_pyIter_wide ha (pi_one (tk := s1.toks) I1 _ (turn_str _ x t "str_iterator" (.inr rfl)) ⟨_, Heap.get?_push_size _ rfl, rfl, rfl⟩ q)
 ·exact wpAny_pyIter_ascii ha (pi_one (tk := s1.toks) I1 _ (turn_str _ x t "str_ascii_iterator" (.inl rfl)) ⟨_, Heap.get?_push_size _ rfl, rfl, rfl⟩ q)
section
variable {prog : Program} {w : World} {A : Around} {E : Value → Shared → Prop} {s : Shared}
end
section
variable {X : Cx} {pins : List (Addr × Obj)} {σ : St} {H : Hp} {s : Shared} {d : Addr} {o : Obj}
end
section
variable {P : Program} {w : World} {K : PySem.W.Frag} {tg : Expr} {d : Addr} {o : Obj} {es : Array DictEntry} {ep : Nat}
end
section
variable {X : Cx} {tg e : Expr} {td : TE} {apos cpos : Pos}
end
noncomputable def Ite (K : PySem.W.Frag) (a : Addr) : It :=
 ⟨fun i H => ∃ (xs : List V) (x : V), SqL K H a xs ∧ xs[i]? = some x, fun i H v H' => ∃ T x, v = .ref T ∧ H T = none ∧ H' = upd H T (.tup [.int (i : Nat), x]) ∧ ∀ xs, SqL K H a xs → xs[i]? = some x, fun i H => ∃ xs : List V, SqL K H a xs ∧ xs.length ≤ i⟩
theorem turn_enum {P : Program} {w : World} {K : PySem.W.Frag} {elts : List Expr} {kk : Nat} {tpos : Pos} (a e it : Addr) :
  Turn P w K (.Tuple elts kk tpos) (Ite K a) [e, it] e (fun i h => (∃ old, IsEnum h e it ((i : Nat) : Int) old) ∧ h.IsListIter it a i ∧ e ≠ it) where
 mem := by simp
 obj := fun i h st b hb => by
  obtain ⟨⟨old, he⟩, ⟨o, ho, hc, hd⟩, _⟩ := st
  have e' : b = e ∨ b = it := by simpa using hb
  rcases e' with z | z
  ·rw [z]; exact ⟨_, he, fun v q => nomatch q⟩
  ·rw [z]; exact ⟨o, ho, fun v q => by rw [hd] at q; cases q⟩
 keep := fun i h h' st k => let ⟨⟨old, he⟩, hi, hne⟩ := st; ⟨⟨old, k e (by simp) _ he⟩, hi.at fun o q => k it (by simp) o q, hne⟩
 item := by
  intro X hP hw hK hc i pins s σ H E I hf st hg
  subst hP hw hK
  obtain ⟨⟨old, he⟩, hit, hne⟩ := st
  obtain ⟨xs, x, hq, hx⟩ := hg
  obtain ⟨its, rv, p, hz⟩ := I.list hq
  obtain ⟨u, hu, ru⟩ := rv.get hx
  have hel : e < s.heap.objs.size := Heap.lt_size he
  have hil : it < s.heap.objs.size := by obtain ⟨_, q, _⟩ := hit; exact Heap.lt_size q
  refine wpAny_pyNext_enum_item he hit p.isList (x := u) (by simpa using hu) hne fun h' ho hit' hT hsz hk => ?_
  refine ⟨_, rfl, wpAny_letOwnedTupleGo_enum (s := { s with heap := h', toks := s.toks + 1 }) ho fun h'' he' sb => ?_⟩
  have hT2 : h''.get? s.heap.objs.size = some { cls := .type "tuple", data := .seq #[.int i s.toks, u] } := (sb.2 _ (Nat.ne_of_gt hel)).trans hT
  have new : ObjOk X.prog X.w (upd H s.heap.objs.size (.tup [.int (i : Nat), x])) h'' s.heap.objs.size (.tup [.int (i : Nat), x]) :=
   ⟨by show 2 ≤ sizeLine; decide, [.int i s.toks, u], .cons ⟨_, rfl⟩ (.cons ru .nil), ⟨_, hT2, rfl, _, rfl⟩⟩
  have I1 : Inv X pins σ (upd H s.heap.objs.size (.tup [.int (i : Nat), x])) { s with heap := h'', toks := s.toks + 1 } :=
   I.turnedNew (ch := [e, it]) (fun b ob hb q => (sb.2 b (fun z => hb (by simp [z]))).trans (hk b ob (fun z => hb (by simp [z])) (fun z => hb (by simp [z])) q)) hf (Nat.le_refl _) new
  refine ⟨.ref s.heap.objs.size, _, I1, rfl, ⟨_, x, rfl, I.hok.fresh (Nat.le_refl _), rfl, fun ys hy => by rw [I.list_inj hy hq]; exact hx⟩, ⟨⟨u, ?_⟩, hit'.at fun o q => (sb.2 it (Ne.symm hne)).trans q, hne⟩, fun b hb => ?_⟩
  ·have e1 : ((i + 1 : Nat) : Int) = (i : Int) + 1 := by omega
   rw [e1]; exact he'
  ·have hb' : b < s.heap.objs.size := by
    have e' : b = e ∨ b = it := by simpa using hb
    rcases e' with z | z
    ·rw [z]; exact hel
    ·rw [z]; exact hil
   rw [upd_ne (Nat.ne_of_lt hb')]
   exact (hf b hb).1
 done := by
  intro X hP hw hK hc i pins s σ H E I hf st hg
  subst hP hw hK
  obtain ⟨⟨old, he⟩, hit, hne⟩ := st
  obtain ⟨xs, hq, hx⟩ := hg
  obtain ⟨its, rv, p, hz⟩ := I.list hq
  obtain ⟨f0, f1, f2, f3, f4, f5⟩ := hf it (by simp)
  have hl := rv.length
  exact wpAny_pyNext_enum_end (I.ok.hd hc) he hit p.isList (by simp; omega) fun h' eb => ⟨rfl, I.turned (t' := s.toks) (fun b o hb q => eb b o hb q) f0 f1 f3 f4 f5⟩
 self := fun A i s Q E st h => let ⟨⟨_, he⟩, _⟩ := st; wpAny_pyIter_enum he h
noncomputable def iEnum (K : PySem.W.Frag) (ta : TA) : TI := fun σ H R => ta σ H fun vs H1 => ∃ a xs, vs = [.ref a] ∧ SqL K H1 a xs ∧ R (Ite K a) H1
theorem pi_enum {X : Cx} {e : Expr} {ta : TA} {p pos tpos : Pos} {elts : List Expr} {kk : Nat} (hg : Gl X "enumerate") (hm : X.mg "enumerate" = none) (ha : PA X [e] ta) (hs : starEach [e] X.env = [(false, eval e X.env)] := by rfl) :
  PI X (.Tuple elts kk tpos) (.Call (.Name "enumerate" p) [e] [] pos) (iEnum X.K ta) := by
 intro pins s σ H R I h
 refine Call_ (ld_blt I hg hm boot_enumerate (PyProof.Rows.callWith_type1 (thn (ha pos pins s σ H _ I h) fun us s1 ⟨vs, H1, I1, r1, q1⟩ => ?_) hs rfl))
 obtain ⟨a, xs, ex, hq, q⟩ := q1
 subst ex
 cases r1 with
 | cons r rr =>
  cases rr
  cases r
  obtain ⟨its, rv, p', hz⟩ := I1.list hq
  refine call_enumerate_list p'.isList fun h' he hit hsz hk => wpAny_pyIter_enum he ?_
  have I2 : Inv X pins σ H1 { s1 with heap := h' } := I1.kept (t' := s1.toks) hk
  refine ⟨s1.heap.objs.size + 1, [s1.heap.objs.size + 1, s1.heap.objs.size], _, _, H1, rfl, I2, turn_enum a (s1.heap.objs.size + 1) s1.heap.objs.size, ⟨⟨.none, he⟩, hit, Nat.succ_ne_self _⟩, fun b hb => ?_, q⟩
  have e' : b = s1.heap.objs.size + 1 ∨ b = s1.heap.objs.size := by simpa using hb
  have hle : s1.heap.objs.size ≤ b := by
   rcases e' with z | z
   ·rw [z]; exact Nat.le_add_right _ _
   ·rw [z]; exact Nat.le_refl _
  exact I1.fpOk hle (I1.hok.fresh hle)
end L2
section
namespace Bits
open PySem PyProof.Rows
end Bits
end
section
namespace TL
open PySem PySem.Builtin PySem.Builtin.Str PySem.StrLaws
noncomputable abbrev tl (x : Str) : List Nat := x.cps.toList
theorem len_tl (x : Str) : x.length = (tl x).length := by simp [tl, Str.length]
theorem ext_tl {x y : Str} (h : tl x = tl y) : x = y := Str.ext' (Array.toList_inj.mp h)
theorem tl_append (x y : Str) : tl (x ++ y) = tl x ++ tl y := by
 show (x ++ y).cps.toList = _
 rw [Str.cps_append, Array.toList_append]
noncomputable def numL (n : Nat) : List Nat := (Nat.toDigits 10 n).map Char.toNat
theorem tl_num (n : Nat) : tl (Str.ofString (toString ((n : Nat) : Int))) = numL n := PySem.W.KIN.signs_num n
theorem digitChar_nat : ∀ d : Nat, d < 10 → (Nat.digitChar d).toNat = 48 + d := by decide
theorem numL_lt {n : Nat} (h : n < 10) : numL n = [48 + n] := by
 unfold numL
 rw [Nat.toDigits_of_lt_base h]
 show [(Nat.digitChar n).toNat] = _
 rw [digitChar_nat n h]
theorem numL_step {n : Nat} (h : 10 ≤ n) : numL n = numL (n / 10) ++ [48 + n % 10] := by
 have hm : n % 10 < 10 := Nat.mod_lt n (by decide)
 have t : Nat.toDigits 10 (n / 10) ++ Nat.toDigits 10 (n % 10) = Nat.toDigits 10 (10 * (n / 10) + n % 10) := Nat.toDigits_append_toDigits (by decide) (by omega) hm
 rw [Nat.div_add_mod] at t
 show (Nat.toDigits 10 n).map Char.toNat = _
 rw [← t, List.map_append, Nat.toDigits_of_lt_base hm]
 show (Nat.toDigits 10 (n / 10)).map Char.toNat ++ [(Nat.digitChar (n % 10)).toNat] = _
 rw [digitChar_nat _ hm] <;> rfl
theorem numL_digits (n : Nat) : NumText.AllDigits (numL n) := by
 induction n using Nat.strongRecOn with
 | _ n ih =>
  by_cases h : n < 10
  ·rw [numL_lt h]
   intro c hc
   rw [List.mem_singleton.mp hc]
   omega
  ·rw [numL_step (by omega)]
   intro c hc
   rcases List.mem_append.mp hc with hc | hc
   ·exact ih (n / 10) (by omega) c hc
   ·have hm : n % 10 < 10 := Nat.mod_lt n (by decide)
    rw [List.mem_singleton.mp hc]
    omega
theorem numL_ne (n : Nat) : numL n ≠ [] := by
 by_cases h : n < 10
 ·rw [numL_lt h]
  simp
 ·rw [numL_step (by omega)]
  simp
end TL
end
namespace L2
open PySem PySem.Spec PyProof.Rows
section
variable {X : Cx} {pins : List (Addr × Obj)} {σ : St} {H : Hp} {s : Shared} {Q : VK}
end
section
variable {X : Cx}
end
section
variable {X : Cx} {o e : Expr} {to te : TE}
end
end L2
namespace L2
open PySem PySem.Spec PyProof.Rows
section
variable {X : Cx}
end
end L2
namespace Att
open PySem PySem.W PySem.Calls PyProof.Rows
section
variable {prog : Program} {w : World} {A : Around} {E : Value → Shared → Prop} {s : Shared} {K : Frag}
end
end Att
namespace L2
open PySem PySem.Spec PyProof.Rows
end L2
namespace L2
open PySem PySem.Spec PyProof.Rows
end L2
namespace L2
open PySem PySem.Spec PyProof.Rows
noncomputable def inClass (s : Stmt) (j : Nat) : Stmt := match s with
 | .ClassDef _ _ _ body _ _ _ _ _ _ _ => body.getD j (.Pass ⟨0, 0, 0, 0⟩)
 | _ => .Pass ⟨0, 0, 0, 0⟩
noncomputable def defArgs (s : Stmt) : Arguments := match s with
 | .FunctionDef _ a _ _ _ _ _ _ _ _ => a
 | _ => { posonlyargs := [], args := [], vararg := none, kwonlyargs := [], kw_defaults := [], kwarg := none, defaults := [] }
noncomputable def defBody (s : Stmt) : List Stmt := match s with
 | .FunctionDef _ _ b _ _ _ _ _ _ _ => b
 | _ => []
noncomputable def defScope (s : Stmt) : Scope := match s with
 | .FunctionDef _ _ _ _ _ _ sc _ _ _ => sc
 | _ => { kind := .function, names := [], isGenerator := false, isCoroutine := false }
noncomputable abbrev CX0 : CXT := fun _ _ _ _ _ _ => False
noncomputable abbrev E0 : XK := fun _ _ _ => False
theorem pass0 {X : Cx} : Passes CX0 X E0 := fun _ _ _ _ _ _ _ h => h.elim
structure Fun (K : PySem.W.Frag) (x qual : Str) (st : Stmt) (f : Addr) (fd : FuncData) : Prop where
 ex : ∃ (oc : Value) (od : Option Addr) (kV doc pm : Value) (an : Option Addr) (cdv ct : Value) (osl : Array (Option Value)),
  fd = PySem.W.fnOf x qual (defArgs st) (defBody st) (defScope st) .none kV doc pm an cdv ct ∧ K.lookup f = some ⟨oc, od, .func fd, osl⟩ ∧ PySem.W.codeIn K cdv qual = true
 kp : PySem.W.keepIn K (.ref f) = true
section
variable {P : Program} {w : World} {K : PySem.W.Frag} {mg : Str → Option Value} {base : Heap}
theorem Fun.ok {x qual : Str} {st : Stmt} {f : Addr} {fd : FuncData} {N ps : List Str} {k : Nat} {sp : Sp} (F : Fun K x qual st f fd) (S : FnScope N ps (defScope st)) (len : ∀ vs H Q E, sp vs H Q E → vs.length = ps.length)
  (hbody : ∀ (cdv : Value) (A : Around) (outer : List Env) (s : Shared) (H : Hp) (vs : List V) (Q : VK) (E : XK), Room k (A.deeper (envOfC qual (defScope st) s.heap.objs.size f cdv)) → sp vs H Q E →
   ∃ t, PSs (cxOf CX0 P w K mg base N qual (defScope st) f cdv A outer s H E).nox (defBody st) t ∧ t { nx := fun _ H' => Q .non H', rt := Q } (start N vs) H) : FnOk P w K mg base CX0 (k + 1) f fd ps sp := by
 obtain ⟨oc, od, kV, doc, pm, an, cdv, ct, osl, rfl, lk, hcd⟩ := F.ex
 refine fn_of lk hcd S len fun A outer s H vs Q E hr hsp => ?_
 obtain ⟨t, h, q⟩ := hbody cdv A outer s H vs Q E hr hsp
 exact ⟨t, h.nox, q⟩
theorem Fun.binds {x qual : Str} {st : Stmt} {f : Addr} {fd : FuncData} {ps : List Str} (F : Fun K x qual st f fd)
  (h : ∀ (kV doc pm : Value) (an : Option Addr) (cdv ct : Value) (us : List Value), us.length = ps.length → bindArgs (PySem.W.fnOf x qual (defArgs st) (defBody st) (defScope st) .none kV doc pm an cdv ct) ⟨us, []⟩ = pure (ps.zip us)) : Binds K fd ps [] := by
 obtain ⟨oc, od, kV, doc, pm, an, cdv, ct, osl, rfl, lk, hcd⟩ := F.ex
 exact .all (h kV doc pm an cdv ct)
theorem fun_mk {x qual : Str} {st : Stmt} {f : Addr} {oc : Value} {od an : Option Addr} {osl : Array (Option Value)} {kV doc pm cdv ct : Value} (l : K.lookup f = some ⟨oc, od, .func (PySem.W.fnOf x qual (defArgs st) (defBody st) (defScope st) .none kV doc pm an cdv ct), osl⟩)
  (c : PySem.W.codeIn K cdv qual = true) (k : PySem.W.keepIn K (.ref f) = true) : Fun K x qual st f (PySem.W.fnOf x qual (defArgs st) (defBody st) (defScope st) .none kV doc pm an cdv ct) := ⟨⟨oc, od, kV, doc, pm, an, cdv, ct, osl, rfl, l, c⟩, k⟩
end
theorem hu_of {A : Around} {k : Nat} (hr : Room k A) : A.units + 1 < cLine := Nat.lt_of_le_of_lt (Nat.add_le_add_left (by decide : 1 ≤ 64) _) hr.units
section
variable {X : Cx}
theorem pv (i : Nat) {x : Str} {pos : Pos} (hN : X.N[i]? = some x := by rfl) (hv : Vis X.env.scope x := by first | exact Or.inl rfl | exact Or.inr (Or.inl rfl) | exact Or.inr (Or.inr rfl)) (hd : (x == ("__debug__" : Str)) = false := by decide)
  (hcd : (x == ("__classdict__" : Str)) = false := by decide) : PE X (.Name x pos) (tVar i) := pe_var hN hv hd hcd
theorem call_lenD : CallR X (.builtin "len") (fun xs H Q => ∃ a kvs, xs = [V.ref a] ∧ H a = some (.dK kvs) ∧ Q (.int kvs.length) H) := by
 intro pins s σ H xs us Q I r h
 obtain ⟨a, kvs, rfl, ha, q⟩ := h
 obtain ⟨u, rfl, ru⟩ := vals1 r
 cases ru
 exact d_len I (.inl ha) fun t s' I' => ⟨.int kvs.length, H, I', ⟨t, rfl⟩, q⟩
end
theorem iteF {A B : Prop} (h : B) : if false = true then A else B := by
 rw [if_neg Bool.false_ne_true]
 exact h
theorem iteT {A B : Prop} (h : A) : if true = true then A else B := by
 rw [if_pos rfl]
 exact h
noncomputable def Same (H H' : Hp) : Prop := ∀ b o, H b = some o → H' b = some o
theorem Same.refl (H : Hp) : Same H H := fun _ _ h => h
theorem Same.trans {H H1 H2 : Hp} (a : Same H H1) (b : Same H1 H2) : Same H H2 := fun c o h => b c o (a c o h)
theorem Same.free {H H' : Hp} (e : Same H H') {l : Addr} (h : H' l = Option.none) : H l = Option.none := by
 cases q : H l with
 | none => rfl
 | some o =>
  rw [e l o q] at h
  cases h
theorem Same.seq {K : PySem.W.Frag} {H H' : Hp} {a : Addr} {xs : List V} (e : Same H H') (h : SqL K H a xs) : SqL K H' a xs := by
 rcases h with (h | ⟨o, h⟩) | h
 ·exact .inl (.inl (e _ _ h))
 ·exact .inl (.inr ⟨o, e _ _ h⟩)
 ·exact .inr h
section
variable {κ : Type} [DecidableEq κ]
theorem nd_snoc : ∀ {l : List κ} {k : κ}, l.Nodup → ¬ k ∈ l → (l ++ [k]).Nodup
 | [], k, _, _ => by simp
 | a :: r, k, h, hk => by
  obtain ⟨h1, h2⟩ := List.nodup_cons.mp h
  show (a :: (r ++ [k])).Nodup
  refine List.nodup_cons.mpr ⟨fun m => ?_, nd_snoc h2 fun m => hk (List.mem_cons.mpr (Or.inr m))⟩
  rcases List.mem_append.mp m with q | q
  ·exact h1 q
  ·exact hk (List.mem_cons.mpr (Or.inl (List.mem_singleton.mp q).symm))
end
theorem at_of {xs : List V} {z : Int} {j : Nat} {v : V} (e : z = (j : Int)) (h : xs[j]? = some v) : atI xs z = some v := by
 rw [e]
 exact atI_nat h
theorem Same.made {H H1 : Hp} {x dx C : Addr} (nx : H x = Option.none) (nd : H dx = Option.none) (k : ∀ b o, (upd (upd H dx (.own x)) x (.ins C dx [])) b = some o → b ≠ x → H1 b = some o) : Same H H1 := fun b o e =>
 k b o (by rw [upd_ne (ne_of_none e nx), upd_ne (ne_of_none e nd)]; exact e) (ne_of_none e nx)
end L2
end
section
set_option maxRecDepth 100000
namespace L2
open PySem PySem.Spec PyProof.Rows
open PySem.W (WData Codec OpenSpec Well WellAll ReadsW ReadsAllW)
mutual
inductive Dw (K : PySem.W.Frag) (H : Hp) : V → WData → Prop
 | non : Dw K H .non .none
 | bl (b : Bool) : Dw K H (.bl b) (.bool b)
 | int (i : Int) : Dw K H (.int i) (.int i)
 | str (x : Str) : Dw K H (.str x) (.str x)
 | byt (b : Array UInt8) : Dw K H (.byt b) (.bytes b.toList)
 | lst {a : Addr} {xs : List V} {ds : List WData} : SqL K H a xs → DwAll K H xs ds → Dw K H (.ref a) (.list ds)
 | tup {a : Addr} {xs : List V} {ds : List WData} : SqT K H a xs → DwAll K H xs ds → Dw K H (.ref a) (.tuple ds)
inductive DwAll (K : PySem.W.Frag) (H : Hp) : List V → List WData → Prop
 | nil : DwAll K H [] []
 | cons {v : V} {vs : List V} {d : WData} {ds : List WData} : Dw K H v d → DwAll K H vs ds → DwAll K H (v :: vs) (d :: ds)
end
theorem dw_ints {K : PySem.W.Frag} {H : Hp} : ∀ ns : List Int, DwAll K H (ns.map V.int) (ns.map WData.int)
 | [] => .nil
 | n :: r => .cons (.int n) (dw_ints r)
theorem ints_dw {K : PySem.W.Frag} {H : Hp} : ∀ (ns : List Int) (xs : List V), DwAll K H xs (ns.map WData.int) → xs = ns.map V.int
 | [], xs, h => by
  cases h
  rfl
 | n :: r, xs, h => by
  cases h with
  | cons h1 h2 =>
   cases h1
   rw [ints_dw r _ h2] <;> rfl
section
variable {P : Program} {w : World} {K : PySem.W.Frag} {H : Hp} {h : Heap} {R : PySem.W.WRecords} {cl : Str → Option Addr}
theorem sqL_at {a : Addr} {xs : List V} (hok : HOk P w H h) (KX : K.In h) (q : SqL K H a xs) : ∃ (its : List Value) (o : Obj) (n : Nat), Vals xs its ∧ h.get? a = some o ∧ o.cls = .type "list" ∧ o.data = .seq its.toArray n := by
 rcases q with q | ⟨o, its, n, e, hc, _, hd, _, hv⟩
 ·obtain ⟨_, its, n, hv, e⟩ := (show ObjOk P w H h a (.lst xs) from q.ok hok)
  exact ⟨its, _, n, hv, e, rfl, rfl⟩
 ·exact ⟨its.toList, o, n, hv, KX _ _ e, hc, by simp [hd]⟩
theorem sqT_at {a : Addr} {xs : List V} (hok : HOk P w H h) (KX : K.In h) (q : SqT K H a xs) : ∃ (its : List Value) (o : Obj) (n : Nat), Vals xs its ∧ h.get? a = some o ∧ o.cls = .type "tuple" ∧ o.data = .seq its.toArray n := by
 rcases q with q | ⟨o, its, n, e, hc, hd, _, hv⟩
 ·obtain ⟨_, its, hv, o, e, hc, n, hd⟩ := (show ObjOk P w H h a (.tup xs) from q.ok hok)
  exact ⟨its, o, n, hv, e, hc, hd⟩
 ·exact ⟨its.toList, o, n, hv, KX _ _ e, hc, by simp [hd]⟩
mutual
theorem Dw.reads (hok : HOk P w H h) (KX : K.In h) : ∀ (d : WData) (v : V) (u : Value), Dw K H v d → RelV v u → ∃ as, ReadsW R cl h u d as
 | .none, _, _, x, r => by
  cases x
  cases r
  exact ⟨_, ReadsW.none⟩
 | .bool b, _, _, x, r => by
  cases x
  cases r
  exact ⟨_, ReadsW.bool b⟩
 | .int i, _, _, x, r => by
  cases x
  obtain ⟨t, rfl⟩ := r
  exact ⟨_, ReadsW.int i t⟩
 | .str s, _, _, x, r => by
  cases x
  obtain ⟨t, rfl⟩ := r
  exact ⟨_, ReadsW.str s t⟩
 | .bytes b, _, _, x, r => by
  cases x
  obtain ⟨t, rfl⟩ := r
  exact ⟨_, ReadsW.bytes _ t⟩
 | .list ds, _, _, x, r => by
  cases x with
  | lst hs ha =>
   cases r
   obtain ⟨its, o, n, rv, ho, hc, hd⟩ := sqL_at hok KX hs
   obtain ⟨as, hr⟩ := Dw.readsAll hok KX ds _ its ha rv
   exact ⟨_, ReadsW.list ho hc hd hr⟩
 | .tuple ds, _, _, x, r => by
  cases x with
  | tup hs ha =>
   cases r
   obtain ⟨its, o, n, rv, ho, hc, hd⟩ := sqT_at hok KX hs
   obtain ⟨as, hr⟩ := Dw.readsAll hok KX ds _ its ha rv
   exact ⟨_, ReadsW.tuple ho hc hd hr⟩
 | .float _, _, _, x, _ => by cases x
 | .dict _, _, _, x, _ => by cases x
 | .bytearray _, _, _, x, _ => by cases x
 | .set _, _, _, x, _ => by cases x
 | .frozenset _, _, _, x, _ => by cases x
 | .obj _ _, _, _, x, _ => by cases x
theorem Dw.readsAll (hok : HOk P w H h) (KX : K.In h) : ∀ (ds : List WData) (vs : List V) (us : List Value), DwAll K H vs ds → Vals vs us → ∃ as, ReadsAllW R cl h us ds as
 | [], _, _, x, r => by
  cases x
  cases r
  exact ⟨_, ReadsAllW.nil⟩
 | d :: ds, _, _, x, r => by
  cases x with
  | cons h1 h2 =>
   cases r with
   | cons r1 r2 =>
    obtain ⟨as, q1⟩ := Dw.reads hok KX d _ _ h1 r1
    obtain ⟨bs, q2⟩ := Dw.readsAll hok KX ds _ _ h2 r2
    exact ⟨_, ReadsAllW.cons q1 q2⟩
end
end
mutual
noncomputable def plW : WData → Bool
 | .none => true
 | .bool _ => true
 | .int _ => true
 | .str _ => true
 | .bytes _ => true
 | .list xs => plWs xs
 | .tuple xs => plWs xs
 | _ => false
noncomputable def plWs : List WData → Bool
 | [] => true
 | x :: r => plW x && plWs r
end
theorem plWs_map {α : Type} {f : α → WData} (h : ∀ a, plW (f a) = true) : ∀ l : List α, plWs (l.map f) = true
 | [] => rfl
 | x :: r => by
  show (plW (f x) && plWs (r.map f)) = true
  rw [h x, plWs_map h r] <;> rfl
theorem pl_enc : ∀ (c : Codec) (a : c.denote), plW (c.enc a) = true
 | .unit, _ => rfl
 | .bool, _ => rfl
 | .int _ _, _ => rfl
 | .nat _ _, _ => rfl
 | .u8, _ => rfl
 | .bytes _ _, _ => rfl
 | .text _ _ _ _, _ => rfl
 | .list _ _ c, a => plWs_map (fun x => pl_enc c x) a
 | .pair c d, a => by
  show (plW (c.enc a.1) && (plW (d.enc a.2) && true)) = true
  rw [pl_enc c a.1, pl_enc d a.2] <;> rfl
 | .triple c d e, a => by
  show (plW (c.enc a.1) && (plW (d.enc a.2.1) && (plW (e.enc a.2.2) && true))) = true
  rw [pl_enc c a.1, pl_enc d a.2.1, pl_enc e a.2.2] <;> rfl
 | .option c, none => rfl
 | .option c, some x => pl_enc c x
theorem pl_encAll : ∀ (cs : List Codec) (a : Codec.denoteAll cs), plWs (Codec.encAll cs a) = true
 | [], _ => rfl
 | c :: cs, a => by
  show (plW (c.enc a.1) && plWs (Codec.encAll cs a.2)) = true
  rw [pl_enc c a.1, pl_encAll cs a.2] <;> rfl
theorem weight_mem : ∀ {xs : List WData} {d : WData}, d ∈ xs → d.weight ≤ WData.weightAll xs
 | [], d, h => absurd h (by simp)
 | x :: r, d, h => by
  show d.weight ≤ x.weight + 1 + WData.weightAll r
  rcases List.mem_cons.mp h with e | m
  ·rw [e]
   omega
  ·have z := weight_mem m
   omega
noncomputable def toV : Value → V
 | .none => .non
 | .bool b => .bl b
 | .int i _ => .int i
 | .str x _ => .str x
 | .bytes b _ => .byt b
 | .ref a => .ref a
 | _ => .non
noncomputable def OkU (A : List Addr) : Value → Prop
 | .none => True
 | .bool _ => True
 | .int _ _ => True
 | .str _ _ => True
 | .bytes _ _ => True
 | .ref a => a ∈ A
 | _ => False
theorem OkU.mono {A B : List Addr} (h : ∀ a ∈ A, a ∈ B) : ∀ {u : Value}, OkU A u → OkU B u := fun {u} x => by
 cases u with
 | ref a => exact h a x
 | none => trivial
 | bool b => trivial
 | int i t => trivial
 | str s t => trivial
 | bytes b t => trivial
 | _ => exact False.elim x
theorem relV_toV {A : List Addr} {u : Value} (x : OkU A u) : RelV (toV u) u := by
 cases u with
 | ref a => rfl
 | none => rfl
 | bool b => rfl
 | int i t => exact ⟨t, rfl⟩
 | str s t => exact ⟨t, rfl⟩
 | bytes b t => exact ⟨t, rfl⟩
 | _ => exact False.elim x
theorem vals_toV {A : List Addr} : ∀ {vs : List Value}, (∀ u ∈ vs, OkU A u) → Vals (vs.map toV) vs
 | [], _ => .nil
 | u :: r, h => .cons (relV_toV (h u (List.mem_cons_self ..))) (vals_toV fun x hx => h x (List.mem_cons_of_mem _ hx))
noncomputable def ArgOb (h : Heap) (A : List Addr) (a : Addr) : Prop := ∃ vs : List Value, vs.length ≤ sizeLine ∧ (∀ u ∈ vs, OkU A u) ∧
 (h.get? a = some { cls := .type "list", data := .seq vs.toArray } ∨ h.get? a = some { cls := .type "tuple", data := .seq vs.toArray })
theorem ArgOb.mono {h : Heap} {A B : List Addr} {a : Addr} (k : ∀ a ∈ A, a ∈ B) (x : ArgOb h A a) : ArgOb h B a := by
 obtain ⟨vs, h1, h2, h3⟩ := x
 exact ⟨vs, h1, fun u hu => (h2 u hu).mono k, h3⟩
theorem wellAll_len {P : Params} {h : Heap} : ∀ {vs : List Value} {ds : List WData}, WellAll P h vs ds → vs.length = ds.length
 | _, _, .nil => rfl
 | _, _, .cons _ b => by
  show _ + 1 = _ + 1
  rw [wellAll_len b]
theorem well_list {P : Params} {h : Heap} {v : Value} {ds : List WData} (x : Well P h v (.list ds)) : ∃ (a : Addr) (vs : List Value), v = .ref a ∧ h.get? a = some { cls := .type "list", data := .seq vs.toArray } ∧ WellAll P h vs ds := by
 cases x with
 | list ho hall => exact ⟨_, _, rfl, ho, hall⟩
theorem well_tuple {P : Params} {h : Heap} {v : Value} {ds : List WData} (x : Well P h v (.tuple ds)) : ∃ (a : Addr) (vs : List Value), v = .ref a ∧ h.get? a = some { cls := .type "tuple", data := .seq vs.toArray } ∧ WellAll P h vs ds := by
 cases x with
 | tuple ho hall => exact ⟨_, _, rfl, ho, hall⟩
theorem well_cons {P : Params} {h : Heap} {us : List Value} {d : WData} {ds : List WData} (x : WellAll P h us (d :: ds)) : ∃ (v : Value) (vs : List Value), us = v :: vs ∧ Well P h v d ∧ WellAll P h vs ds := by
 cases x with
 | cons a b => exact ⟨_, _, rfl, a, b⟩
theorem line_of {n : Nat} (h : n ≤ 1048576) : n ≤ sizeLine := Nat.le_trans h (by decide)
section
variable {P : Params} {h : Heap}
mutual
theorem area_one : ∀ (d : WData) (v : Value), Well P h v d → plW d = true → d.weight ≤ 1048576 → ∃ A : List Addr, OkU A v ∧ ∀ a ∈ A, ArgOb h A a
 | .none, _, x, _, _ => by
  cases x
  exact ⟨[], trivial, fun a m => absurd m (by simp)⟩
 | .bool b, _, x, _, _ => by
  cases x
  exact ⟨[], trivial, fun a m => absurd m (by simp)⟩
 | .int i, _, x, _, _ => by
  cases x
  exact ⟨[], trivial, fun a m => absurd m (by simp)⟩
 | .str s, _, x, _, _ => by
  cases x
  exact ⟨[], trivial, fun a m => absurd m (by simp)⟩
 | .bytes b, _, x, _, _ => by
  cases x
  exact ⟨[], trivial, fun a m => absurd m (by simp)⟩
 | .list ds, _, x, p, z => by
  obtain ⟨a, vs, rfl, ho, hall⟩ := well_list x
  have z2 : WData.weightAll ds ≤ 1048576 := z
  obtain ⟨A, h1, h2⟩ := area_all ds _ hall p fun d hd => Nat.le_trans (weight_mem hd) z2
  have k : ∀ b ∈ A, b ∈ a :: A := fun b hb => List.mem_cons_of_mem _ hb
  refine ⟨a :: A, List.mem_cons_self .., fun b hb => ?_⟩
  rcases List.mem_cons.mp hb with e | m
  ·rw [e]
   exact ⟨vs, line_of (by rw [wellAll_len hall]; exact Nat.le_trans (PySem.W.length_le_weightAllW ds) z2), fun u hu => (h1 u hu).mono k, .inl ho⟩
  ·exact (h2 b m).mono k
 | .tuple ds, _, x, p, z => by
  obtain ⟨a, vs, rfl, ho, hall⟩ := well_tuple x
  have z2 : WData.weightAll ds ≤ 1048576 := z
  obtain ⟨A, h1, h2⟩ := area_all ds _ hall p fun d hd => Nat.le_trans (weight_mem hd) z2
  have k : ∀ b ∈ A, b ∈ a :: A := fun b hb => List.mem_cons_of_mem _ hb
  refine ⟨a :: A, List.mem_cons_self .., fun b hb => ?_⟩
  rcases List.mem_cons.mp hb with e | m
  ·rw [e]
   exact ⟨vs, line_of (by rw [wellAll_len hall]; exact Nat.le_trans (PySem.W.length_le_weightAllW ds) z2), fun u hu => (h1 u hu).mono k, .inr ho⟩
  ·exact (h2 b m).mono k
 | .float _, _, _, p, _ => Bool.noConfusion (show false = true from p)
 | .dict _, _, _, p, _ => Bool.noConfusion (show false = true from p)
 | .bytearray _, _, _, p, _ => Bool.noConfusion (show false = true from p)
 | .set _, _, _, p, _ => Bool.noConfusion (show false = true from p)
 | .frozenset _, _, _, p, _ => Bool.noConfusion (show false = true from p)
 | .obj _ _, _, _, p, _ => Bool.noConfusion (show false = true from p)
theorem area_all : ∀ (ds : List WData) (vs : List Value), WellAll P h vs ds → plWs ds = true → (∀ d ∈ ds, d.weight ≤ 1048576) → ∃ A : List Addr, (∀ u ∈ vs, OkU A u) ∧ ∀ a ∈ A, ArgOb h A a
 | [], _, x, _, _ => by
  cases x
  exact ⟨[], fun u m => absurd m (by simp), fun a m => absurd m (by simp)⟩
 | d :: ds, _, x, p, z => by
  obtain ⟨v, vs, rfl, x1, x2⟩ := well_cons x
  have q : plW d = true ∧ plWs ds = true := Bool.and_eq_true_iff.mp p
  obtain ⟨A, a1, a2⟩ := area_one d v x1 q.1 (z d (List.mem_cons_self ..))
  obtain ⟨B, b1, b2⟩ := area_all ds vs x2 q.2 fun e he => z e (List.mem_cons_of_mem _ he)
  have kA : ∀ b ∈ A, b ∈ A ++ B := fun b hb => List.mem_append.mpr (.inl hb)
  have kB : ∀ b ∈ B, b ∈ A ++ B := fun b hb => List.mem_append.mpr (.inr hb)
  refine ⟨A ++ B, fun u hu => ?_, fun b hb => ?_⟩
  ·rcases List.mem_cons.mp hu with e | m
   ·rw [e]
    exact a1.mono kA
   ·exact (b1 u m).mono kB
  ·rcases List.mem_append.mp hb with m | m
   ·exact (a2 b m).mono kA
   ·exact (b2 b m).mono kB
end
end
noncomputable def hoOf (o : Obj) : Option HO := match o.data with
 | .seq vs _ => if (o.cls == Value.type "list") = true then some (.frz o (.lst (vs.toList.map toV))) else some (.frz o (.tup (vs.toList.map toV)))
 | _ => none
noncomputable def argH (K : PySem.W.Frag) (h : Heap) (A : List Addr) : Hp := fun b => if b ∈ A then (if (K.lookup b).isNone = true then (h.get? b).bind hoOf else none) else none
noncomputable def OnlyF (H : Hp) : Prop := ∀ b, H b = none ∨ ∃ o u, H b = some (.frz o u)
theorem hoOf_lst (vs : List Value) : hoOf { cls := .type "list", data := .seq vs.toArray } = some (.frz { cls := .type "list", data := .seq vs.toArray } (.lst (vs.map toV))) := by
 show (if (Value.type "list" == Value.type "list") = true then some (HO.frz { cls := .type "list", data := .seq vs.toArray } (.lst (vs.toArray.toList.map toV))) else some (HO.frz { cls := .type "list", data := .seq vs.toArray } (.tup (vs.toArray.toList.map toV)))) = _
 rw [if_pos (beq_self_eq_true _)]
theorem hoOf_tup (vs : List Value) : hoOf { cls := .type "tuple", data := .seq vs.toArray } = some (.frz { cls := .type "tuple", data := .seq vs.toArray } (.tup (vs.map toV))) := by
 show (if (Value.type "tuple" == Value.type "list") = true then some (HO.frz { cls := .type "tuple", data := .seq vs.toArray } (.lst (vs.toArray.toList.map toV))) else some (HO.frz { cls := .type "tuple", data := .seq vs.toArray } (.tup (vs.toArray.toList.map toV)))) = _
 rw [if_neg (by decide)]
section
variable {P : Program} {w : World} {K : PySem.W.Frag} {h : Heap} {A : List Addr}
theorem argH_at {b : Addr} {o : Obj} (hb : b ∈ A) (hk : K.lookup b = none) (e : h.get? b = some o) : argH K h A b = hoOf o := by
 unfold argH
 rw [if_pos hb, hk, if_pos (show (none : Option Obj).isNone = true from rfl), e] <;> rfl
theorem of_argH {b : Addr} {u : HO} (q : argH K h A b = some u) : b ∈ A ∧ K.lookup b = none := by
 unfold argH at q
 by_cases hb : b ∈ A
 ·rw [if_pos hb] at q
  cases hk : K.lookup b with
  | none => exact ⟨hb, rfl⟩
  | some o =>
   rw [hk, if_neg (by simp)] at q
   cases q
 ·rw [if_neg hb] at q
  cases q
theorem argH_is (ar : ∀ a ∈ A, ArgOb h A a) {b : Addr} {u : HO} (q : argH K h A b = some u) : K.lookup b = none ∧ ∃ vs : List Value, vs.length ≤ sizeLine ∧ (∀ u ∈ vs, OkU A u) ∧
    ((h.get? b = some { cls := .type "list", data := .seq vs.toArray } ∧ u = .frz { cls := .type "list", data := .seq vs.toArray } (.lst (vs.map toV))) ∨
     (h.get? b = some { cls := .type "tuple", data := .seq vs.toArray } ∧ u = .frz { cls := .type "tuple", data := .seq vs.toArray } (.tup (vs.map toV)))) := by
  obtain ⟨hb, hk⟩ := of_argH q
  obtain ⟨vs, h1, h2, h3⟩ := ar b hb
  refine ⟨hk, vs, h1, h2, ?_⟩
  rcases h3 with e | e
  · rw [argH_at hb hk e, hoOf_lst] at q
    exact .inl ⟨e, (Option.some.inj q).symm⟩
  · rw [argH_at hb hk e, hoOf_tup] at q
    exact .inr ⟨e, (Option.some.inj q).symm⟩
theorem argH_only (ar : ∀ a ∈ A, ArgOb h A a) : OnlyF (argH K h A) := fun b => by
 cases q : argH K h A b with
 | none => exact .inl rfl
 | some u =>
  obtain ⟨_, vs, _, _, ⟨_, e⟩ | ⟨_, e⟩⟩ := argH_is ar q
  ·exact .inr ⟨_, _, by rw [e]⟩
  ·exact .inr ⟨_, _, by rw [e]⟩
theorem argH_ok (ar : ∀ a ∈ A, ArgOb h A a) : HOk P w (argH K h A) h := fun b u q => by
 obtain ⟨_, vs, h1, h2, ⟨e, rfl⟩ | ⟨e, rfl⟩⟩ := argH_is ar q
 ·exact ⟨e, by rw [List.length_map]; exact h1, vs, _, vals_toV h2, e⟩
 ·exact ⟨e, by rw [List.length_map]; exact h1, vs, vals_toV h2, _, e, rfl, _, rfl⟩
theorem seq_inj {c c' : Value} {vs us : List Value} (e : (some { cls := c, data := .seq vs.toArray } : Option Obj) = some { cls := c', data := .seq us.toArray }) : c = c' ∧ vs = us := by
 have e1 := Option.some.inj e
 have e2 : c = c' := congrArg Obj.cls e1
 have e3 : Data.seq vs.toArray = Data.seq us.toArray := congrArg Obj.data e1
 injection e3 with e4
 refine ⟨e2, ?_⟩
 have e5 := congrArg Array.toList e4
 simpa using e5
theorem argL (KX : K.In h) (ar : ∀ a ∈ A, ArgOb h A a) {a : Addr} {vs : List Value} (ha : a ∈ A) (e : h.get? a = some { cls := .type "list", data := .seq vs.toArray }) : (∀ u ∈ vs, OkU A u) ∧ SqL K (argH K h A) a (vs.map toV) := by
 obtain ⟨us, h1, h2, h3⟩ := ar a ha
 have hu : us = vs := by
  rcases h3 with q | q
  ·rw [e] at q
   exact (seq_inj q).2.symm
  ·rw [e] at q
   exact absurd (Value.type.inj (seq_inj q).1) (by decide)
 subst hu
 refine ⟨h2, ?_⟩
 cases hk : K.lookup a with
 | none => exact .inl (.inr ⟨_, by rw [argH_at ha hk e, hoOf_lst]⟩)
 | some o =>
  have e2 := KX a o hk
  rw [e] at e2
  obtain rfl := Option.some.inj e2
  exact .inr ⟨_, us.toArray, _, hk, rfl, rfl, rfl, by rw [List.size_toArray]; exact h1, by simpa using vals_toV h2⟩
theorem argT (KX : K.In h) (ar : ∀ a ∈ A, ArgOb h A a) {a : Addr} {vs : List Value} (ha : a ∈ A) (e : h.get? a = some { cls := .type "tuple", data := .seq vs.toArray }) : (∀ u ∈ vs, OkU A u) ∧ SqT K (argH K h A) a (vs.map toV) := by
 obtain ⟨us, h1, h2, h3⟩ := ar a ha
 have hu : us = vs := by
  rcases h3 with q | q
  ·rw [e] at q
   exact absurd (Value.type.inj (seq_inj q).1) (by decide)
  ·rw [e] at q
   exact (seq_inj q).2.symm
 subst hu
 refine ⟨h2, ?_⟩
 cases hk : K.lookup a with
 | none => exact .inl (.inr ⟨_, by rw [argH_at ha hk e, hoOf_tup]⟩)
 | some o =>
  have e2 := KX a o hk
  rw [e] at e2
  obtain rfl := Option.some.inj e2
  exact .inr ⟨_, us.toArray, _, hk, rfl, rfl, by rw [List.size_toArray]; exact h1, by simpa using vals_toV h2⟩
mutual
theorem dw_one {Pm : Params} (KX : K.In h) (ar : ∀ a ∈ A, ArgOb h A a) : ∀ (d : WData) (v : Value), Well Pm h v d → plW d = true → OkU A v → Dw K (argH K h A) (toV v) d
 | .none, _, x, _, _ => by
  cases x
  exact .non
 | .bool b, _, x, _, _ => by
  cases x
  exact .bl b
 | .int i, _, x, _, _ => by
  cases x
  exact .int i
 | .str s, _, x, _, _ => by
  cases x
  exact .str s
 | .bytes b, _, x, _, _ => by
  cases x
  have z := Dw.byt (K := K) (H := argH K h A) b.toArray
  exact z
 | .list ds, _, x, p, hu => by
  obtain ⟨a, vs, rfl, ho, hall⟩ := well_list x
  obtain ⟨h2, hs⟩ := argL KX ar hu ho
  exact .lst hs (dw_all KX ar ds _ hall p h2)
 | .tuple ds, _, x, p, hu => by
  obtain ⟨a, vs, rfl, ho, hall⟩ := well_tuple x
  obtain ⟨h2, hs⟩ := argT KX ar hu ho
  exact .tup hs (dw_all KX ar ds _ hall p h2)
 | .float _, _, _, p, _ => Bool.noConfusion (show false = true from p)
 | .dict _, _, _, p, _ => Bool.noConfusion (show false = true from p)
 | .bytearray _, _, _, p, _ => Bool.noConfusion (show false = true from p)
 | .set _, _, _, p, _ => Bool.noConfusion (show false = true from p)
 | .frozenset _, _, _, p, _ => Bool.noConfusion (show false = true from p)
 | .obj _ _, _, _, p, _ => Bool.noConfusion (show false = true from p)
theorem dw_all {Pm : Params} (KX : K.In h) (ar : ∀ a ∈ A, ArgOb h A a) : ∀ (ds : List WData) (vs : List Value), WellAll Pm h vs ds → plWs ds = true → (∀ u ∈ vs, OkU A u) → DwAll K (argH K h A) (vs.map toV) ds
 | [], _, x, _, _ => by
  cases x
  exact .nil
 | d :: ds, _, x, p, hu => by
  obtain ⟨v, vs, rfl, x1, x2⟩ := well_cons x
  have q : plW d = true ∧ plWs ds = true := Bool.and_eq_true_iff.mp p
  exact .cons (dw_one KX ar d v x1 q.1 (hu _ (List.mem_cons_self ..))) (dw_all KX ar ds vs x2 q.2 fun u m => hu u (List.mem_cons_of_mem _ m))
end
end
theorem spec_call {P : Program} {w : World} {K : PySem.W.Frag} {mg mb : Str → Option Value} {CX : CXT} {k : Nat} {fa : Addr} {fd : FuncData} {ps : List Str} {sp : Sp} {s₁ : Shared} {vals : List Value} {ds : List WData} {R : PySem.W.WRecords} {cl : Str → Option Addr} {d0 : WData}
  (KX : K.In s₁.heap) (hns : s₁.heap.Ns mainGlobals mg) (hb : s₁.heap.Ns builtinsNs mb) (hbb : ∀ x : Str, x ≠ "__name__" → mb x = bootBuiltins x) (hlim : s₁.heap.NoLimit) (hg : s₁.gens = #[])
  (hwl : WellAll w.params s₁.heap vals ds) (hpl : plWs ds = true) (hwt : ∀ d ∈ ds, d.weight ≤ 1048576) (hr : Room k callerA)
  (F : ∀ base : Heap, K.In base → base.Ns mainGlobals mg → FnOk P w K mg base CX k fa fd ps sp) (hbind : ∀ (s : Shared) (us : List Value), us.length = ps.length → BindsTo s fd ⟨us, []⟩ (ps.zip us)) (hlen : ds.length = ps.length)
  (hsp : ∀ (H : Hp) (xs : List V), OnlyF H → DwAll K H xs ds → sp xs H (fun v H' => Dw K H' v d0) fun _ _ _ => False)
  (hCX : ∀ H e s', CX [] H s₁ (fun _ _ _ => False) e s' → False) :
  codeAny (model P w) callerA (.call (.ref fa) ⟨vals, []⟩) (fun r s' => ∃ u as, r = .ok (.ret u) ∧ ReadsW R cl s'.heap u d0 as ∧ OldK s₁.heap s'.heap ∧ s'.os = s₁.os ∧ AllBare s'.gens) s₁ := by
 obtain ⟨A, ho, ar⟩ := area_all ds vals hwl hpl hwt
 have hO : OnlyF (argH K s₁.heap A) := argH_only ar
 have hok : HOk P w (argH K s₁.heap A) s₁.heap := argH_ok ar
 have hS := dw_all KX ar ds vals hwl hpl ho
 have hV := vals_toV ho
 have hK : ∀ b u, argH K s₁.heap A b = some u → K.lookup b = none := fun b u q => (argH_is ar q).1
 have noA : ∀ {b : Addr} {o : Obj} {es : Array DictEntry} {ep : Nat}, s₁.heap.get? b = some o → o.data = .dict es ep → argH K s₁.heap A b = none := fun {b o es ep} e d => by
  cases q : argH K s₁.heap A b with
  | none => rfl
  | some u =>
   obtain ⟨_, vs, _, _, ⟨e2, _⟩ | ⟨e2, _⟩⟩ := argH_is ar q
   ·rw [e2] at e
    cases e
    have d' : Data.seq vs.toArray _ = Data.dict es ep := d
    cases d'
   ·rw [e2] at e
    cases e
    have d' : Data.seq vs.toArray _ = Data.dict es ep := d
    cases d'
 generalize argH K s₁.heap A = H at hO hok hS hK noA
 have base_of : ∀ {b : Addr} {o : Obj}, s₁.heap.get? b = some o → H b = none → (hidT s₁.heap H).get? b = some o := fun e n => hidT_get e n
 have nsK : ∀ {b : Addr} {m : Str → Option Value}, s₁.heap.Ns b m → (hidT s₁.heap H).Ns b m := fun {b m} ⟨o, es, ep, e, d, r⟩ => ⟨o, es, ep, base_of e (noA e d), d, r⟩
 have nK : ∀ b o, K.lookup b = some o → H b = none := fun b o e => by
  cases q : H b with
  | none => rfl
  | some u =>
   rw [hK b u q] at e
   cases e
 have hKb : K.In (hidT s₁.heap H) := fun b o e => base_of (KX b o e) (nK b o e)
 have hM : Mod K mg (hidT s₁.heap H) := ⟨hKb, nsK hns, ⟨mb, nsK hb, hbb⟩, let ⟨mc, h1, h2⟩ := hlim; ⟨mc, nsK h1, h2⟩⟩
 have e0 : Env0 P w K mg (hidT s₁.heap H) callerA [] s₁ H := ⟨rfl, hM, fun b o e => of_hidT e, Nat.le_of_eq (hidT_size _ _), trivial, fun b hb => absurd (show b ∈ ([] : List Addr) from hb) (by simp), hok, .of_eq hg⟩
 have hl : vals.length = ps.length := by rw [wellAll_len hwl]; exact hlen
 refine codeAny_mono ((F _ hKb (nsK hns)).run callerA [] s₁ H ⟨vals, []⟩ vals (vals.map toV) _ _ hr e0 (hbind s₁ vals hl) hV (hsp H _ hO hS)) fun r s' x => ?_
 cases r with
 | error e => exact (hCX H e s' x).elim
 | ok fl =>
  cases fl with
  | next => exact False.elim x
  | brk => exact False.elim x
  | cont => exact False.elim x
  | ret u =>
   obtain ⟨v, H', os, bare, un, hok', r', q⟩ := x
   have kept : ∀ b o, s₁.heap.get? b = some o → s'.heap.get? b = some o := fun b o e => by
    cases q2 : H b with
    | none => exact un.keep b o e q2 (by intro z; exact absurd (show b ∈ ([] : List Addr) from z) (by simp)) (by simp)
    | some u2 =>
     rcases hO b with z | ⟨ob, u3, z⟩
     ·rw [q2] at z
      cases z
     ·have z2 := un.frzs b ob _ z
      obtain ⟨e1, _⟩ := hok b _ z
      obtain ⟨e2, _⟩ := hok' b _ z2
      rw [e] at e1
      cases e1
      exact e2
   have KX' : K.In s'.heap := fun b o e => kept b o (KX b o e)
   obtain ⟨as, hrd⟩ := Dw.reads (R := R) (cl := cl) hok' KX' d0 v u q r'
   exact ⟨u, as, rfl, hrd, OldK.of_keep kept, os, bare⟩
theorem layable_weight {ds : List WData} (h : WData.layableAll ds = true) : ∀ d ∈ ds, d.weight ≤ 1048576 := fun d hd =>
 (PySem.W.layableW_iff.mp (List.all_eq_true.mp h d hd)).2.2
theorem encAll_len : ∀ (cs : List Codec) (a : Codec.denoteAll cs), (Codec.encAll cs a).length = cs.length
 | [], _ => rfl
 | c :: cs, a => by
  show (Codec.encAll cs a.2).length + 1 = cs.length + 1
  rw [encAll_len cs a.2]
theorem walk_spec {r : OpenSpec} {k : Nat} {q : Program} {loose : List Str} {XP : (Str → Option Value) → Heap → Prop} {YP : World → Heap → Prop} {d : DefRec} {K : Params → PySem.W.Frag} {CX : World → CXT} {ps : List Str} {sp : World → Sp}
  (hwell : r.wellSaid = true) (hdf : d.params.defaults = []) (hlen : r.args.length = ps.length) (hr : Room k callerA)
  (hY : ∀ (w : World) (h : Heap), YP w h → (K w.params).In h)
  (F : ∀ (w : World) (mg : Str → Option Value) (fa : Addr) (h : Heap), YP w h → (K w.params).In h → h.Ns mainGlobals mg → mg d.name = some (.ref fa) →
   ∃ fd : FuncData, (∀ (s : Shared) (us : List Value), us.length = ps.length → BindsTo s fd ⟨us, []⟩ (ps.zip us)) ∧
    ∀ base : Heap, (K w.params).In base → base.Ns mainGlobals mg → FnOk r.prog w (K w.params) mg base (CX w) k fa fd ps (sp w))
  (hsp : ∀ (w : World) (H : Hp) (xs : List V) (a : Codec.denoteAll r.args), OnlyF H → Codec.withinAll r.args a = true → Codec.app r.args r.asked a = true → DwAll (K w.params) H xs (Codec.encAll r.args a) →
   sp w xs H (fun v H' => Dw (K w.params) H' v (r.ret.enc (Codec.app r.args r.f a))) fun _ _ _ => False)
  (hCX : ∀ (w : World) (H : Hp) (s : Shared) (e : Value) (s' : Shared), CX w [] H s (fun _ _ _ => False) e s' → False) :
  PySem.W.WalkOS q loose XP YP r d [] (fun f vs => PySem.call f vs) := by
 intro w s_0 s₁ mg mb G Y fa o pm cd doc dV kV ho hd hcd hD hmg hg args vals as hpre hlay hrd hwl hlo
 obtain ⟨a, e1, e2⟩ := PySem.W.os_pre_some hpre
 obtain ⟨e3, hwi⟩ := Codec.encAll_of_decAll r.args args a e1
 subst e3
 have KX := hY w _ Y
 obtain ⟨fd, hb, hF⟩ := F w mg fa _ Y KX G.T.g hmg
 refine PySem.W.enter_call (codeAny_mono (spec_call (R := []) (cl := classAt s_0.heap) (d0 := r.ret.enc (Codec.app r.args r.f a)) KX G.T.g G.T.b G.T.builtins G.T.nolimit hg hwl (pl_encAll _ _) (layable_weight hlay) hr hF hb (by rw [encAll_len]; exact hlen)
  (fun H xs hO hS => hsp w H xs a hO hwi e2 hS) fun H e s' => hCX w H s₁ e s') fun r' s' hq => ?_)
 obtain ⟨u, as', rfl, h1, h2, h3, h4⟩ := hq
 exact ⟨.inl ⟨u, _, as', rfl, fun _ => rfl, h1, (OpenSpec.post_iff hwell hwi _ _).mpr rfl, fun z => Bool.noConfusion (show false = true from z)⟩, h2, h3, h4⟩
theorem walk_specK {r : OpenSpec} {k : Nat} {q : Program} {loose : List Str} {XP : (Str → Option Value) → Heap → Prop} {YP : World → Heap → Prop} {d : DefRec} {K : Params → PySem.W.Frag} {CX : CXT} {ps : List Str} {sp : PySem.W.Frag → Sp}
  (hwell : r.wellSaid = true) (hdf : d.params.defaults = []) (hlen : r.args.length = ps.length) (hr : Room k callerA)
  (hY : ∀ (w : World) (h : Heap), YP w h → (K w.params).In h)
  (F : ∀ (w : World) (mg : Str → Option Value) (fa : Addr) (h : Heap), YP w h → (K w.params).In h → h.Ns mainGlobals mg → mg d.name = some (.ref fa) →
   ∃ fd : FuncData, (∀ (s : Shared) (us : List Value), us.length = ps.length → BindsTo s fd ⟨us, []⟩ (ps.zip us)) ∧
    ∀ base : Heap, (K w.params).In base → base.Ns mainGlobals mg → FnOk r.prog w (K w.params) mg base CX k fa fd ps (sp (K w.params)))
  (hsp : ∀ (K : PySem.W.Frag) (H : Hp) (xs : List V) (a : Codec.denoteAll r.args), OnlyF H → Codec.withinAll r.args a = true → Codec.app r.args r.asked a = true → DwAll K H xs (Codec.encAll r.args a) →
   sp K xs H (fun v H' => Dw K H' v (r.ret.enc (Codec.app r.args r.f a))) fun _ _ _ => False)
  (hCX : ∀ (H : Hp) (s : Shared) (e : Value) (s' : Shared), CX [] H s (fun _ _ _ => False) e s' → False) :
  PySem.W.WalkOS q loose XP YP r d [] (fun f vs => PySem.call f vs) :=
 walk_spec (K := K) (CX := fun _ => CX) (sp := fun w => sp (K w.params)) hwell hdf hlen hr hY F (fun w H xs a h1 h2 h3 h4 => hsp (K w.params) H xs a h1 h2 h3 h4) fun _ H s e s' => hCX H s e s'
end L2
end
namespace Pm
open PySem PySem.Spec PyProof.Rows L2
noncomputable def top (i : Nat) : Stmt := PySem.Challenge.pw_postmeters_s01_answers.main.body.getD i (.Pass ⟨0, 0, 0, 0⟩)
noncomputable def GI (mg : Str → Option Value) (x : Str) (i : Int) : Prop := ∃ t, mg x = some (.int i t)
section
variable {X : Cx}
theorem pgi {x : Str} {i : Int} {pos : Pos} (h : GI X.mg x i) (hg : Gl X x := by rfl) (hd : (x == ("__debug__" : Str)) = false := by decide) : PE X (.Name x pos) (tC (.int i)) := by
 obtain ⟨t, e⟩ := h
 exact pe_glob hg e ⟨t, rfl⟩ hd
theorem pgr {x : Str} {a : Addr} {pos : Pos} (h : X.mg x = some (.ref a)) (hg : Gl X x := by rfl) (hd : (x == ("__debug__" : Str)) = false := by decide) : PE X (.Name x pos) (tC (.ref a)) := pe_glob hg h rfl hd
end
structure Cal (P : Program) (w : World) (K : PySem.W.Frag) (mg : Str → Option Value) (base : Heap) (k : Nat) (x : Str) (ps : List Str) (sp : Sp) : Prop where
 ex : ∃ f fd, FnOk P w K mg base CX0 k f fd ps sp ∧ mg x = some (.ref f) ∧ PySem.W.keepIn K (.ref f) = true ∧ Binds K fd ps []
structure Met (P : Program) (w : World) (K : PySem.W.Frag) (mg : Str → Option Value) (base : Heap) (k : Nat) (C : Addr) (m : Str) (ps : List Str) (sp : Sp) : Prop where
 ex : ∃ f fd, Meth K C m f ∧ FnOk P w K mg base CX0 k f fd ps sp ∧ Binds K fd ps []
structure Mak (P : Program) (w : World) (K : PySem.W.Frag) (mg : Str → Option Value) (base : Heap) (k : Nat) (x : Str) (C : Addr) (ps : List Str) (sp : Sp) : Prop where
 ex : ∃ f fd, Mk K C f ∧ FnOk P w K mg base CX0 k f fd ps sp ∧ mg x = some (.ref C) ∧ Binds K fd ps []
noncomputable def tCal (sp : Sp) (t : TA) : TE := fun σ H Q => t σ H fun vs H1 => sp vs H1 Q E0
noncomputable def rdMet (C : Addr) (m : Str) (x : V) (H : Hp) (Q : Prop) : Prop := ∃ a dx fs, x = .ref a ∧ H a = some (.ins C dx fs) ∧ fs.lookup m = none ∧ Q
noncomputable def tMet (C : Addr) (m : Str) (sp : Sp) (ta : TE) (t : TA) : TE := fun σ H Q => ta σ H fun x H1 => rdMet C m x H1 (t σ H1 fun vs H2 => sp (x :: vs) H2 Q E0)
noncomputable def tMak (C : Addr) (sp : Sp) (t : TA) : TE := fun σ H Q => t σ H fun vs H1 => ∀ x dx, H1 x = none → H1 dx = none → dx ≠ x →
 sp (.ref x :: vs) (upd (upd H1 dx (.own x)) x (.ins C dx [])) (fun v H2 => v = .non ∧ Q (.ref x) H2) E0
section
variable {X : Cx} {k j : Nat} {C : Addr} {ps : List Str} {sp : Sp} {x m : Str} {p pos apos : Pos} {e o : Expr} {es : List Expr} {ta : TE} {t : TA}
theorem pcl (c : Cal X.prog X.w X.K X.mg X.base j x ps sp) (hr : Room k X.A) (hg : Gl X x) (ha : PA X (e :: es) t) (hj : j ≤ k := by decide) (hdb : (x == ("__debug__" : Str)) = false := by decide)
  (he : starEach (e :: es) X.env = (false, eval e X.env) :: starEach es X.env := by rfl) (hpl : (backTo pos (starEach es X.env)).any (·.1) = false := by rfl) : PE X (.Call (.Name x p) (e :: es) [] pos) (tCal sp t) := by
 obtain ⟨f, fd, F, hm, kp, b⟩ := c.ex
 have h := pe_call (p := p) (E := E0) F (hr.mono hj) hg hm kp b (.nil : Vals [] []) pass0 ha hdb he hpl
 unfold tCall at h
 simp only [List.append_nil] at h
 exact h
theorem pmt {pl : Sem Bool} (he : PE X o ta) (c : Cls X.K C) (M : Met X.prog X.w X.K X.mg X.base j C m ps sp) (hr : Room k X.A) (ha : PA X (e :: es) t) (hj : j ≤ k := by decide)
  (hst : starEach (e :: es) X.env = (false, eval e X.env) :: starEach es X.env := by rfl) (hpl : (backTo pos (starEach es X.env)).any (·.1) = false := by rfl)
  (ht : eval (.Call (.Attribute o m apos) (e :: es) [] pos) X.env = (do
   let ov ← eval o X.env
   standAt apos.atName
   let (f, first) ← holding [ov] (getMethod ov m pl)
   callWith pos f first (backTo pos (starEach (e :: es) X.env)) (backToKw pos (keywordEach [] X.env))) := by rfl) :
  PE X (.Call (.Attribute o m apos) (e :: es) [] pos) (tMet C m sp ta t) := by
 obtain ⟨f, fd, hm, F, b⟩ := M.ex
 have h := pe_meth (E := E0) (pl := pl) he c hm F (hr.mono hj) b (.nil : Vals [] []) pass0 ha hst hpl ht
 unfold tMeth at h
 simp only [List.append_nil] at h
 exact h
theorem pmt0 {pl : Sem Bool} (he : PE X o ta) (c : Cls X.K C) (M : Met X.prog X.w X.K X.mg X.base j C m ps sp) (hr : Room k X.A) (hj : j ≤ k := by decide)
  (ht : eval (.Call (.Attribute o m apos) [] [] pos) X.env = (do
   let ov ← eval o X.env
   standAt apos.atName
   let (f, first) ← holding [ov] (getMethod ov m pl)
   callWith pos f first (backTo pos (starEach [] X.env)) (backToKw pos (keywordEach [] X.env))) := by rfl) :
  PE X (.Call (.Attribute o m apos) [] [] pos) (tMet C m sp ta tNil) := by
 obtain ⟨f, fd, hm, F, b⟩ := M.ex
 have h := pe_meth0 (E := E0) (pl := pl) he c hm F (hr.mono hj) b (.nil : Vals [] []) pass0 ht
 unfold tMeth at h
 simp only [List.append_nil] at h
 exact h
theorem pmk (M : Mak X.prog X.w X.K X.mg X.base j x C ps sp) (hr : Room k X.A) (hg : Gl X x) (ha : PA X (e :: es) t) (hj : j + 1 ≤ k := by decide) (hdb : (x == ("__debug__" : Str)) = false := by decide)
  (he : starEach (e :: es) X.env = (false, eval e X.env) :: starEach es X.env := by rfl) (hpl : (backTo pos (starEach es X.env)).any (·.1) = false := by rfl) : PE X (.Call (.Name x p) (e :: es) [] pos) (tMak C sp t) := by
 obtain ⟨f, fd, mk, F, hm, b⟩ := M.ex
 have h := pe_make (p := p) (E := E0) mk F (hr.mono hj) hg hm b (.nil : Vals [] []) pass0 ha hdb he hpl
 unfold tMake at h
 simp only [List.append_nil] at h
 exact h
theorem pmk0 (M : Mak X.prog X.w X.K X.mg X.base j x C ps sp) (hr : Room k X.A) (hg : Gl X x) (hj : j + 1 ≤ k := by decide) (hdb : (x == ("__debug__" : Str)) = false := by decide) : PE X (.Call (.Name x p) [] [] pos) (tMak C sp tNil) := by
 obtain ⟨f, fd, mk, F, hm, b⟩ := M.ex
 have h := pe_make0 (p := p) (pos := pos) (E := E0) mk F (hr.mono hj) hg hm b (.nil : Vals [] []) pass0 hdb
 unfold tMake at h
 simp only [List.append_nil] at h
 exact h
end
noncomputable def rdFl (K : PySem.W.Frag) (f : Str) (x : V) (H : Hp) (Q : VK) : Prop := ∃ a C dx fs v, x = .ref a ∧ H a = some (.ins C dx fs) ∧ Cls K C ∧ NoAttr K C f ∧ fs.lookup f = some v ∧ Q v H
noncomputable def tFl (K : PySem.W.Frag) (ta : TE) (f : Str) : TE := fun σ H Q => ta σ H fun x H1 => rdFl K f x H1 Q
noncomputable def wrFl (K : PySem.W.Frag) (f : Str) (x y : V) (H : Hp) (Q : Hp → Prop) : Prop := ∃ a C dx fs, x = .ref a ∧ H a = some (.ins C dx fs) ∧ Cls K C ∧ NoAttr K C f ∧ fs.length < 1000 ∧ Q (upd H a (.ins C dx (putF f y fs)))
noncomputable def sFl (K : PySem.W.Frag) (ta tv : TE) (f : Str) : TS := fun D σ H => tv σ H fun y H1 => ta σ H1 fun x H2 => wrFl K f x y H2 fun H3 => D.nx σ H3
section
variable {X : Cx} {o e value : Expr} {f : Str} {pos pos' tpos : Pos} {ta tv : TE}
theorem pfl (he : PE X e ta) (hb : attributeBase e f X.env (eval e X.env) = eval e X.env := by rfl) : PE X (.Attribute e f pos) (tFl X.K ta f) := pe_fld he hb
theorem pflK (K0 : PySem.W.Frag) (hK : X.K = K0) (he : PE X e ta) (hb : attributeBase e f X.env (eval e X.env) = eval e X.env := by rfl) : PE X (.Attribute e f pos) (tFl K0 ta f) := by
 subst hK
 exact pe_fld he hb
theorem psf (ha : PE X o ta) (hv : PE X value tv) (hs : swapsWith value (some (.Attribute o f pos')) pos.line X.env = pure false := by rfl) : PS X (.Assign [.Attribute o f pos'] value pos) (sFl X.K ta tv f) := ps_fld ha hv hs
end
section
variable {X : Cx} {x : Str} {e : Expr} {te : TE} {pos pos' : Pos}
theorem pst (i : Nat) (hN : X.N.Nodup) (he : PE X e te) (hi : X.N[i]? = some x := by rfl) (hx : Loc X.env.scope x := by first | exact Or.inl rfl | exact Or.inr rfl) (hs : swapsWith e (some (.Name x pos')) pos.line X.env = pure false := by rfl) (hf : X.fn x = true ∨ X.env.scope.names.lookup x = some .local := by first | exact .inl rfl | exact .inr rfl | assumption) : PS X (.Assign [.Name x pos'] e pos) (tAsg te (gName i)) := ps_set hN hi hx he hs hf
theorem pgn (i : Nat) (hN : X.N.Nodup) (hi : X.N[i]? = some x := by rfl) (hx : Loc X.env.scope x := by first | exact Or.inl rfl | exact Or.inr rfl) (hf : X.fn x = true ∨ X.env.scope.names.lookup x = some .local := by first | exact .inl rfl | exact .inr rfl | assumption) : PG X (.Name x pos) (gName i) := pg_name hN hi hx hf
theorem pag (i : Nat) {op : Operator} {ti : TIp} (hN : X.N.Nodup) (he : PE X e te) (ho : PIp X op ti) (hi : X.N[i]? = some x := by rfl) (hx : Loc X.env.scope x := by first | exact Or.inl rfl | exact Or.inr rfl) (hf : X.fn x = true ∨ X.env.scope.names.lookup x = some .local := by first | exact .inl rfl | exact .inr rfl | assumption) : PS X (.AugAssign (.Name x pos') op e pos) (tAug i te ti) := ps_aug hN hi hx he ho hf
end
noncomputable def rdNewL (xs : List V) (H : Hp) (Q : VK) : Prop := xs.length ≤ sizeLine ∧ ∀ p, H p = none → Q (.ref p) (upd H p (.lst xs))
noncomputable def rdNewT (xs : List V) (H : Hp) (Q : VK) : Prop := xs.length ≤ sizeLine ∧ ∀ p, H p = none → Q (.ref p) (upd H p (.tup xs))
noncomputable def rdB (x : V) (H : Hp) (Q : Bool → Hp → Prop) : Prop := ∃ k, x = .bl k ∧ Q k H
noncomputable def rdT (K : PySem.W.Frag) (x : V) (H : Hp) (Q : Bool → Hp → Prop) : Prop := ∃ k, TruV K x H k ∧ Q k H
noncomputable def tTru (K : PySem.W.Frag) (ta : TE) : TT := fun σ H Q => ta σ H fun x H' => rdT K x H' Q
theorem ptt {X : Cx} {a : Expr} {ta : TE} (ha : PE X a ta) (he : ∀ whole, isTrue a X.env whole = (do let v ← whole; standAt a.pos; holding [v] (truthy v)) := by intro _; rfl) : PT X a (tTru X.K ta) := pt_truth ha he
section
variable {K : PySem.W.Frag} {C a : Addr} {m f : Str} {sp : Sp} {ta tb tc tv te : TE} {t : TA} {c d : TT} {ts us : TS} {D : L2.Ends} {σ : L2.St} {H : Hp} {Q : VK} {QB : Bool → Hp → Prop} {x y v : V} {i j k : Int} {b : Bool} {n : Nat}
theorem i_seq (h : ts { D with nx := us D } σ H) : tSeq ts us D σ H := h
theorem i_next (h : D.nx σ H) : tNext D σ H := h
theorem i_drop (h : te σ H fun _ H1 => D.nx σ H1) : tDrop te D σ H := h
theorem i_ret (h : te σ H D.rt) : tRet te D σ H := h
theorem i_retN (h : D.rt .non H) : tRetN D σ H := h
theorem i_if (h : c σ H fun b H1 => if b = true then ts D σ H1 else us D σ H1) : tIfS c ts us D σ H := h
theorem i_asg (h : te σ H fun x H1 => D.nx (σ.set n (some x)) H1) : tAsg te (gName n) D σ H := h
theorem i_var (e : σ[n]? = some (some v)) (h : Q v H) : tVar n σ H Q := ⟨v, e, h⟩
theorem i_c (h : Q v H) : tC v σ H Q := h
theorem i_op {r : R2} (h : ta σ H fun x H1 => tb σ H1 fun y H2 => r x y H2 Q) : tOp r ta tb σ H Q := h
theorem i_un {r : V → Hp → VK → Prop} (h : ta σ H fun x H1 => r x H1 Q) : tUn r ta σ H Q := h
theorem i_rU {g : Int → V} (h : Q (g i) H) : rU g (.int i) H Q := ⟨i, rfl, h⟩
theorem i_rI0 {g : Int → Int → V} (h : Q (g i j) H) : rI0 g (.int i) (.int j) H Q := ⟨i, j, rfl, rfl, h⟩
theorem i_eq (h : Q (.bl (decide (i = j))) H) : rEq (.int i) (.int j) H Q := ⟨rfl, by
 have e : decide (V.int i = V.int j) = decide (i = j) := by simp
 rw [e]; exact h⟩
theorem i_ne (h : Q (.bl (!decide (i = j))) H) : rNe (.int i) (.int j) H Q := ⟨rfl, by
 have e : decide (V.int i = V.int j) = decide (i = j) := by simp
 rw [e]; exact h⟩
theorem i_test (h : te σ H fun x H' => rdB x H' QB) : tTest te σ H QB := h
theorem i_tB (h : te σ H fun x H' => rdB x H' QB) : tB te σ H QB := h
theorem i_bl (h : QB b H) : rdB (.bl b) H QB := ⟨b, rfl, h⟩
theorem i_tru (h : te σ H fun x H' => rdT K x H' QB) : tTru K te σ H QB := h
theorem i_tbl (h : QB b H) : rdT K (.bl b) H QB := ⟨b, rfl, h⟩
theorem i_not (h : c σ H fun b H1 => QB (!b) H1) : tNot c σ H QB := h
theorem i_or (h : c σ H fun b H1 => if b = true then QB true H1 else d σ H1 QB) : tOr c d σ H QB := h
theorem i_and (h : c σ H fun b H1 => if b = true then d σ H1 QB else QB false H1) : tAnd c d σ H QB := h
theorem i_isN (h : ta σ H fun x H1 => Q (.bl (decide (x = .non))) H1) : tIsN ta σ H Q := h
theorem i_notN (h : ta σ H fun x H1 => Q (.bl (!decide (x = .non))) H1) : tNotN ta σ H Q := h
theorem i_ifE (h : c σ H fun b H1 => if b = true then ta σ H1 Q else tb σ H1 Q) : tIf c ta tb σ H Q := h
theorem i_nil {QA : List V → Hp → Prop} (h : QA [] H) : tNil σ H QA := h
theorem i_cons {QA : List V → Hp → Prop} (h : ta σ H fun x H1 => t σ H1 fun xs H2 => QA (x :: xs) H2) : tCons ta t σ H QA := h
theorem i_lst (h : t σ H fun xs H1 => rdNewL xs H1 Q) : tLst t σ H Q := h
theorem i_tup (h : t σ H fun xs H1 => rdNewT xs H1 Q) : tTup t σ H Q := h
theorem i_cal (h : t σ H fun vs H1 => sp vs H1 Q E0) : tCal sp t σ H Q := h
theorem i_met (h : ta σ H fun x H1 => rdMet C m x H1 (t σ H1 fun vs H2 => sp (x :: vs) H2 Q E0)) : tMet C m sp ta t σ H Q := h
theorem i_mak (h : t σ H fun vs H1 => ∀ x dx, H1 x = none → H1 dx = none → dx ≠ x → sp (.ref x :: vs) (upd (upd H1 dx (.own x)) x (.ins C dx [])) (fun v H2 => v = .non ∧ Q (.ref x) H2) E0) : tMak C sp t σ H Q := h
theorem i_cb {r : List V → Hp → VK → Prop} (h : t σ H fun vs H1 => r vs H1 Q) : tCB r t σ H Q := h
theorem i_fl (h : ta σ H fun x H1 => rdFl K f x H1 Q) : tFl K ta f σ H Q := h
theorem i_sfl (h : tv σ H fun y H1 => ta σ H1 fun x H2 => wrFl K f x y H2 fun H3 => D.nx σ H3) : sFl K ta tv f D σ H := h
theorem rd_met {dx : Addr} {fs : List (Str × V)} {P : Prop} (e : H a = some (.ins C dx fs)) (l : fs.lookup m = none) (h : P) : rdMet C m (.ref a) H P := ⟨a, dx, fs, rfl, e, l, h⟩
theorem rd_fl {dx : Addr} {fs : List (Str × V)} (e : H a = some (.ins C dx fs)) (c : Cls K C) (n : NoAttr K C f) (l : fs.lookup f = some v) (h : Q v H) : rdFl K f (.ref a) H Q := ⟨a, C, dx, fs, v, rfl, e, c, n, l, h⟩
end
inductive Ob where
 | lst (xs : List V)
 | ins (C : Addr) (fs : List (Str × V))
 | dct (kvs : List (Key × V))
 | dcT (kvs : List (List Key × V))
noncomputable def At (H : Hp) (a : Addr) : Ob → Prop
 | .lst xs => H a = some (.lst xs)
 | .ins C fs => ∃ dx, H a = some (.ins C dx fs)
 | .dct kvs => H a = some (.dK kvs)
 | .dcT kvs => H a = some (.dT kvs)
theorem At.there {H : Hp} {a : Addr} {o : Ob} (h : At H a o) : ∃ u, H a = some u := by
 cases o with
 | lst xs => exact ⟨_, h⟩
 | ins C fs => obtain ⟨dx, e⟩ := h; exact ⟨_, e⟩
 | dct kvs => exact ⟨_, h⟩
 | dcT kvs => exact ⟨_, h⟩
theorem At.keep {H H' : Hp} {a : Addr} {o : Ob} (h : At H a o) (k : ∀ u, H a = some u → H' a = some u) : At H' a o := by
 cases o with
 | lst xs => exact k _ h
 | ins C fs => obtain ⟨dx, e⟩ := h; exact ⟨dx, k _ e⟩
 | dct kvs => exact k _ h
 | dcT kvs => exact k _ h
structure Adr where
 W : Addr
 M : Addr
 Me : Addr
 J : Addr
 E : Addr
 Vo : Addr
noncomputable def fW (day acc : Nat) (ml vd j al gl sd bd : Addr) : List (Str × V) := [("day", .int day), ("accounts", .int acc), ("meters", .ref ml), ("vouchers", .ref vd), ("journal", .ref j), ("asks", .ref al), ("grants", .ref gl), ("seen", .ref sd), ("given_back", .ref bd)]
noncomputable def optV : Option Nat → V
 | none => .non
 | some d => .int d
noncomputable def fM (n : Nat) (mem : Addr) (m : Vbpoac.Meter) : List (Str × V) := [("number", .int n), ("account", .int m.account), ("key", .int m.key), ("memory", .ref mem), ("on", .bl m.on), ("stopped_on", optV m.stopped), ("handed_in", .bl m.gone)]
noncomputable def fMe (b1 b2 : Addr) : List (Str × V) := [("first", .ref b1), ("second", .ref b2)]
noncomputable def fJ (el : Addr) : List (Str × V) := [("entries", .ref el)]
noncomputable def fE (e : Vbpoac.Entry) : List (Str × V) := [("day", .int e.day), ("account", .int e.account), ("kind", .int e.kind), ("amount", .int e.amount), ("number", .int e.what)]
noncomputable def fV (v : Vbpoac.Voucher) : List (Str × V) := [("value", .int v.value), ("used", .bl v.used)]
noncomputable def bankV (b : Vbpoac.Bank) : List V := [.int b.gen, .int b.rising, .int b.falling, .int b.piece, .int b.refills]
noncomputable def askV (a : Vbpoac.Ask) : List V := [.int a.meter, .int a.number, .int a.amount, .int a.sum, .int a.code]
noncomputable def grantV (g : Vbpoac.Grant) : List V := [.int g.meter, .int g.number, .int g.amount, .int g.code]
structure DM where
 a : Addr
 mem : Addr
 b1 : Addr
 b2 : Addr
 m : Vbpoac.Meter
structure DS where
 w : Addr
 j : Addr
 ml : Addr
 el : Addr
 vd : Addr
 al : Addr
 gl : Addr
 sd : Addr
 bd : Addr
 day : Nat
 accounts : Nat
 meters : List DM
 vouchers : List (Addr × Vbpoac.Voucher)
 journal : List (Addr × Vbpoac.Entry)
 asks : List (Addr × Vbpoac.Ask)
 grants : List (Addr × Vbpoac.Grant)
 seen : List (Nat × Nat)
 spoiled : List (Nat × Nat)
noncomputable def DS.st (D : DS) : Vbpoac.State := ⟨D.day, D.accounts, D.meters.map (·.m), D.vouchers.map (·.2), D.journal.map (·.2), D.asks.map (·.2), D.grants.map (·.2), D.seen, D.spoiled⟩
inductive Role where
 | w | j | ml | el | vd | al | gl | sd | bd
 | m (i : Nat) | me (i : Nat) | b1 (i : Nat) | b2 (i : Nat) | v (i : Nat) | e (i : Nat) | a (i : Nat) | g (i : Nat)
 deriving DecidableEq
noncomputable def vdV (l : List (Addr × Vbpoac.Voucher)) : List (Key × V) := l.map fun p => (Sum.inl (p.2.number : Int), V.ref p.1)
noncomputable def pkV (l : List (Nat × Nat)) : List (List Key × V) := l.map fun p => ([Sum.inl (p.1 : Int), Sum.inl (p.2 : Int)], V.bl true)
noncomputable def DS.at_ (A : Adr) (D : DS) : Role → Option (Addr × Ob)
 | .w => some (D.w, .ins A.W (fW D.day D.accounts D.ml D.vd D.j D.al D.gl D.sd D.bd))
 | .j => some (D.j, .ins A.J (fJ D.el))
 | .ml => some (D.ml, .lst (D.meters.map fun x => V.ref x.a))
 | .el => some (D.el, .lst (D.journal.map fun x => V.ref x.1))
 | .vd => some (D.vd, .dct (vdV D.vouchers))
 | .al => some (D.al, .lst (D.asks.map fun x => V.ref x.1))
 | .gl => some (D.gl, .lst (D.grants.map fun x => V.ref x.1))
 | .sd => some (D.sd, .dcT (pkV D.seen))
 | .bd => some (D.bd, .dcT (pkV D.spoiled))
 | .m i => D.meters[i]?.map fun x => (x.a, .ins A.M (fM (i + 1) x.mem x.m))
 | .me i => D.meters[i]?.map fun x => (x.mem, .ins A.Me (fMe x.b1 x.b2))
 | .b1 i => D.meters[i]?.map fun x => (x.b1, .lst (bankV x.m.first))
 | .b2 i => D.meters[i]?.map fun x => (x.b2, .lst (bankV x.m.second))
 | .v i => D.vouchers[i]?.map fun x => (x.1, .ins A.Vo (fV x.2))
 | .e i => D.journal[i]?.map fun x => (x.1, .ins A.E (fE x.2))
 | .a i => D.asks[i]?.map fun x => (x.1, .lst (askV x.2))
 | .g i => D.grants[i]?.map fun x => (x.1, .lst (grantV x.2))
structure WAt (A : Adr) (H : Hp) (D : DS) : Prop where
 at_ : ∀ r p, D.at_ A r = some p → At H p.1 p.2
 inj : ∀ r r' p p', D.at_ A r = some p → D.at_ A r' = some p' → p.1 = p'.1 → r = r'
noncomputable def Foot (A : Adr) (D : DS) (b : Addr) : Prop := ∃ r o, D.at_ A r = some (b, o)
structure Fr (A : Adr) (D : DS) (H : Hp) (D' : DS) (H' : Hp) : Prop where
 keep : ∀ b o, H b = some o → ¬ Foot A D b → H' b = some o
 foot : ∀ b, Foot A D' b → Foot A D b ∨ H b = none
 live : ∀ b, H' b = none → H b = none
section
variable {A : Adr} {H H' H'' : Hp} {D D' D'' : DS} {a b l p : Addr}
theorem Fr.refl : Fr A D H D H := ⟨fun _ _ e _ => e, fun _ f => .inl f, fun _ e => e⟩
theorem Fr.out (f : Fr A D H D' H') (h : ¬ Foot A D b) {o : HO} (e : H b = some o) : ¬ Foot A D' b := fun z => (f.foot b z).elim h fun q => by rw [q] at e; cases e
theorem Fr.trans (f : Fr A D H D' H') (g : Fr A D' H' D'' H'') : Fr A D H D'' H'' := by
 refine ⟨fun b o e n => g.keep b o (f.keep b o e n) (f.out n e), fun b z => ?_, fun b e => f.live b (g.live b e)⟩
 rcases g.foot b z with q | q
 ·exact f.foot b q
 ·exact .inr (f.live b q)
theorem Fr.same (s : Same H H') : Fr A D H D H' := ⟨fun b o e _ => s b o e, fun _ f => .inl f, fun _ e => s.free e⟩
theorem Foot.there (h : WAt A H D) (f : Foot A D b) : ∃ u, H b = some u := by
 obtain ⟨r, o, e⟩ := f
 exact (h.at_ r _ e).there
theorem WAt.same (h : WAt A H D) (s : Same H H') : WAt A H' D := ⟨fun r p e => (h.at_ r p e).keep fun u q => s _ u q, h.inj⟩
theorem WAt.fresh (h : WAt A H D) (e : H b = none) : ¬ Foot A D b := fun f => by
 obtain ⟨u, q⟩ := f.there h
 rw [e] at q; cases q
theorem WAt.kept (h : WAt A H D) (k : ∀ b u, H b = some u → b ≠ a → H' b = some u) (n : ¬ Foot A D a) : WAt A H' D :=
 ⟨fun r p e => (h.at_ r p e).keep fun u q => k _ u q fun z => n ⟨r, p.2, by rw [← z]; exact e⟩, h.inj⟩
theorem Same.upd {H : Hp} {a : Addr} {o : HO} (n : H a = none) : Same H (upd H a o) := fun b u e => by rw [upd_ne (ne_of_none e n)]; exact e
theorem WAt.gen (h : WAt A H D) (r0 : Role) (ρ : Role → Role) (New : Role → Prop) {o0 o0' : Ob} (hρ : ∀ r r', ρ r = ρ r' → r = r')
  (h0 : D.at_ A r0 = some (l, o0)) (h0' : D'.at_ A r0 = some (l, o0')) (hn0 : ¬ New r0)
  (hold : ∀ r p, D'.at_ A r = some p → r ≠ r0 → ¬ New r → D.at_ A (ρ r) = some p ∧ ρ r ≠ r0)
  (a0 : At H' l o0') (hnew : ∀ r p, D'.at_ A r = some p → New r → H p.1 = none ∧ At H' p.1 p.2)
  (hni : ∀ r r' p p', New r → New r' → D'.at_ A r = some p → D'.at_ A r' = some p' → p.1 = p'.1 → r = r')
  (hk : ∀ b u, H b = some u → b ≠ l → H' b = some u) : WAt A H' D' ∧ Fr A D H D' H' := by
 have key : ∀ r p, D'.at_ A r = some p → ¬ New r → ∃ r1 o, D.at_ A r1 = some (p.1, o) := fun r p e n => by
  by_cases z : r = r0
  ·subst z
   rw [h0'] at e; cases e
   exact ⟨_, _, h0⟩
  ·exact ⟨_, _, (hold r p e z n).1⟩
 refine ⟨⟨fun r p e => ?_, fun r r' p p' e e' q => ?_⟩, ⟨fun b o e n => hk b o e fun z => n ⟨r0, o0, by rw [z]; exact h0⟩, fun b f => ?_, fun b e => ?_⟩⟩
 ·by_cases z : r = r0
  ·subst z
   rw [h0'] at e; cases e
   exact a0
  ·by_cases n : New r
   ·exact (hnew r p e n).2
   ·obtain ⟨e1, ne⟩ := hold r p e z n
    refine (h.at_ _ _ e1).keep fun u q => hk _ u q fun w => ne (h.inj _ _ _ _ e1 h0 w)
 ·by_cases n : New r
  ·by_cases n' : New r'
   ·exact hni r r' p p' n n' e e' q
   ·obtain ⟨r1, o, e1⟩ := key r' p' e' n'
    obtain ⟨u, hu⟩ := (h.at_ _ _ e1).there
    rw [← q, (hnew r p e n).1] at hu; cases hu
  ·by_cases n' : New r'
   ·obtain ⟨r1, o, e1⟩ := key r p e n
    obtain ⟨u, hu⟩ := (h.at_ _ _ e1).there
    rw [q, (hnew r' p' e' n').1] at hu; cases hu
   ·by_cases z : r = r0
    ·by_cases z' : r' = r0
     ·rw [z, z']
     ·subst z
      rw [h0'] at e; cases e
      obtain ⟨e1, ne⟩ := hold r' p' e' z' n'
      exact absurd (h.inj _ _ _ _ e1 h0 q.symm) ne
    ·obtain ⟨e1, ne⟩ := hold r p e z n
     by_cases z' : r' = r0
     ·subst z'
      rw [h0'] at e'; cases e'
      exact absurd (h.inj _ _ _ _ e1 h0 q) ne
     ·obtain ⟨e1', _⟩ := hold r' p' e' z' n'
      exact hρ _ _ (h.inj _ _ _ _ e1 e1' q)
 ·obtain ⟨r, o, e⟩ := f
  by_cases n : New r
  ·exact .inr (hnew r _ e n).1
  ·exact .inl (key r _ e n)
 ·cases q : H b with
  | none => rfl
  | some u =>
   by_cases z : b = l
   ·obtain ⟨u', hu'⟩ := a0.there
    rw [z, hu'] at e; cases e
   ·rw [hk b u q z] at e; cases e
theorem WAt.one (h : WAt A H D) (r0 : Role) {o0 o0' : Ob} (h0 : D.at_ A r0 = some (l, o0)) (h0' : D'.at_ A r0 = some (l, o0'))
  (hold : ∀ r, r ≠ r0 → D'.at_ A r = D.at_ A r) (a0 : At H' l o0') (hk : ∀ b u, H b = some u → b ≠ l → H' b = some u) : WAt A H' D' ∧ Fr A D H D' H' :=
 h.gen r0 id (fun _ => False) (fun _ _ e => e) h0 h0' id (fun r p e n _ => ⟨(hold r n).symm.trans e, n⟩) a0 (fun _ _ _ z => z.elim) (fun _ _ _ _ z => z.elim) hk
theorem WAt.push (h : WAt A H D) (r0 r1 : Role) {o0 o0' o1 : Ob} (h0 : D.at_ A r0 = some (l, o0)) (h0' : D'.at_ A r0 = some (l, o0')) (h1 : D'.at_ A r1 = some (p, o1)) (ne : r0 ≠ r1)
  (hold : ∀ r, r ≠ r0 → r ≠ r1 → D'.at_ A r = D.at_ A r) (hp : H p = none) (a0 : At H' l o0') (a1 : At H' p o1) (hk : ∀ b u, H b = some u → b ≠ l → H' b = some u) : WAt A H' D' ∧ Fr A D H D' H' :=
 h.gen r0 id (fun r => r = r1) (fun _ _ e => e) h0 h0' ne (fun r p e n m => ⟨(hold r n m).symm.trans e, n⟩) a0
  (fun r q e z => by subst z; rw [h1] at e; cases e; exact ⟨hp, a1⟩) (fun r r' _ _ z z' _ _ _ => by rw [z, z']) hk
end
section
variable {A : Adr} {H H' : Hp} {D : DS} {p : Addr}
theorem WAt.wo (h : WAt A H D) : ∃ dx, H D.w = some (.ins A.W dx (fW D.day D.accounts D.ml D.vd D.j D.al D.gl D.sd D.bd)) := h.at_ .w _ rfl
theorem WAt.jo (h : WAt A H D) : ∃ dx, H D.j = some (.ins A.J dx (fJ D.el)) := h.at_ .j _ rfl
theorem WAt.mlo (h : WAt A H D) : H D.ml = some (.lst (D.meters.map fun x => V.ref x.a)) := h.at_ .ml _ rfl
theorem WAt.elo (h : WAt A H D) : H D.el = some (.lst (D.journal.map fun x => V.ref x.1)) := h.at_ .el _ rfl
theorem WAt.vdo (h : WAt A H D) : H D.vd = some (.dK (vdV D.vouchers)) := h.at_ .vd _ rfl
theorem WAt.alo (h : WAt A H D) : H D.al = some (.lst (D.asks.map fun x => V.ref x.1)) := h.at_ .al _ rfl
theorem WAt.glo (h : WAt A H D) : H D.gl = some (.lst (D.grants.map fun x => V.ref x.1)) := h.at_ .gl _ rfl
theorem WAt.sdo (h : WAt A H D) : H D.sd = some (.dT (pkV D.seen)) := h.at_ .sd _ rfl
theorem WAt.bdo (h : WAt A H D) : H D.bd = some (.dT (pkV D.spoiled)) := h.at_ .bd _ rfl
theorem WAt.mo (h : WAt A H D) {i : Nat} {x : DM} (e : D.meters[i]? = some x) : (∃ dx, H x.a = some (.ins A.M dx (fM (i + 1) x.mem x.m))) ∧ (∃ dx, H x.mem = some (.ins A.Me dx (fMe x.b1 x.b2))) ∧ H x.b1 = some (.lst (bankV x.m.first)) ∧ H x.b2 = some (.lst (bankV x.m.second)) :=
 ⟨h.at_ (.m i) (x.a, .ins A.M (fM (i + 1) x.mem x.m)) (by simp [DS.at_, e]), h.at_ (.me i) (x.mem, .ins A.Me (fMe x.b1 x.b2)) (by simp [DS.at_, e]), h.at_ (.b1 i) (x.b1, .lst (bankV x.m.first)) (by simp [DS.at_, e]), h.at_ (.b2 i) (x.b2, .lst (bankV x.m.second)) (by simp [DS.at_, e])⟩
theorem WAt.vo (h : WAt A H D) {i : Nat} {x : Addr × Vbpoac.Voucher} (e : D.vouchers[i]? = some x) : ∃ dx, H x.1 = some (.ins A.Vo dx (fV x.2)) := h.at_ (.v i) (x.1, .ins A.Vo (fV x.2)) (by simp [DS.at_, e])
theorem WAt.eo (h : WAt A H D) {i : Nat} {x : Addr × Vbpoac.Entry} (e : D.journal[i]? = some x) : ∃ dx, H x.1 = some (.ins A.E dx (fE x.2)) := h.at_ (.e i) (x.1, .ins A.E (fE x.2)) (by simp [DS.at_, e])
theorem WAt.ao (h : WAt A H D) {i : Nat} {x : Addr × Vbpoac.Ask} (e : D.asks[i]? = some x) : H x.1 = some (.lst (askV x.2)) := h.at_ (.a i) (x.1, .lst (askV x.2)) (by simp [DS.at_, e])
theorem WAt.go (h : WAt A H D) {i : Nat} {x : Addr × Vbpoac.Grant} (e : D.grants[i]? = some x) : H x.1 = some (.lst (grantV x.2)) := h.at_ (.g i) (x.1, .lst (grantV x.2)) (by simp [DS.at_, e])
theorem WAt.setDay (h : WAt A H D) (n c : Nat) (a0 : At H' D.w (.ins A.W (fW n c D.ml D.vd D.j D.al D.gl D.sd D.bd))) (hk : ∀ b u, H b = some u → b ≠ D.w → H' b = some u) :
  WAt A H' { D with day := n, accounts := c } ∧ Fr A D H { D with day := n, accounts := c } H' :=
 h.one .w rfl rfl (fun r n => by cases r <;> first | exact absurd rfl n | rfl) a0 hk
theorem snoc_get {α : Type} (l : List α) (x : α) {i : Nat} (h : i ≠ l.length) : (l ++ [x])[i]? = l[i]? := by
 rcases Nat.lt_or_gt_of_ne h with h | h
 ·exact List.getElem?_append_left h
 ·rw [List.getElem?_eq_none (by simp; omega), List.getElem?_eq_none (by omega)]
theorem WAt.entry (h : WAt A H D) (e : Vbpoac.Entry) (hp : H p = none) (a0 : H' D.el = some (.lst (D.journal.map (fun x => V.ref x.1) ++ [V.ref p]))) (a1 : At H' p (.ins A.E (fE e))) (hk : ∀ b u, H b = some u → b ≠ D.el → H' b = some u) :
  WAt A H' { D with journal := D.journal ++ [(p, e)] } ∧ Fr A D H { D with journal := D.journal ++ [(p, e)] } H' :=
 h.push .el (.e D.journal.length) rfl rfl (p := p) (o1 := .ins A.E (fE e)) (by simp [DS.at_]) (by intro z; cases z)
  (fun r n m => by
   cases r with
   | el => exact absurd rfl n
   | e i =>
    have hi : i ≠ D.journal.length := fun z => m (by rw [z])
    show Option.map _ (D.journal ++ [(p, e)])[i]? = _
    rw [snoc_get _ _ hi]; rfl
   | _ => rfl) hp (by simpa [At] using a0) a1 hk
theorem WAt.ask (h : WAt A H D) (e : Vbpoac.Ask) (hp : H p = none) (a0 : H' D.al = some (.lst (D.asks.map (fun x => V.ref x.1) ++ [V.ref p]))) (a1 : H' p = some (.lst (askV e))) (hk : ∀ b u, H b = some u → b ≠ D.al → H' b = some u) :
  WAt A H' { D with asks := D.asks ++ [(p, e)] } ∧ Fr A D H { D with asks := D.asks ++ [(p, e)] } H' :=
 h.push .al (.a D.asks.length) rfl rfl (p := p) (o1 := .lst (askV e)) (by simp [DS.at_]) (by intro z; cases z)
  (fun r n m => by
   cases r with
   | al => exact absurd rfl n
   | a i =>
    have hi : i ≠ D.asks.length := fun z => m (by rw [z])
    show Option.map _ (D.asks ++ [(p, e)])[i]? = _
    rw [snoc_get _ _ hi]; rfl
   | _ => rfl) hp (by simpa [At] using a0) a1 hk
theorem WAt.grant (h : WAt A H D) (e : Vbpoac.Grant) (hp : H p = none) (a0 : H' D.gl = some (.lst (D.grants.map (fun x => V.ref x.1) ++ [V.ref p]))) (a1 : H' p = some (.lst (grantV e))) (hk : ∀ b u, H b = some u → b ≠ D.gl → H' b = some u) :
  WAt A H' { D with grants := D.grants ++ [(p, e)] } ∧ Fr A D H { D with grants := D.grants ++ [(p, e)] } H' :=
 h.push .gl (.g D.grants.length) rfl rfl (p := p) (o1 := .lst (grantV e)) (by simp [DS.at_]) (by intro z; cases z)
  (fun r n m => by
   cases r with
   | gl => exact absurd rfl n
   | g i =>
    have hi : i ≠ D.grants.length := fun z => m (by rw [z])
    show Option.map _ (D.grants ++ [(p, e)])[i]? = _
    rw [snoc_get _ _ hi]; rfl
   | _ => rfl) hp (by simpa [At] using a0) a1 hk
theorem set_get {α : Type} (l : List α) (x : α) {i j : Nat} (h : j ≠ i) : (l.set i x)[j]? = l[j]? := List.getElem?_set_ne (fun z => h z.symm)
theorem map_set_same {α β : Type} (f : α → β) : ∀ {l : List α} {i : Nat} {x y : α}, l[i]? = some x → f y = f x → (l.set i y).map f = l.map f
 | [], _, _, _, h, _ => by simp at h
 | a :: r, 0, x, y, h, e => by
  have q : a = x := Option.some.inj h
  subst q
  simp [e]
 | a :: r, i + 1, x, y, h, e => by
  have ih := map_set_same f (l := r) (i := i) (x := x) (y := y) h e
  show f a :: (r.set i y).map f = f a :: r.map f
  rw [ih]
theorem WAt.meter (h : WAt A H D) {i : Nat} {x : DM} (e : D.meters[i]? = some x) (m : Vbpoac.Meter) (h1 : m.first = x.m.first) (h2 : m.second = x.m.second) (a0 : At H' x.a (.ins A.M (fM (i + 1) x.mem m)))
  (hk : ∀ b u, H b = some u → b ≠ x.a → H' b = some u) : WAt A H' { D with meters := D.meters.set i { x with m := m } } ∧ Fr A D H { D with meters := D.meters.set i { x with m := m } } H' := by
 have hlt : i < D.meters.length := (List.getElem?_eq_some_iff.mp e).1
 refine h.one (.m i) (l := x.a) (o0 := .ins A.M (fM (i + 1) x.mem x.m)) (o0' := .ins A.M (fM (i + 1) x.mem m)) (by simp [DS.at_, e]) (by simp [DS.at_, hlt]) (fun r n => ?_) a0 hk
 cases r with
 | ml => simp only [DS.at_]; rw [map_set_same (fun x : DM => V.ref x.a) e]; rfl
 | m j =>
  have hj : j ≠ i := fun z => n (by rw [z])
  simp only [DS.at_]; rw [set_get _ _ hj]
 | me j =>
  by_cases hj : j = i
  ·subst hj; simp only [DS.at_]; rw [List.getElem?_set_self hlt, e]; first | rfl | simp
  ·simp only [DS.at_]; rw [set_get _ _ hj]
 | b1 j =>
  by_cases hj : j = i
  ·subst hj; simp only [DS.at_]; rw [List.getElem?_set_self hlt, e]; first | rfl | simp [h1]
  ·simp only [DS.at_]; rw [set_get _ _ hj]
 | b2 j =>
  by_cases hj : j = i
  ·subst hj; simp only [DS.at_]; rw [List.getElem?_set_self hlt, e]; first | rfl | simp [h2]
  ·simp only [DS.at_]; rw [set_get _ _ hj]
 | _ => rfl
theorem WAt.bank1 (h : WAt A H D) {i : Nat} {x : DM} (e : D.meters[i]? = some x) (b : Vbpoac.Bank) (a0 : H' x.b1 = some (.lst (bankV b)))
  (hk : ∀ b u, H b = some u → b ≠ x.b1 → H' b = some u) : WAt A H' { D with meters := D.meters.set i { x with m := { x.m with first := b } } } ∧ Fr A D H { D with meters := D.meters.set i { x with m := { x.m with first := b } } } H' := by
 have hlt : i < D.meters.length := (List.getElem?_eq_some_iff.mp e).1
 refine h.one (.b1 i) (l := x.b1) (o0 := .lst (bankV x.m.first)) (o0' := .lst (bankV b)) (by simp [DS.at_, e]) (by simp [DS.at_, hlt]) (fun r n => ?_) a0 hk
 cases r with
 | ml => simp only [DS.at_]; rw [map_set_same (fun x : DM => V.ref x.a) e]; rfl
 | b1 j =>
  have hj : j ≠ i := fun z => n (by rw [z])
  simp only [DS.at_]; rw [set_get _ _ hj]
 | me j =>
  by_cases hj : j = i
  ·subst hj; simp only [DS.at_]; rw [List.getElem?_set_self hlt, e]; first | rfl | simp
  ·simp only [DS.at_]; rw [set_get _ _ hj]
 | m j =>
  by_cases hj : j = i
  ·subst hj; simp only [DS.at_]; rw [List.getElem?_set_self hlt, e]; first | rfl | simp [fM]
  ·simp only [DS.at_]; rw [set_get _ _ hj]
 | b2 j =>
  by_cases hj : j = i
  ·subst hj; simp only [DS.at_]; rw [List.getElem?_set_self hlt, e]; first | rfl | simp
  ·simp only [DS.at_]; rw [set_get _ _ hj]
 | _ => rfl
theorem WAt.bank2 (h : WAt A H D) {i : Nat} {x : DM} (e : D.meters[i]? = some x) (b : Vbpoac.Bank) (a0 : H' x.b2 = some (.lst (bankV b)))
  (hk : ∀ b u, H b = some u → b ≠ x.b2 → H' b = some u) : WAt A H' { D with meters := D.meters.set i { x with m := { x.m with second := b } } } ∧ Fr A D H { D with meters := D.meters.set i { x with m := { x.m with second := b } } } H' := by
 have hlt : i < D.meters.length := (List.getElem?_eq_some_iff.mp e).1
 refine h.one (.b2 i) (l := x.b2) (o0 := .lst (bankV x.m.second)) (o0' := .lst (bankV b)) (by simp [DS.at_, e]) (by simp [DS.at_, hlt]) (fun r n => ?_) a0 hk
 cases r with
 | ml => simp only [DS.at_]; rw [map_set_same (fun x : DM => V.ref x.a) e]; rfl
 | b2 j =>
  have hj : j ≠ i := fun z => n (by rw [z])
  simp only [DS.at_]; rw [set_get _ _ hj]
 | me j =>
  by_cases hj : j = i
  ·subst hj; simp only [DS.at_]; rw [List.getElem?_set_self hlt, e]; first | rfl | simp
  ·simp only [DS.at_]; rw [set_get _ _ hj]
 | m j =>
  by_cases hj : j = i
  ·subst hj; simp only [DS.at_]; rw [List.getElem?_set_self hlt, e]; first | rfl | simp [fM]
  ·simp only [DS.at_]; rw [set_get _ _ hj]
 | b1 j =>
  by_cases hj : j = i
  ·subst hj; simp only [DS.at_]; rw [List.getElem?_set_self hlt, e]; first | rfl | simp
  ·simp only [DS.at_]; rw [set_get _ _ hj]
 | _ => rfl
theorem WAt.see (h : WAt A H D) (p : Nat × Nat) (a0 : H' D.sd = some (.dT (pkV (D.seen ++ [p])))) (hk : ∀ b u, H b = some u → b ≠ D.sd → H' b = some u) :
  WAt A H' { D with seen := D.seen ++ [p] } ∧ Fr A D H { D with seen := D.seen ++ [p] } H' :=
 h.one .sd rfl rfl (fun r n => by cases r <;> first | exact absurd rfl n | rfl) a0 hk
theorem WAt.giveBack (h : WAt A H D) (p : Nat × Nat) (a0 : H' D.bd = some (.dT (pkV (D.spoiled ++ [p])))) (hk : ∀ b u, H b = some u → b ≠ D.bd → H' b = some u) :
  WAt A H' { D with spoiled := D.spoiled ++ [p] } ∧ Fr A D H { D with spoiled := D.spoiled ++ [p] } H' :=
 h.one .bd rfl rfl (fun r n => by cases r <;> first | exact absurd rfl n | rfl) a0 hk
theorem WAt.setAsk (h : WAt A H D) {i : Nat} {x : Addr × Vbpoac.Ask} (e : D.asks[i]? = some x) (y : Vbpoac.Ask) (a0 : H' x.1 = some (.lst (askV y))) (hk : ∀ b u, H b = some u → b ≠ x.1 → H' b = some u) :
  WAt A H' { D with asks := D.asks.set i (x.1, y) } ∧ Fr A D H { D with asks := D.asks.set i (x.1, y) } H' := by
 have hlt : i < D.asks.length := (List.getElem?_eq_some_iff.mp e).1
 refine h.one (.a i) (l := x.1) (o0 := .lst (askV x.2)) (o0' := .lst (askV y)) (by simp [DS.at_, e]) (by simp [DS.at_, hlt]) (fun r n => ?_) a0 hk
 cases r with
 | al => simp only [DS.at_]; rw [map_set_same (fun x : Addr × Vbpoac.Ask => V.ref x.1) e]; rfl
 | a j =>
  have hj : j ≠ i := fun z => n (by rw [z])
  simp only [DS.at_]; rw [set_get _ _ hj]
 | _ => rfl
theorem WAt.setGrant (h : WAt A H D) {i : Nat} {x : Addr × Vbpoac.Grant} (e : D.grants[i]? = some x) (y : Vbpoac.Grant) (a0 : H' x.1 = some (.lst (grantV y))) (hk : ∀ b u, H b = some u → b ≠ x.1 → H' b = some u) :
  WAt A H' { D with grants := D.grants.set i (x.1, y) } ∧ Fr A D H { D with grants := D.grants.set i (x.1, y) } H' := by
 have hlt : i < D.grants.length := (List.getElem?_eq_some_iff.mp e).1
 refine h.one (.g i) (l := x.1) (o0 := .lst (grantV x.2)) (o0' := .lst (grantV y)) (by simp [DS.at_, e]) (by simp [DS.at_, hlt]) (fun r n => ?_) a0 hk
 cases r with
 | gl => simp only [DS.at_]; rw [map_set_same (fun x : Addr × Vbpoac.Grant => V.ref x.1) e]; rfl
 | g j =>
  have hj : j ≠ i := fun z => n (by rw [z])
  simp only [DS.at_]; rw [set_get _ _ hj]
 | _ => rfl
end
noncomputable def EsOk : List DictEntry → List (Int × Int) → Prop := Paired fun e p => e.hash = hashInt p.1 ∧ (∃ t, e.key = .int p.1 t) ∧ ∃ t, e.val = .int p.2 t
structure KdOk (o : Obj) (kvs : List (Int × Int)) : Prop where
 ex : o.ExactDict
 dat : ∃ es ep, o.data = .dict es ep ∧ EsOk es.toList kvs
noncomputable def GD (K : PySem.W.Frag) (mg : Str → Option Value) (x : Str) (kvs : List (Int × Int)) : Prop := ∃ d o, mg x = some (.ref d) ∧ K.lookup d = some o ∧ KdOk o kvs
noncomputable def GT (K : PySem.W.Frag) (mg : Str → Option Value) (x : Str) (ns : List Int) : Prop := ∃ d, mg x = some (.ref d) ∧ ∃ (o : Obj) (its : Array Value) (n : Nat), K.lookup d = some o ∧ o.cls = .type "tuple" ∧ o.data = .seq its n ∧ its.size ≤ sizeLine ∧ Vals (ns.map V.int) its.toList
theorem es_pairs {P : Program} {w : World} : ∀ {es : List DictEntry} {kvs : List (Int × Int)}, EsOk es kvs → ∃ vs : List (Key × Value), PySem.Pairs (mixKind P w) es vs ∧ (∀ e ∈ es, ∃ k, (mixKind P w).is k e.key = true ∧ e.hash = (mixKind P w).hash k) ∧ vs.map (·.1) = kvs.map (fun p => (Sum.inl p.1 : Key)) ∧
  ∀ k, ∃ o, valueAt vs (Sum.inl k) = o ∧ (∀ v, kvs.lookup k = some v → ∃ t, o = some (.int v t))
 | _, _, .nil => ⟨[], .nil, fun _ h => (by cases h), rfl, fun k => ⟨_, rfl, fun v h => (by cases h)⟩⟩
 | e :: es, p :: kvs, .cons ⟨h1, ⟨t, h2⟩, u, h3⟩ r => by
  obtain ⟨vs, hp, hk, hm, hv⟩ := es_pairs (P := P) (w := w) r
  refine ⟨(Sum.inl p.1, .int p.2 u) :: vs, .cons (by show keyIs (.inl p.1) e.key = true; rw [h2]; exact keyIs_int _ _) h3 hp, fun e' he' => ?_, by rw [List.map_cons, List.map_cons, hm], fun k => ⟨_, rfl, fun v h => ?_⟩⟩
  ·rcases List.mem_cons.mp he' with rfl | he'
   ·exact ⟨.inl p.1, by show keyIs (.inl p.1) e'.key = true; rw [h2]; exact keyIs_int _ _, h1⟩
   ·exact hk e' he'
  ·obtain ⟨a, b⟩ := p
   by_cases z : a = k
   ·subst z
    rw [List.lookup_cons_self] at h
    cases h
    refine ⟨u, ?_⟩
    unfold valueAt
    rw [List.find?_cons_of_pos (by simp)]; rfl
   ·have hz : (k == a) = false := beq_eq_false_iff_ne.mpr fun y => z y.symm
    rw [List.lookup_cons, hz] at h
    obtain ⟨o, ho, hh⟩ := hv k
    obtain ⟨t, ht⟩ := hh v h
    refine ⟨t, ?_⟩
    unfold valueAt at ho ⊢
    rw [List.find?_cons_of_neg (by simp [z]), ho, ht]
noncomputable def rdGD (kvs : List (Int × Int)) (y : V) (H : Hp) (Q : VK) : Prop := ∃ k v, y = .int k ∧ kvs.lookup k = some v ∧ Q (.int v) H
noncomputable def tGD (kvs : List (Int × Int)) (ti : TE) : TE := fun σ H Q => ti σ H fun y H1 => rdGD kvs y H1 Q
section
variable {X : Cx}
theorem pgd {x : Str} {p pos : Pos} {i : Expr} {ti : TE} {kvs : List (Int × Int)} (h : GD X.K X.mg x kvs) (hi : PE X i ti) (nd : (kvs.map (fun p => (Sum.inl p.1 : Key))).Nodup := by decide) (hg : Gl X x := by rfl) (hs : NoSl i := by intro _ _; rfl) (hd : (x == ("__debug__" : Str)) = false := by decide) :
  PE X (.Subscript (.Name x p) i pos) (tGD kvs ti) := by
 obtain ⟨d, o, hm, hl, hex, es, ep, hdat, hes⟩ := h
 intro pins s σ H Q I q
 refine subD_of PySem.F.slot_dict_getitem.lookup hs (ld_glob I hg hm ?_ hd)
 refine thn (hi pins s σ H _ I q) fun iv s2 ⟨y, H2, I2, ry, k, v, ey, hv, q2⟩ => ?_
 subst ey
 have hget : s2.heap.get? d = some o := I2.kIn d o hl
 obtain ⟨vs, hp, hk, hmm, hval⟩ := es_pairs (P := X.prog) (w := X.w) hes
 have dd : s2.heap.DictOf (mixKind X.prog X.w) d vs := ⟨o, es, ep, hget, hex, hdat, fun e he => hk e (by simpa using he), hp, by rw [hmm]; exact nd⟩
 refine ⟨dd.typeIs, ?_⟩
 obtain ⟨o', ho', hh⟩ := hval k
 obtain ⟨t, ht⟩ := hh v hv
 exact wpAny_getItem_of (kV_is (k := Sum.inl k) ry) dd.mapOf (ho'.trans ht) ⟨.int v, H2, I2.tok _, ⟨t, rfl⟩, q2⟩
theorem inV_ints (k : Int) : ∀ ns : List Int, inV (.int k) (ns.map V.int) = decide (k ∈ ns)
 | [] => by simp [inV]
 | n :: r => by
  have ih := inV_ints k r
  unfold inV at ih ⊢
  rw [List.map_cons, List.any_cons, ih]
  show ((n == k) || decide (k ∈ r)) = _
  by_cases h : n = k
  ·simp [h]
  ·have h2 : ¬ k = n := fun z => h z.symm
   simp [h, h2]
theorem flat_ints (ns : List Int) : (ns.map V.int).all flatV = true := by
 rw [List.all_map, List.all_eq_true]
 intro n _; rfl
theorem rd_inT {K : PySem.W.Frag} {H : Hp} {Q : VK} {d : Addr} {ns : List Int} {k : Int} (h : ∃ (o : Obj) (its : Array Value) (n : Nat), K.lookup d = some o ∧ o.cls = .type "tuple" ∧ o.data = .seq its n ∧ its.size ≤ sizeLine ∧ Vals (ns.map V.int) its.toList) (q : Q (.bl (decide (k ∈ ns))) H) : rIn K false (.int k) (.ref d) H Q :=
 ⟨d, ns.map V.int, rfl, .inr (.inr h), rfl, flat_ints ns, by
  show Q (.bl (inV (.int k) (ns.map V.int))) H
  rw [inV_ints]; exact q⟩
end
local macro_rules | `(tactic| walk_at "sc") => `(tactic| exact ⟨rfl, rfl, rfl, by decide +kernel, rfl, by decide +kernel, by decide +kernel⟩)
noncomputable def FT (K : PySem.W.Frag) (mg : Str → Option Value) (x : Str) (st : Stmt) (ps : List Str) : Prop := ∃ f fd, Fun K x x st f fd ∧ mg x = some (.ref f) ∧ Binds K fd ps []
noncomputable def MT (K : PySem.W.Frag) (C : Addr) (m q : Str) (st : Stmt) (ps : List Str) : Prop := ∃ f fd, Fun K m q st f fd ∧ PySem.W.findIn K (.ref C) m = some (some (.ref f)) ∧ PySem.W.isFn K (.ref f) = true ∧ Binds K fd ps []
noncomputable abbrev sx6 : Stmt := inClass (top 6) 0
noncomputable abbrev sx8 : Stmt := inClass (top 7) 0
noncomputable abbrev sx9 : Stmt := inClass (top 7) 1
noncomputable abbrev sxa : Stmt := inClass (top 7) 2
noncomputable abbrev sxb : Stmt := inClass (top 7) 3
noncomputable abbrev sxc : Stmt := inClass (top 7) 4
noncomputable abbrev sx1m : Stmt := inClass (top 55) 0
noncomputable abbrev sx1n : Stmt := inClass (top 55) 1
noncomputable abbrev sx1o : Stmt := inClass (top 55) 2
noncomputable abbrev sx1p : Stmt := inClass (top 55) 3
noncomputable abbrev sx1q : Stmt := inClass (top 55) 4
noncomputable abbrev sx1v : Stmt := inClass (top 60) 0
noncomputable abbrev sx1x : Stmt := inClass (top 61) 0
noncomputable abbrev sx1z : Stmt := inClass (top 62) 0
noncomputable abbrev sx20 : Stmt := inClass (top 62) 1
noncomputable abbrev sx21 : Stmt := inClass (top 62) 2
noncomputable abbrev sx22 : Stmt := inClass (top 62) 3
noncomputable abbrev sx23 : Stmt := inClass (top 62) 4
noncomputable abbrev sx24 : Stmt := inClass (top 62) 5
noncomputable abbrev sx25 : Stmt := inClass (top 62) 6
noncomputable abbrev sx26 : Stmt := inClass (top 62) 7
noncomputable abbrev sxl : Stmt := top 17
noncomputable abbrev sx11 : Stmt := top 34
noncomputable abbrev sx12 : Stmt := top 35
noncomputable abbrev sx13 : Stmt := top 36
noncomputable abbrev sx14 : Stmt := top 37
noncomputable abbrev sx15 : Stmt := top 38
noncomputable abbrev sx16 : Stmt := top 39
noncomputable abbrev sx17 : Stmt := top 40
noncomputable abbrev sx18 : Stmt := top 41
noncomputable abbrev sx19 : Stmt := top 42
noncomputable abbrev sx1a : Stmt := top 43
noncomputable abbrev sx1b : Stmt := top 44
noncomputable abbrev sx1c : Stmt := top 45
noncomputable abbrev sx1d : Stmt := top 46
noncomputable abbrev sx1e : Stmt := top 47
noncomputable abbrev sx2d : Stmt := top 70
noncomputable abbrev sx2e : Stmt := top 71
noncomputable abbrev sx2f : Stmt := top 72
noncomputable abbrev sx2g : Stmt := top 73
noncomputable abbrev sx2h : Stmt := top 74
noncomputable abbrev sx2i : Stmt := top 75
noncomputable abbrev sx2o : Stmt := top 82
noncomputable abbrev sx2p : Stmt := top 83
noncomputable abbrev sx2q : Stmt := top 84
noncomputable abbrev sx35 : Stmt := top 100
noncomputable abbrev sx36 : Stmt := top 101
noncomputable abbrev sx37 : Stmt := top 102
noncomputable abbrev sx38 : Stmt := top 103
noncomputable abbrev sx39 : Stmt := top 104
noncomputable abbrev sx3a : Stmt := top 105
noncomputable abbrev sx3b : Stmt := top 106
noncomputable abbrev sx3c : Stmt := top 107
noncomputable abbrev sx3d : Stmt := top 108
noncomputable abbrev sx3e : Stmt := top 109
noncomputable abbrev sx3f : Stmt := top 110
noncomputable abbrev sx3g : Stmt := top 111
noncomputable abbrev sx3h : Stmt := top 112
noncomputable abbrev sx3i : Stmt := top 113
noncomputable abbrev sx3j : Stmt := top 114
noncomputable abbrev sx3k : Stmt := top 115
noncomputable abbrev sx3t : Stmt := top 125
noncomputable abbrev sx3u : Stmt := top 126
noncomputable abbrev sx3v : Stmt := top 127
noncomputable abbrev sx3w : Stmt := top 128
noncomputable abbrev sx3x : Stmt := top 129
noncomputable abbrev sx3y : Stmt := top 130
noncomputable abbrev sx3z : Stmt := top 131
noncomputable abbrev sx40 : Stmt := top 132
noncomputable abbrev sx41 : Stmt := top 133
noncomputable abbrev sx42 : Stmt := top 134
noncomputable abbrev sx43 : Stmt := top 135
noncomputable abbrev sx44 : Stmt := top 136
noncomputable abbrev sx45 : Stmt := top 137
noncomputable abbrev sx49 : Stmt := top 142
noncomputable abbrev sx4a : Stmt := top 143
noncomputable abbrev sx4b : Stmt := top 144
noncomputable abbrev sx4c : Stmt := top 145
noncomputable abbrev sx4d : Stmt := top 146
noncomputable abbrev sx4e : Stmt := top 147
noncomputable abbrev sx4f : Stmt := top 148
noncomputable abbrev sx4i : Stmt := top 152
noncomputable abbrev sx4j : Stmt := top 153
noncomputable abbrev sx4k : Stmt := top 154
noncomputable abbrev sx4l : Stmt := top 155
noncomputable abbrev sx4m : Stmt := top 156
noncomputable abbrev sx4n : Stmt := top 157
noncomputable abbrev sx4o : Stmt := top 158
noncomputable abbrev sx4p : Stmt := top 159
noncomputable abbrev sx5k : Stmt := top 191
noncomputable abbrev sx5l : Stmt := top 192
noncomputable abbrev sx5m : Stmt := top 193
noncomputable abbrev sx5n : Stmt := top 194
noncomputable abbrev sx5o : Stmt := top 195
noncomputable abbrev sx5p : Stmt := top 196
noncomputable abbrev sx5q : Stmt := top 197
noncomputable abbrev sx5r : Stmt := top 198
noncomputable abbrev sx5s : Stmt := top 199
structure Txt (K : PySem.W.Frag) (mg : Str → Option Value) (A : Adr) : Prop where
 clx5 : Cls K A.E
 nx5 : ∀ f ∈ (["day", "account", "kind", "amount", "number"] : List Str), NoAttr K A.E f
 mgx5 : mg "Entry" = some (.ref A.E)
 kcx5 : PySem.W.keepIn K (.ref A.E) = true
 mkx5 : PySem.W.makesIn K A.E = true
 clx7 : Cls K A.J
 nx7 : ∀ f ∈ (["entries"] : List Str), NoAttr K A.J f
 mgx7 : mg "Journal" = some (.ref A.J)
 kcx7 : PySem.W.keepIn K (.ref A.J) = true
 mkx7 : PySem.W.makesIn K A.J = true
 clx1l : Cls K A.Me
 nx1l : ∀ f ∈ (["first", "second"] : List Str), NoAttr K A.Me f
 mgx1l : mg "Memory" = some (.ref A.Me)
 kcx1l : PySem.W.keepIn K (.ref A.Me) = true
 mkx1l : PySem.W.makesIn K A.Me = true
 clx1u : Cls K A.M
 nx1u : ∀ f ∈ (["number", "account", "key", "memory", "on", "stopped_on", "handed_in"] : List Str), NoAttr K A.M f
 mgx1u : mg "Meter" = some (.ref A.M)
 kcx1u : PySem.W.keepIn K (.ref A.M) = true
 mkx1u : PySem.W.makesIn K A.M = true
 clx1w : Cls K A.Vo
 nx1w : ∀ f ∈ (["value", "used"] : List Str), NoAttr K A.Vo f
 mgx1w : mg "Voucher" = some (.ref A.Vo)
 kcx1w : PySem.W.keepIn K (.ref A.Vo) = true
 mkx1w : PySem.W.makesIn K A.Vo = true
 clx1y : Cls K A.W
 nx1y : ∀ f ∈ (["day", "accounts", "meters", "vouchers", "journal", "asks", "grants", "seen", "given_back"] : List Str), NoAttr K A.W f
 mgx1y : mg "World" = some (.ref A.W)
 kcx1y : PySem.W.keepIn K (.ref A.W) = true
 mkx1y : PySem.W.makesIn K A.W = true
 gx0 : GI mg "PAID_IN" (1)
 gx1 : GI mg "VOUCHER_USED" (2)
 gx2 : GI mg "REFILL_GRANTED" (3)
 gx3 : GI mg "HANDED_IN" (4)
 gx4 : GI mg "SPOILED" (5)
 gxd : GI mg "OUT_OF_RANGE" (-1)
 gxe : GI mg "NOT_READ" (-2)
 gxf : GI mg "METER_OFF" (-3)
 gxg : GI mg "NOT_THERE" (-4)
 gxh : GI mg "ALREADY_SO" (-5)
 gxi : GI mg "AS_TOLD" (-6)
 gxj : GI mg "NOT_ENOUGH" (-7)
 gxk : GI mg "TOO_MUCH" (-8)
 gxm : GI mg "LONGEST_TEXT" (200)
 gxn : GI mg "BLANK" (32)
 gxo : GI mg "POINT" (46)
 gxp : GI mg "FIRST_DIGIT" (48)
 gxq : GI mg "LAST_DIGIT" (57)
 gxr : GI mg "MOST_DIGITS" (9)
 gxs : GI mg "HUNDREDTHS_DIGITS" (2)
 gxt : GI mg "CODE_DIGITS" (5)
 gxu : GI mg "METER_SIGN" (77)
 gxv : GI mg "VALUE_SIGN" (86)
 gxw : GI mg "DAY_SIGN" (68)
 gxx : GI mg "CODE_SIGN" (67)
 gxy : GI mg "VOUCHER_SIGN" (86)
 gxz : GI mg "VOUCHER_DIGITS" (9)
 gx10 : GI mg "VOUCHER_LENGTH" (11)
 gx1f : GI mg "GEN" (0)
 gx1g : GI mg "RISING" (1)
 gx1h : GI mg "FALLING" (2)
 gx1i : GI mg "PIECE" (3)
 gx1j : GI mg "REFILLS" (4)
 gx1k : GI mg "WHOLE_WRITE" (6)
 gx1r : GI mg "MOST_ACCOUNTS" (10)
 gx1s : GI mg "MOST_METERS" (10)
 gx1t : GI mg "MOST_BALANCE" (1000000000)
 gx27 : GI mg "LAST_DAY" (100000)
 gx28 : GI mg "MOST_DAYS" (1000)
 gx29 : GI mg "MOST_DEPOSIT" (100000000)
 gx2a : GI mg "MOST_VOUCHERS" (50)
 gx2b : GI mg "LAST_VOUCHER" (999999999)
 gx2c : GI mg "MOST_VOUCHER_VALUE" (1000000)
 gx2j : GI mg "MODULUS" (99991)
 gx2k : GI mg "FACTOR" (31)
 gx2l : GI mg "ASK_codes" (1)
 gx2m : GI mg "GRANT" (2)
 gx2n : GI mg "IMPRINT_codes" (3)
 gx2r : GI mg "COUNTS_imprints" (1)
 gx2s : GI mg "UNREADABLE" (2)
 gx2t : GI mg "NO_SUCH_METER" (3)
 gx2u : GI mg "WRONG_CODE" (4)
 gx2v : GI mg "BEHIND_THE_STOP" (5)
 gx2w : GI mg "LATER_THAN_TODAY" (6)
 gx2x : GI mg "TOO_OLD" (7)
 gx2y : GI mg "SEEN" (8)
 gx2z : GI mg "GIVEN_BACK" (9)
 gx30 : GI mg "MOST_DAYS_TO_COUNT" (30)
 gx31 : GI mg "MOST_DAYS_TO_SPOIL" (60)
 gx32 : GI mg "LAST_PIECE" (999999999)
 gx33 : GI mg "MOST_TEXT_VALUE" (99999999999)
 gx34 : GI mg "LAST_TEXT_DAY" (100000)
 gx3l : GI mg "MOST_MESSAGES" (16)
 gx3m : GI mg "MOST_ASKED" (90000)
 gx3n : GI mg "TO_HOUSE_lines" (0)
 gx3o : GI mg "TO_METERS" (1)
 gx3p : GI mg "METER_lines" (0)
 gx3q : GI mg "NUMBER" (1)
 gx3r : GI mg "AMOUNT" (2)
 gx3s : GI mg "TOTAL" (3)
 gx46 : GI mg "MOST_KEY" (1000000)
 gx47 : GI mg "MOST_IMPRINT_VALUE" (1000000)
 gx48 : GI mg "PRINTED" (7)
 gx4g : GI mg "LAST_FROM" (1000)
 gx4h : GI mg "MOST_TOLD" (50)
 gx4q : GI mg "BEGIN" (0)
 gx4r : GI mg "DAY" (1)
 gx4s : GI mg "ACCOUNT" (2)
 gx4t : GI mg "DEPOSIT" (3)
 gx4u : GI mg "VOUCHER" (4)
 gx4v : GI mg "REDEEM" (5)
 gx4w : GI mg "METER_house" (6)
 gx4x : GI mg "STOP" (7)
 gx4y : GI mg "WITHDRAW" (8)
 gx4z : GI mg "IMPRINT_house" (9)
 gx50 : GI mg "BOOT" (10)
 gx51 : GI mg "ASK_house" (11)
 gx52 : GI mg "TO_HOUSE_house" (12)
 gx53 : GI mg "TO_METER" (13)
 gx54 : GI mg "LOSE" (14)
 gx55 : GI mg "DOUBLE" (15)
 gx56 : GI mg "GARBLE" (16)
 gx57 : GI mg "SCAN" (17)
 gx58 : GI mg "SPOIL" (18)
 gx59 : GI mg "JUDGE" (19)
 gx5a : GI mg "REGISTERS" (20)
 gx5b : GI mg "BANKS" (21)
 gx5c : GI mg "TOLD" (22)
 gx5d : GI mg "BALANCE" (23)
 gx5e : GI mg "STATEMENT" (24)
 gx5f : GI mg "LINES" (25)
 gx5g : GI mg "COUNTS_house" (26)
 gx5h : GI mg "TEXT" (27)
 gx5i : GD K mg "WHOLE_NUMBERS" [(0, 0), (1, 1), (2, 0), (3, 2), (4, 2), (5, 1), (6, 2), (7, 1), (8, 1), (9, 3), (10, 1), (11, 2), (12, 1), (13, 2), (14, 2), (15, 2), (16, 3), (17, 0), (18, 1), (19, 0), (20, 1), (21, 1), (22, 1), (23, 1), (24, 2), (25, 0), (26, 0), (27, 4), (28, 0)]
 gx5j : GT K mg "CALLS_WITH_TEXT" [5, 17, 18, 19, 28]
 b_all : mg "all" = none
 b_enumerate : mg "enumerate" = none
 b_len : mg "len" = none
 b_list : mg "list" = none
 b_ord : mg "ord" = none
 b_str : mg "str" = none
 b_sum : mg "sum" = none
 fx6 : MT K A.E "__init__" "Entry.__init__" sx6 ["self", "day", "account", "kind", "amount", "number"]
 fx8 : MT K A.J "__init__" "Journal.__init__" sx8 ["self"]
 fx9 : MT K A.J "enter" "Journal.enter" sx9 ["self", "day", "account", "kind", "amount", "number"]
 fxa : MT K A.J "entries_of" "Journal.entries_of" sxa ["self", "account"]
 fxb : MT K A.J "balance" "Journal.balance" sxb ["self", "account"]
 fxc : MT K A.J "granted" "Journal.granted" sxc ["self", "meter"]
 fx1m : MT K A.Me "__init__" "Memory.__init__" sx1m ["self"]
 fx1n : MT K A.Me "second_counts" "Memory.second_counts" sx1n ["self"]
 fx1o : MT K A.Me "counting_bank" "Memory.counting_bank" sx1o ["self"]
 fx1p : MT K A.Me "spare_bank" "Memory.spare_bank" sx1p ["self"]
 fx1q : MT K A.Me "write" "Memory.write" sx1q ["self", "rising", "falling", "piece", "refills", "k"]
 fx1v : MT K A.M "__init__" "Meter.__init__" sx1v ["self", "number", "account", "key"]
 fx1x : MT K A.Vo "__init__" "Voucher.__init__" sx1x ["self", "value"]
 fx1z : MT K A.W "__init__" "World.__init__" sx1z ["self"]
 fx20 : MT K A.W "begin" "World.begin" sx20 ["self"]
 fx21 : MT K A.W "meter_ever_there" "World.meter_ever_there" sx21 ["self", "number"]
 fx22 : MT K A.W "find_meter" "World.find_meter" sx22 ["self", "number"]
 fx23 : MT K A.W "account_refusal" "World.account_refusal" sx23 ["self", "account"]
 fx24 : MT K A.W "meter_refusal" "World.meter_refusal" sx24 ["self", "number"]
 fx25 : MT K A.W "is_too_much" "World.is_too_much" sx25 ["self", "account", "amount"]
 fx26 : MT K A.W "enter_today" "World.enter_today" sx26 ["self", "account", "kind", "amount", "number"]
 fxl : FT K mg "with_rows" sxl ["number", "rows"]
 fx11 : FT K mg "row_of" sx11 ["text"]
 fx12 : FT K mg "padded" sx12 ["number", "digits"]
 fx13 : FT K mg "money" sx13 ["value"]
 fx14 : FT K mg "imprint_text" sx14 ["imprint"]
 fx15 : FT K mg "all_digits" sx15 ["row"]
 fx16 : FT K mg "digits_of" sx16 ["row"]
 fx17 : FT K mg "number_of" sx17 ["row"]
 fx18 : FT K mg "is_in_one_way" sx18 ["row"]
 fx19 : FT K mg "is_padded" sx19 ["row", "digits"]
 fx1a : FT K mg "split_at" sx1a ["separator", "row"]
 fx1b : FT K mg "read_imprint" sx1b ["row"]
 fx1c : FT K mg "check_digit" sx1c ["digits"]
 fx1d : FT K mg "voucher_text" sx1d ["number"]
 fx1e : FT K mg "read_voucher" sx1e ["row"]
 fx2d : FT K mg "move_day" sx2d ["world", "days"]
 fx2e : FT K mg "new_account" sx2e ["world"]
 fx2f : FT K mg "deposit" sx2f ["world", "account", "amount"]
 fx2g : FT K mg "new_voucher" sx2g ["world", "number", "value"]
 fx2h : FT K mg "redeem" sx2h ["world", "account", "text"]
 fx2i : FT K mg "check_voucher" sx2i ["text"]
 fx2o : FT K mg "code_of" sx2o ["numbers", "key"]
 fx2p : FT K mg "sealed" sx2p ["kind", "numbers", "key"]
 fx2q : FT K mg "is_sealed" sx2q ["kind", "message", "key"]
 fx35 : FT K mg "right_text" sx35 ["meter", "piece", "value", "day"]
 fx36 : FT K mg "meter_of" sx36 ["imprint"]
 fx37 : FT K mg "piece_of" sx37 ["imprint"]
 fx38 : FT K mg "value_of" sx38 ["imprint"]
 fx39 : FT K mg "day_of" sx39 ["imprint"]
 fx3a : FT K mg "days_since" sx3a ["world", "imprint"]
 fx3b : FT K mg "verdict_by_days" sx3b ["world", "meter", "imprint"]
 fx3c : FT K mg "verdict_by_use" sx3c ["world", "imprint"]
 fx3d : FT K mg "verdict" sx3d ["world", "imprint"]
 fx3e : FT K mg "scan" sx3e ["world", "text"]
 fx3f : FT K mg "judge" sx3f ["world", "text"]
 fx3g : FT K mg "is_of_account" sx3g ["world", "account", "imprint"]
 fx3h : FT K mg "can_be_given_back" sx3h ["world", "imprint"]
 fx3i : FT K mg "less_a_twentieth" sx3i ["value"]
 fx3j : FT K mg "spoil" sx3j ["world", "account", "text"]
 fx3k : FT K mg "write_text" sx3k ["world", "number", "piece", "value", "day"]
 fx3t : FT K mg "message_refusal" sx3t ["line", "place"]
 fx3u : FT K mg "put_grant" sx3u ["world", "meter", "number", "amount"]
 fx3v : FT K mg "grant_refill" sx3v ["world", "meter", "message"]
 fx3w : FT K mg "ask_arrives" sx3w ["world", "message"]
 fx3x : FT K mg "grant_arrives" sx3x ["world", "message", "k"]
 fx3y : FT K mg "ask" sx3y ["world", "number", "amount"]
 fx3z : FT K mg "deliver_to_house" sx3z ["world", "place"]
 fx40 : FT K mg "deliver_to_meter" sx40 ["world", "place", "k"]
 fx41 : FT K mg "messages_on" sx41 ["world", "line"]
 fx42 : FT K mg "place_refusal" sx42 ["world", "line", "place"]
 fx43 : FT K mg "lose" sx43 ["world", "line", "place"]
 fx44 : FT K mg "double" sx44 ["world", "line", "place"]
 fx45 : FT K mg "garble" sx45 ["world", "line", "place", "n"]
 fx49 : FT K mg "new_meter" sx49 ["world", "account", "key"]
 fx4a : FT K mg "stop_meter" sx4a ["world", "number"]
 fx4b : FT K mg "left_in" sx4b ["world", "meter"]
 fx4c : FT K mg "withdraw" sx4c ["world", "number"]
 fx4d : FT K mg "write_imprint" sx4d ["meter", "value", "k"]
 fx4e : FT K mg "print_imprint" sx4e ["world", "number", "value", "k"]
 fx4f : FT K mg "boot" sx4f ["world", "number"]
 fx4i : FT K mg "power" sx4i ["meter"]
 fx4j : FT K mg "tell_registers" sx4j ["world", "number"]
 fx4k : FT K mg "tell_banks" sx4k ["world", "number"]
 fx4l : FT K mg "tell_meter" sx4l ["world", "number"]
 fx4m : FT K mg "tell_balance" sx4m ["world", "account"]
 fx4n : FT K mg "tell_statement" sx4n ["world", "account", "from_entry"]
 fx4o : FT K mg "tell_lines" sx4o ["world"]
 fx4p : FT K mg "tell_counts" sx4p ["world"]
 fx5k : FT K mg "split_calls" sx5k ["calls"]
 fx5l : FT K mg "answer_on_accounts" sx5l ["world", "call", "numbers", "text"]
 fx5m : FT K mg "answer_on_meters" sx5m ["world", "call", "numbers"]
 fx5n : FT K mg "answer_on_lines" sx5n ["world", "call", "numbers"]
 fx5o : FT K mg "answer_on_imprints" sx5o ["world", "call", "numbers", "text"]
 fx5p : FT K mg "answer_with_report" sx5p ["world", "call", "numbers"]
 fx5q : FT K mg "answer_on_texts" sx5q ["world", "call", "numbers", "text"]
 fx5r : FT K mg "answer" sx5r ["world", "call", "numbers", "text"]
 fx5s : FT K mg "answers" sx5s ["calls"]
theorem Txt.rEntry {K : PySem.W.Frag} {mg : Str → Option Value} {A : Adr} (T : Txt K mg A) {a dx : Addr} {fs : List (Str × V)} {f : Str} {v : V} {H : Hp} {Q : VK} (e : H a = some (.ins A.E dx fs)) (h : Q v H) (hf : f ∈ (["day", "account", "kind", "amount", "number"] : List Str) := by decide +kernel) (l : fs.lookup f = some v := by rfl) : rdFl K f (.ref a) H Q := rd_fl e T.clx5 (T.nx5 _ hf) l h
theorem Txt.rJournal {K : PySem.W.Frag} {mg : Str → Option Value} {A : Adr} (T : Txt K mg A) {a dx : Addr} {fs : List (Str × V)} {f : Str} {v : V} {H : Hp} {Q : VK} (e : H a = some (.ins A.J dx fs)) (h : Q v H) (hf : f ∈ (["entries"] : List Str) := by decide +kernel) (l : fs.lookup f = some v := by rfl) : rdFl K f (.ref a) H Q := rd_fl e T.clx7 (T.nx7 _ hf) l h
theorem Txt.rMemory {K : PySem.W.Frag} {mg : Str → Option Value} {A : Adr} (T : Txt K mg A) {a dx : Addr} {fs : List (Str × V)} {f : Str} {v : V} {H : Hp} {Q : VK} (e : H a = some (.ins A.Me dx fs)) (h : Q v H) (hf : f ∈ (["first", "second"] : List Str) := by decide +kernel) (l : fs.lookup f = some v := by rfl) : rdFl K f (.ref a) H Q := rd_fl e T.clx1l (T.nx1l _ hf) l h
theorem Txt.rMeter {K : PySem.W.Frag} {mg : Str → Option Value} {A : Adr} (T : Txt K mg A) {a dx : Addr} {fs : List (Str × V)} {f : Str} {v : V} {H : Hp} {Q : VK} (e : H a = some (.ins A.M dx fs)) (h : Q v H) (hf : f ∈ (["number", "account", "key", "memory", "on", "stopped_on", "handed_in"] : List Str) := by decide +kernel) (l : fs.lookup f = some v := by rfl) : rdFl K f (.ref a) H Q := rd_fl e T.clx1u (T.nx1u _ hf) l h
theorem Txt.rVoucher {K : PySem.W.Frag} {mg : Str → Option Value} {A : Adr} (T : Txt K mg A) {a dx : Addr} {fs : List (Str × V)} {f : Str} {v : V} {H : Hp} {Q : VK} (e : H a = some (.ins A.Vo dx fs)) (h : Q v H) (hf : f ∈ (["value", "used"] : List Str) := by decide +kernel) (l : fs.lookup f = some v := by rfl) : rdFl K f (.ref a) H Q := rd_fl e T.clx1w (T.nx1w _ hf) l h
theorem Txt.rWorld {K : PySem.W.Frag} {mg : Str → Option Value} {A : Adr} (T : Txt K mg A) {a dx : Addr} {fs : List (Str × V)} {f : Str} {v : V} {H : Hp} {Q : VK} (e : H a = some (.ins A.W dx fs)) (h : Q v H) (hf : f ∈ (["day", "accounts", "meters", "vouchers", "journal", "asks", "grants", "seen", "given_back"] : List Str) := by decide +kernel) (l : fs.lookup f = some v := by rfl) : rdFl K f (.ref a) H Q := rd_fl e T.clx1y (T.nx1y _ hf) l h
theorem scx6 : FnScope ["self", "day", "account", "kind", "amount", "number"] ["self", "day", "account", "kind", "amount", "number"] (defScope sx6) := by walk_at "sc"
theorem scx8 : FnScope ["self"] ["self"] (defScope sx8) := by walk_at "sc"
theorem scx9 : FnScope ["self", "day", "account", "kind", "amount", "number"] ["self", "day", "account", "kind", "amount", "number"] (defScope sx9) := by walk_at "sc"
theorem scxa : FnScope ["self", "account", "entry"] ["self", "account"] (defScope sxa) := by walk_at "sc"
theorem scxb : FnScope ["self", "account", "total", "entry"] ["self", "account"] (defScope sxb) := by walk_at "sc"
theorem scxc : FnScope ["self", "meter", "refills", "entry"] ["self", "meter"] (defScope sxc) := by walk_at "sc"
theorem scx1m : FnScope ["self"] ["self"] (defScope sx1m) := by walk_at "sc"
theorem scx1n : FnScope ["self"] ["self"] (defScope sx1n) := by walk_at "sc"
theorem scx1o : FnScope ["self"] ["self"] (defScope sx1o) := by walk_at "sc"
theorem scx1p : FnScope ["self"] ["self"] (defScope sx1p) := by walk_at "sc"
theorem scx1q : FnScope ["self", "rising", "falling", "piece", "refills", "k", "bank", "steps", "place", "word"] ["self", "rising", "falling", "piece", "refills", "k"] (defScope sx1q) := by walk_at "sc"
theorem scx1v : FnScope ["self", "number", "account", "key"] ["self", "number", "account", "key"] (defScope sx1v) := by walk_at "sc"
theorem scx1x : FnScope ["self", "value"] ["self", "value"] (defScope sx1x) := by walk_at "sc"
theorem scx1z : FnScope ["self"] ["self"] (defScope sx1z) := by walk_at "sc"
theorem scx20 : FnScope ["self"] ["self"] (defScope sx20) := by walk_at "sc"
theorem scx21 : FnScope ["self", "number"] ["self", "number"] (defScope sx21) := by walk_at "sc"
theorem scx22 : FnScope ["self", "number", "meter"] ["self", "number"] (defScope sx22) := by walk_at "sc"
theorem scx23 : FnScope ["self", "account"] ["self", "account"] (defScope sx23) := by walk_at "sc"
theorem scx24 : FnScope ["self", "number"] ["self", "number"] (defScope sx24) := by walk_at "sc"
theorem scx25 : FnScope ["self", "account", "amount"] ["self", "account", "amount"] (defScope sx25) := by walk_at "sc"
theorem scx26 : FnScope ["self", "account", "kind", "amount", "number"] ["self", "account", "kind", "amount", "number"] (defScope sx26) := by walk_at "sc"
theorem scxl : FnScope ["number", "rows", "reply", "row"] ["number", "rows"] (defScope sxl) := by walk_at "sc"
theorem scx11 : FnScope ["text", "sign"] ["text"] (defScope sx11) := by walk_at "sc"
theorem scx12 : FnScope ["number", "digits"] ["number", "digits"] (defScope sx12) := by walk_at "sc"
theorem scx13 : FnScope ["value", "coins", "hundredths"] ["value"] (defScope sx13) := by walk_at "sc"
theorem scx14 : FnScope ["imprint", "meter", "piece", "value", "day", "code"] ["imprint"] (defScope sx14) := by walk_at "sc"
theorem scx15 : FnScope ["row", "byte"] ["row"] (defScope sx15) := by walk_at "sc"
theorem scx16 : FnScope ["row", "byte"] ["row"] (defScope sx16) := by walk_at "sc"
theorem scx17 : FnScope ["row", "number", "digit"] ["row"] (defScope sx17) := by walk_at "sc"
theorem scx18 : FnScope ["row"] ["row"] (defScope sx18) := by walk_at "sc"
theorem scx19 : FnScope ["row", "digits"] ["row", "digits"] (defScope sx19) := by walk_at "sc"
theorem scx1a : FnScope ["separator", "row", "parts", "byte"] ["separator", "row"] (defScope sx1a) := by walk_at "sc"
theorem scx1b : FnScope ["row", "words", "word", "meter", "value", "day", "code", "part"] ["row"] (defScope sx1b) := by walk_at "sc"
theorem scx1c : FnScope ["digits", "total", "place", "digit"] ["digits"] (defScope sx1c) := by walk_at "sc"
theorem scx1d : FnScope ["number", "digits"] ["number"] (defScope sx1d) := by walk_at "sc"
theorem scx1e : FnScope ["row", "digits"] ["row"] (defScope sx1e) := by walk_at "sc"
theorem scx2d : FnScope ["world", "days"] ["world", "days"] (defScope sx2d) := by walk_at "sc"
theorem scx2e : FnScope ["world"] ["world"] (defScope sx2e) := by walk_at "sc"
theorem scx2f : FnScope ["world", "account", "amount", "refusal"] ["world", "account", "amount"] (defScope sx2f) := by walk_at "sc"
theorem scx2g : FnScope ["world", "number", "value"] ["world", "number", "value"] (defScope sx2g) := by walk_at "sc"
theorem scx2h : FnScope ["world", "account", "text", "refusal", "number", "voucher"] ["world", "account", "text"] (defScope sx2h) := by walk_at "sc"
theorem scx2i : FnScope ["text", "number"] ["text"] (defScope sx2i) := by walk_at "sc"
theorem scx2o : FnScope ["numbers", "key", "code", "number"] ["numbers", "key"] (defScope sx2o) := by walk_at "sc"
theorem scx2p : FnScope ["kind", "numbers", "key"] ["kind", "numbers", "key"] (defScope sx2p) := by walk_at "sc"
theorem scx2q : FnScope ["kind", "message", "key"] ["kind", "message", "key"] (defScope sx2q) := by walk_at "sc"
theorem scx35 : FnScope ["meter", "piece", "value", "day"] ["meter", "piece", "value", "day"] (defScope sx35) := by walk_at "sc"
theorem scx36 : FnScope ["imprint"] ["imprint"] (defScope sx36) := by walk_at "sc"
theorem scx37 : FnScope ["imprint"] ["imprint"] (defScope sx37) := by walk_at "sc"
theorem scx38 : FnScope ["imprint"] ["imprint"] (defScope sx38) := by walk_at "sc"
theorem scx39 : FnScope ["imprint"] ["imprint"] (defScope sx39) := by walk_at "sc"
theorem scx3a : FnScope ["world", "imprint"] ["world", "imprint"] (defScope sx3a) := by walk_at "sc"
theorem scx3b : FnScope ["world", "meter", "imprint"] ["world", "meter", "imprint"] (defScope sx3b) := by walk_at "sc"
theorem scx3c : FnScope ["world", "imprint"] ["world", "imprint"] (defScope sx3c) := by walk_at "sc"
theorem scx3d : FnScope ["world", "imprint", "meter", "by_days"] ["world", "imprint"] (defScope sx3d) := by walk_at "sc"
theorem scx3e : FnScope ["world", "text", "imprint", "comes_to"] ["world", "text"] (defScope sx3e) := by walk_at "sc"
theorem scx3f : FnScope ["world", "text", "imprint"] ["world", "text"] (defScope sx3f) := by walk_at "sc"
theorem scx3g : FnScope ["world", "account", "imprint", "meter"] ["world", "account", "imprint"] (defScope sx3g) := by walk_at "sc"
theorem scx3h : FnScope ["world", "imprint"] ["world", "imprint"] (defScope sx3h) := by walk_at "sc"
theorem scx3i : FnScope ["value"] ["value"] (defScope sx3i) := by walk_at "sc"
theorem scx3j : FnScope ["world", "account", "text", "refusal", "imprint", "amount"] ["world", "account", "text"] (defScope sx3j) := by walk_at "sc"
theorem scx3k : FnScope ["world", "number", "piece", "value", "day", "refusal"] ["world", "number", "piece", "value", "day"] (defScope sx3k) := by walk_at "sc"
theorem scx3t : FnScope ["line", "place"] ["line", "place"] (defScope sx3t) := by walk_at "sc"
theorem scx3u : FnScope ["world", "meter", "number", "amount"] ["world", "meter", "number", "amount"] (defScope sx3u) := by walk_at "sc"
theorem scx3v : FnScope ["world", "meter", "message", "amount"] ["world", "meter", "message"] (defScope sx3v) := by walk_at "sc"
theorem scx3w : FnScope ["world", "message", "meter", "granted", "number"] ["world", "message"] (defScope sx3w) := by walk_at "sc"
theorem scx3x : FnScope ["world", "message", "k", "meter", "bank", "falling"] ["world", "message", "k"] (defScope sx3x) := by walk_at "sc"
theorem scx3y : FnScope ["world", "number", "amount", "refusal", "meter", "bank", "total", "message"] ["world", "number", "amount"] (defScope sx3y) := by walk_at "sc"
theorem scx3z : FnScope ["world", "place", "refusal", "message"] ["world", "place"] (defScope sx3z) := by walk_at "sc"
theorem scx40 : FnScope ["world", "place", "k", "refusal", "message"] ["world", "place", "k"] (defScope sx40) := by walk_at "sc"
theorem scx41 : FnScope ["world", "line"] ["world", "line"] (defScope sx41) := by walk_at "sc"
theorem scx42 : FnScope ["world", "line", "place"] ["world", "line", "place"] (defScope sx42) := by walk_at "sc"
theorem scx43 : FnScope ["world", "line", "place", "refusal"] ["world", "line", "place"] (defScope sx43) := by walk_at "sc"
theorem scx44 : FnScope ["world", "line", "place", "refusal", "messages"] ["world", "line", "place"] (defScope sx44) := by walk_at "sc"
theorem scx45 : FnScope ["world", "line", "place", "n", "refusal", "message"] ["world", "line", "place", "n"] (defScope sx45) := by walk_at "sc"
theorem scx49 : FnScope ["world", "account", "key", "refusal", "number"] ["world", "account", "key"] (defScope sx49) := by walk_at "sc"
theorem scx4a : FnScope ["world", "number", "refusal", "meter"] ["world", "number"] (defScope sx4a) := by walk_at "sc"
theorem scx4b : FnScope ["world", "meter", "bank"] ["world", "meter"] (defScope sx4b) := by walk_at "sc"
theorem scx4c : FnScope ["world", "number", "refusal", "meter", "amount"] ["world", "number"] (defScope sx4c) := by walk_at "sc"
theorem scx4d : FnScope ["meter", "value", "k", "bank"] ["meter", "value", "k"] (defScope sx4d) := by walk_at "sc"
theorem scx4e : FnScope ["world", "number", "value", "k", "refusal", "meter", "piece"] ["world", "number", "value", "k"] (defScope sx4e) := by walk_at "sc"
theorem scx4f : FnScope ["world", "number", "refusal", "meter"] ["world", "number"] (defScope sx4f) := by walk_at "sc"
theorem scx4i : FnScope ["meter"] ["meter"] (defScope sx4i) := by walk_at "sc"
theorem scx4j : FnScope ["world", "number", "refusal", "meter"] ["world", "number"] (defScope sx4j) := by walk_at "sc"
theorem scx4k : FnScope ["world", "number", "refusal", "meter"] ["world", "number"] (defScope sx4k) := by walk_at "sc"
theorem scx4l : FnScope ["world", "number", "refusal", "meter", "stop"] ["world", "number"] (defScope sx4l) := by walk_at "sc"
theorem scx4m : FnScope ["world", "account", "refusal"] ["world", "account"] (defScope sx4m) := by walk_at "sc"
theorem scx4n : FnScope ["world", "account", "from_entry", "refusal", "told", "entry"] ["world", "account", "from_entry"] (defScope sx4n) := by walk_at "sc"
theorem scx4o : FnScope ["world", "messages"] ["world"] (defScope sx4o) := by walk_at "sc"
theorem scx4p : FnScope ["world", "counts"] ["world"] (defScope sx4p) := by walk_at "sc"
theorem scx5k : FnScope ["calls", "parts", "place", "call", "behind", "numbers", "text"] ["calls"] (defScope sx5k) := by walk_at "sc"
theorem scx5l : FnScope ["world", "call", "numbers", "text"] ["world", "call", "numbers", "text"] (defScope sx5l) := by walk_at "sc"
theorem scx5m : FnScope ["world", "call", "numbers"] ["world", "call", "numbers"] (defScope sx5m) := by walk_at "sc"
theorem scx5n : FnScope ["world", "call", "numbers"] ["world", "call", "numbers"] (defScope sx5n) := by walk_at "sc"
theorem scx5o : FnScope ["world", "call", "numbers", "text"] ["world", "call", "numbers", "text"] (defScope sx5o) := by walk_at "sc"
theorem scx5p : FnScope ["world", "call", "numbers"] ["world", "call", "numbers"] (defScope sx5p) := by walk_at "sc"
theorem scx5q : FnScope ["world", "call", "numbers", "text"] ["world", "call", "numbers", "text"] (defScope sx5q) := by walk_at "sc"
theorem scx5r : FnScope ["world", "call", "numbers", "text"] ["world", "call", "numbers", "text"] (defScope sx5r) := by walk_at "sc"
theorem scx5s : FnScope ["calls", "world", "told", "call", "numbers", "text", "reply"] ["calls"] (defScope sx5s) := by walk_at "sc"
section
variable {K : PySem.W.Frag} {σ : L2.St} {H : Hp} {Q : VK} {i j k lo hi : Int} {n : Nat} {P R : Prop}
theorem i_ch (e : σ[n]? = some (some (.int j))) (h : Q (.bl (decide (i ≤ j) && decide (j ≤ k))) H) :
  tChain (rI0 fun i j => .bl (decide (i ≤ j))) (rI0 fun i j => .bl (decide (i ≤ j))) (tC (.int i)) (tVar n) (tC (.int k)) σ H Q := by
 refine ⟨_, e, i, j, rfl, rfl, decide (i ≤ j), rfl, ?_⟩
 cases q : decide (i ≤ j) with
 | true =>
  rw [q, Bool.true_and] at h
  rw [if_pos rfl]
  exact ⟨j, k, rfl, rfl, h⟩
 | false =>
  rw [q, Bool.false_and] at h
  rw [if_neg Bool.false_ne_true]
  exact h
theorem ite_out (h1 : ¬ (lo ≤ i ∧ i ≤ hi) → P) (h2 : lo ≤ i → i ≤ hi → R) : if (!(decide (lo ≤ i) && decide (i ≤ hi))) = true then P else R := by
 by_cases h : lo ≤ i ∧ i ≤ hi
 ·rw [decide_eq_true h.1, decide_eq_true h.2]
  exact iteF (h2 h.1 h.2)
 ·have e : (decide (lo ≤ i) && decide (i ≤ hi)) = false := by
   cases q : (decide (lo ≤ i) && decide (i ≤ hi)) with
   | false => rfl
   | true =>
    rw [Bool.and_eq_true] at q
    exact absurd ⟨of_decide_eq_true q.1, of_decide_eq_true q.2⟩ h
  rw [e]
  exact iteT (h1 h)
theorem ite_d {c : Prop} [Decidable c] (h1 : c → P) (h2 : ¬ c → R) : if decide c = true then P else R := by
 by_cases h : c
 ·rw [decide_eq_true h]; exact iteT (h1 h)
 ·rw [decide_eq_false h]; exact iteF (h2 h)
theorem ite_nd {c : Prop} [Decidable c] (h1 : ¬ c → P) (h2 : c → R) : if (!decide c) = true then P else R := by
 by_cases h : c
 ·rw [decide_eq_true h]; exact iteF (h2 h)
 ·rw [decide_eq_false h]; exact iteT (h1 h)
theorem ite_b {b : Bool} (h1 : b = true → P) (h2 : b = false → R) : if b = true then P else R := by
 cases b with
 | true => exact iteT (h1 rfl)
 | false => exact iteF (h2 rfl)
theorem ite_nb {b : Bool} (h1 : b = false → P) (h2 : b = true → R) : if (!b) = true then P else R := by
 cases b with
 | true => exact iteF (h2 rfl)
 | false => exact iteT (h1 rfl)
theorem new_lst {xs : List V} (hz : xs.length ≤ sizeLine) (h : ∀ p H1, H p = none → H1 p = some (.lst xs) → Same H H1 → (∀ b, b ≠ p → H1 b = H b) → Q (.ref p) H1) : rdNewL xs H Q :=
 ⟨hz, fun p hp => h p _ hp upd_same (Same.upd hp) fun b hb => upd_ne hb⟩
theorem nl {xs : List V} (h : ∀ p H1, H p = none → H1 p = some (.lst xs) → Same H H1 → (∀ b, b ≠ p → H1 b = H b) → Q (.ref p) H1) (hz : Nat.ble xs.length sizeLine = true := by first | rfl | decide) : rdNewL xs H Q := new_lst (Nat.le_of_ble_eq_true hz) h
theorem rd_ix {l : Addr} {xs : List V} {v : V} {i : Int} (j : Nat) (hl : H l = some (.lst xs)) (q : Q v H) (hi : i = (j : Int) := by rfl) (hv : xs[j]? = some v := by rfl) : rIxL K (.ref l) (.int i) H Q := ⟨l, xs, i, v, rfl, rfl, SqL.of hl, at_of hi hv, q⟩
theorem do_append {l : Addr} {xs : List V} {y : V} (hl : H l = some (.lst xs)) (hz : xs.length < sizeLine) (h : ∀ H1, H1 l = some (.lst (xs ++ [y])) → (∀ b, b ≠ l → H1 b = H b) → Q .non H1) : rAppend (.ref l) [y] H Q :=
 ⟨l, xs, y, rfl, rfl, hl, hz, h _ upd_same fun b hb => upd_ne hb⟩
theorem ty_list {l : Addr} {xs : List V} (h : H l = some (.lst xs)) : tyV K "list" (.ref l) H := .inl ⟨rfl, xs, SqL.of h⟩
end
noncomputable def rdFor (K : PySem.W.Frag) (g : TG) (tb : TS) (D : L2.Ends) (σ : L2.St) (x : V) (H : Hp) : Prop := tFor (fun _ H' R => ∃ a, x = .ref a ∧ (∃ xs, SqL K H' a xs) ∧ R (Itl K a) H') g tb D σ H
noncomputable def rdLc (K : PySem.W.Frag) (n : Nat) (tt : TT) (te : TE) (σ : L2.St) (x : V) (H : Hp) (Q : VK) : Prop := tLc (fun _ H' R => ∃ a, x = .ref a ∧ (∃ xs, SqL K H' a xs) ∧ R (Itl K a) H') (gName n) tt te [n] σ H Q
noncomputable def rdLcS (n : Nat) (tt : TT) (te : TE) (σ : L2.St) (x : V) (H : Hp) (Q : VK) : Prop := tLc (fun _ H' R => ∃ z, x = .str z ∧ R (Its z) H') (gName n) tt te [n] σ H Q
noncomputable def rdForE (K : PySem.W.Frag) (g : TG) (tb : TS) (D : L2.Ends) (σ : L2.St) (vs : List V) (H : Hp) : Prop := tFor (fun _ H' R => ∃ a xs, vs = [.ref a] ∧ SqL K H' a xs ∧ R (Ite K a) H') g tb D σ H
section
variable {K : PySem.W.Frag} {σ : L2.St} {H : Hp} {Q : VK} {n : Nat} {g : TG} {tb : TS} {D : L2.Ends} {tl te : TE} {ta : TA} {tt : TT} {a : Addr} {xs : List V}
theorem i_for (h : tl σ H fun x H1 => rdFor K g tb D σ x H1) : tFor (iList K tl) g tb D σ H := h
theorem i_forE (h : ta σ H fun vs H1 => rdForE K g tb D σ vs H1) : tFor (iEnum K ta) g tb D σ H := h
theorem i_lc (h : tl σ H fun x H1 => rdLc K n tt te σ x H1 Q) : tLc (iList K tl) (gName n) tt te [n] σ H Q := h
theorem i_lcS (h : tl σ H fun x H1 => rdLcS n tt te σ x H1 Q) : tLc (iStr tl) (gName n) tt te [n] σ H Q := h
theorem i_yes {QB : Bool → Hp → Prop} (h : QB true H) : tYes σ H QB := h
theorem rd_for (hs : SqL K H a xs) (Pv : Nat → L2.St → Hp → Prop) (h0 : Pv 0 σ H) (hl : ∀ i σ H, i ≤ xs.length → Pv i σ H → SqL K H a xs)
  (ht : ∀ i x σ H, xs[i]? = some x → Pv i σ H → g x σ H fun σ2 H2 => tb { D with nx := Pv (i + 1), ct := Pv (i + 1), bk := D.nx } σ2 H2) (hd : ∀ σ H, Pv xs.length σ H → D.nx σ H) : rdFor K g tb D σ (.ref a) H :=
 ⟨a, rfl, ⟨xs, hs⟩, for_list Pv h0 hl ht hd⟩
theorem rd_forE (hs : SqL K H a xs) (Pv : Nat → L2.St → Hp → Prop) (h0 : Pv 0 σ H) (hl : ∀ i σ H, i ≤ xs.length → Pv i σ H → SqL K H a xs)
  (ht : ∀ i x σ H T, xs[i]? = some x → Pv i σ H → H T = none → g (.ref T) σ (upd H T (.tup [.int (i : Nat), x])) fun σ2 H2 => tb { D with nx := Pv (i + 1), ct := Pv (i + 1), bk := D.nx } σ2 H2) (hd : ∀ σ H, Pv xs.length σ H → D.nx σ H) : rdForE K g tb D σ [.ref a] H := by
 refine ⟨a, xs, rfl, hs, fun i m σ H => m = xs.length - i ∧ i ≤ xs.length ∧ Pv i σ H, ⟨xs.length, by simp, Nat.zero_le _, h0⟩, ?_⟩
 rintro i m σ H ⟨rfl, hi, p⟩
 have q := hl i σ H hi p
 by_cases hlt : i < xs.length
 ·refine .inr ⟨⟨xs, xs[i], q, by simp [hlt]⟩, Pv (i + 1), fun σ' H' p' => ⟨xs.length - (i + 1), by omega, rfl, hlt, p'⟩, fun x H' y => ?_⟩
  obtain ⟨T, z, rfl, hT, rfl, y⟩ := y
  exact ht i z _ _ T (y xs q) p hT
 ·have e : i = xs.length := by omega
  subst e
  exact .inl ⟨⟨xs, q, Nat.le_refl _⟩, hd _ H p⟩
theorem wipe1 (σ : L2.St) (n : Nat) (x : Option V) : wipe ((wipe σ [n]).set n x) [n] = wipe σ [n] := by simp [wipe, List.set_set]
theorem take_snoc {α : Type} : ∀ {l : List α} {i : Nat} {x : α}, l[i]? = some x → l.take (i + 1) = l.take i ++ [x]
 | [], i, x, h => by simp at h
 | a :: l, 0, x, h => by
  have e : a = x := Option.some.inj h
  subst e; rfl
 | a :: l, i + 1, x, h => by
  have ih := take_snoc (l := l) (i := i) (x := x) h
  show a :: l.take (i + 1) = a :: l.take i ++ [x]
  rw [ih]; rfl
theorem rd_lc {α : Type} {ys : List α} (r : α → V) (hs : SqL K H a (ys.map r)) (hz : ys.length < sizeLine) (p : α → Bool) (f : α → V)
  (hb : ∀ y ∈ ys, ∀ H1, Same H H1 → ∀ R : Bool → Hp → Prop, R (p y) H1 → tt ((wipe σ [n]).set n (some (r y))) H1 R)
  (he : ∀ y ∈ ys, p y = true → ∀ H1, Same H H1 → ∀ R : VK, R (f y) H1 → te ((wipe σ [n]).set n (some (r y))) H1 R)
  (h : ∀ q H1, H q = none → H1 q = some (.lst ((ys.filter p).map f)) → Same H H1 → (∀ b, b ≠ q → H1 b = H b) → Q (.ref q) H1) : rdLc K n tt te σ (.ref a) H Q := by
 refine ⟨a, rfl, ⟨_, hs⟩, fun q hq => ?_⟩
 have same : ∀ H1 : Hp, (∀ b, b ≠ q → H1 b = H b) → Same H H1 := fun H1 k b o e => by rw [k b (ne_of_none e hq)]; exact e
 refine lc_list (xs := ys.map r) (fun i H' => H' q = some (.lst (((ys.take i).filter p).map f)) ∧ ∀ b, b ≠ q → H' b = H b) ⟨upd_same, fun b hb => upd_ne hb⟩ (fun i H' _ ⟨_, k⟩ => (same H' k).seq hs) (fun i x H' hi ⟨h1, k⟩ => ?_) (fun H' ⟨h1, k⟩ => ?_)
 ·obtain ⟨y, hy, rfl⟩ : ∃ y, ys[i]? = some y ∧ r y = x := by
   rw [List.getElem?_map] at hi
   cases e : ys[i]? with
   | none => rw [e] at hi; cases hi
   | some y => rw [e] at hi; exact ⟨y, rfl, Option.some.inj hi⟩
  refine ⟨wipe1 _ _ _, ?_⟩
  have hm := List.mem_of_getElem? hy
  refine hb y hm H' (same H' k) _ ?_
  have e1 := take_snoc hy
  cases e : p y with
  | true =>
   rw [if_pos rfl]
   refine he y hm e H' (same H' k) _ ⟨_, h1, ?_, ?_, fun b hb => by rw [upd_ne hb]; exact k b hb⟩
   ·rw [List.length_map]
    exact Nat.lt_of_le_of_lt (Nat.le_trans (List.length_filter_le _ _) (List.length_take_le' _ _)) hz
   ·rw [upd_same, e1, List.filter_append, List.map_append]
    simp [e]
  | false =>
   rw [if_neg Bool.false_ne_true]
   refine ⟨?_, k⟩
   rw [h1, e1, List.filter_append]
   simp [e]
 ·rw [List.length_map, List.take_length] at h1
  exact h q H' hq h1 (same H' k) k
theorem rd_lcS {z : Str} (hz : z.cps.size < sizeLine) (f : Nat → V)
  (he : ∀ c ∈ z.cps.toList, ∀ H1, Same H H1 → ∀ R : VK, R (f c) H1 → te ((wipe σ [n]).set n (some (.str ⟨#[c]⟩))) H1 R)
  (h : ∀ q H1, H q = none → H1 q = some (.lst (z.cps.toList.map f)) → Same H H1 → (∀ b, b ≠ q → H1 b = H b) → Q (.ref q) H1) : rdLcS n tYes te σ (.str z) H Q := by
 refine ⟨z, rfl, fun q hq => ?_⟩
 have same : ∀ H1 : Hp, (∀ b, b ≠ q → H1 b = H b) → Same H H1 := fun H1 k b o e => by rw [k b (ne_of_none e hq)]; exact e
 refine ⟨fun i m H' => m = z.cps.size - i ∧ i ≤ z.cps.size ∧ H' q = some (.lst ((z.cps.toList.take i).map f)) ∧ ∀ b, b ≠ q → H' b = H b, ⟨z.cps.size, by simp, Nat.zero_le _, upd_same, fun b hb => upd_ne hb⟩, ?_⟩
 rintro i m H' ⟨rfl, hi, h1, k⟩
 by_cases hlt : i < z.cps.size
 ·refine .inr ⟨hlt, fun H2 => H2 q = some (.lst ((z.cps.toList.take (i + 1)).map f)) ∧ ∀ b, b ≠ q → H2 b = H b, fun H2 p' => ⟨z.cps.size - (i + 1), by omega, rfl, hlt, p'⟩, fun x H2 y => ?_⟩
  obtain ⟨rfl, c, hc, rfl⟩ := y
  have hc' : z.cps.toList[i]? = some c := by simpa using hc
  refine ⟨wipe1 _ _ _, ?_⟩
  refine i_yes ?_
  rw [if_pos rfl]
  refine he c (List.mem_of_getElem? hc') H2 (same H2 k) _ ⟨_, h1, ?_, ?_, fun b hb => by rw [upd_ne hb]; exact k b hb⟩
  ·rw [List.length_map]
   exact Nat.lt_of_le_of_lt (List.length_take_le' _ _) (by simpa using hz)
  ·rw [upd_same, take_snoc hc', List.map_append]; rfl
 ·have e : i = z.cps.size := by omega
  subst e
  refine .inl ⟨Nat.le_refl _, h q H' hq ?_ (same H' k) k⟩
  have e2 : z.cps.size = z.cps.toList.length := by simp
  rw [h1, e2, List.take_length]
end
section
variable {X : Cx}
theorem plc {elt tg iter : Expr} {ifs : List Expr} {scope : Scope} {x : Str} {n : Nat} {pos : Pos} {wi : TI} {g : TG} {tt : TT} {te : TE} (hc : X.calm = true) (hN : X.N.Nodup) (hi : PI X tg iter wi) (ok : BlkOk X.N X.env.scope scope [(x, n)])
  (hg : ∀ (s : Shared) (H : Hp) (C : Addr) (cl : List (Str × Addr)) (fp : List Addr), PG (X.blk s H scope (compEnvC scope cl C X.env) fp) tg g) (ht : ∀ (s : Shared) (H : Hp) (C : Addr) (cl : List (Str × Addr)) (fp : List Addr), PTs (X.blk s H scope (compEnvC scope cl C X.env) fp) ifs tt)
  (he : ∀ (s : Shared) (H : Hp) (C : Addr) (cl : List (Str × Addr)) (fp : List Addr), PE (X.blk s H scope (compEnvC scope cl C X.env) fp) elt te) (hs : ∀ x, foldedSetIterable iter X.env x = pure x := by intro _; rfl) :
  PE X (.ListComp elt [⟨tg, iter, ifs, 0⟩] scope pos) (tLc wi g tt te [n]) := pe_lc hc hN hi ok hg ht he hs
theorem pslc {i : Nat} {y : Str} {py : Pos} {elt tg iter : Expr} {ifs : List Expr} {scope : Scope} {x : Str} {n : Nat} {pos spos : Pos} {wi : TI} {g : TG} {tt : TT} {te : TE} (hc : X.calm = true) (hN : X.N.Nodup) (hy : X.N[i]? = some y) (hyl : X.env.scope.names.lookup y = some .local)
  (hsw : swapsWith (.ListComp elt [⟨tg, iter, ifs, 0⟩] scope pos) (some (.Name y py)) spos.line X.env = pure true) (hi : PI X tg iter wi) (ok : BlkOk X.N X.env.scope scope [(x, n)])
  (hg : ∀ (s : Shared) (H : Hp) (C : Addr) (cl : List (Str × Addr)) (fp : List Addr), PG (X.blk s H scope (compEnvC scope cl C X.env) fp) tg g) (ht : ∀ (s : Shared) (H : Hp) (C : Addr) (cl : List (Str × Addr)) (fp : List Addr), PTs (X.blk s H scope (compEnvC scope cl C X.env) fp) ifs tt)
  (he : ∀ (s : Shared) (H : Hp) (C : Addr) (cl : List (Str × Addr)) (fp : List Addr), PE (X.blk s H scope (compEnvC scope cl C X.env) fp) elt te) (hs : ∀ x, foldedSetIterable iter X.env x = pure x := by intro _; rfl) :
  PS X (.Assign [.Name y py] (.ListComp elt [⟨tg, iter, ifs, 0⟩] scope pos) spos) (tAsg (tLc wi g tt te [n]) (gName i)) := ps_setLc hc hN hy hyl hsw hi ok hg ht he hs
end
noncomputable def rdBM (K : PySem.W.Frag) (T : String) (x : V) (H : Hp) (P : Prop) : Prop := tyV K T x H ∧ P
noncomputable def wrA (a C : Addr) (f : Str) (z : V) (H : Hp) (Q : Hp → Prop) : Prop := ∃ dx fs, H a = some (.ins C dx fs) ∧ fs.length < 1000 ∧ Q (upd H a (.ins C dx (putF f z fs)))
noncomputable def rdAug (K : PySem.W.Frag) (f : Str) (tv : TE) (rd : V → V → Hp → VK → Prop) (D : L2.Ends) (σ : L2.St) (x : V) (H : Hp) : Prop := ∃ a C dx fs v, x = .ref a ∧ H a = some (.ins C dx fs) ∧ Cls K C ∧ NoAttr K C f ∧ fs.lookup f = some v ∧
 tv σ H fun y H2 => rd v y H2 fun z H3 => wrA a C f z H3 (D.nx σ)
section
variable {K : PySem.W.Frag} {σ : L2.St} {H : Hp} {Q : VK} {n : Nat} {D : L2.Ends} {ta tv te to : TE} {t : TA} {a C : Addr} {f : Str} {x y z v : V} {i j : Int} {T : String} {r : V → List V → Hp → VK → Prop} {rd : V → V → Hp → VK → Prop} {ti : TIp}
theorem i_bm (h : to σ H fun x H1 => rdBM K T x H1 (t σ H1 fun xs H2 => r x xs H2 Q)) : tBM K T r to t σ H Q := h
theorem rd_bmL {l : Addr} {xs : List V} {P : Prop} (h : H l = some (.lst xs)) (p : P) : rdBM K "list" (.ref l) H P := ⟨ty_list h, p⟩
theorem i_faug (h : ta σ H fun x H1 => rdAug K f tv rd D σ x H1) : sFldAug K ta tv rd f D σ H := h
theorem rd_faug {dx : Addr} {fs : List (Str × V)} (e : H a = some (.ins C dx fs)) (c : Cls K C) (n : NoAttr K C f) (l : fs.lookup f = some v) (h : tv σ H fun y H2 => rd v y H2 fun z H3 => wrA a C f z H3 (D.nx σ)) : rdAug K f tv rd D σ (.ref a) H := ⟨a, C, dx, fs, v, rfl, e, c, n, l, h⟩
theorem i_radd (h : Q (.int (i + j)) H) : rAdd (.int i) (.int j) H Q := ⟨i, j, rfl, rfl, h⟩
theorem wr_a {dx : Addr} {fs : List (Str × V)} {R : Hp → Prop} (e : H a = some (.ins C dx fs)) (hl : fs.length < 1000) (h : ∀ H1, H1 a = some (.ins C dx (putF f z fs)) → (∀ b, b ≠ a → H1 b = H b) → R H1) : wrA a C f z H R := ⟨dx, fs, e, hl, h _ upd_same fun b hb => upd_ne hb⟩
theorem wr_fl {dx : Addr} {fs : List (Str × V)} {R : Hp → Prop} (e : H a = some (.ins C dx fs)) (c : Cls K C) (n : NoAttr K C f) (hl : fs.length < 1000) (h : ∀ H1, H1 a = some (.ins C dx (putF f y fs)) → (∀ b, b ≠ a → H1 b = H b) → R H1) : wrFl K f (.ref a) y H R := ⟨a, C, dx, fs, rfl, e, c, n, hl, h _ upd_same fun b hb => upd_ne hb⟩
theorem i_naug (e : σ[n]? = some (some x)) (h : te σ H fun y H1 => ti x y H1 fun z H2 => D.nx (σ.set n (some z)) H2) : tAug n te ti D σ H := ⟨x, e, h⟩
theorem i_ip {g : Int → Int → Int} (h : Q (.int (g i j)) H) : ipI g (.int i) (.int j) H Q := ⟨i, j, rfl, rfl, h⟩
theorem i_rI {Cc : Int → Int → Prop} {g : Int → Int → V} (c : Cc i j) (h : Q (g i j) H) : rI Cc g (.int i) (.int j) H Q := ⟨i, j, rfl, rfl, c, h⟩
theorem made_same {x dx : Addr} {H2 : Hp} (nx : H x = none) (nd : H dx = none) (k : ∀ b, b ≠ x → H2 b = upd (upd H dx (.own x)) x (.ins C dx []) b) : Same H H2 := fun b o e => by
 have h1 := ne_of_none e nx
 rw [k b h1, upd_ne h1, upd_ne (ne_of_none e nd)]; exact e
end
section
variable {K : PySem.W.Frag} {σ : L2.St} {H : Hp} {Q : VK} {n i j : Nat} {D : L2.Ends} {te to ti : TE} {tl th : TO} {l T : Addr} {xs : List V} {u v : V} {k : Int} {r : V → Option Int → Option Int → Hp → VK → Prop}
theorem new_tup {xs : List V} (hz : xs.length ≤ sizeLine) (h : ∀ p H1, H p = none → H1 p = some (.tup xs) → Same H H1 → (∀ b, b ≠ p → H1 b = H b) → Q (.ref p) H1) : rdNewT xs H Q :=
 ⟨hz, fun p hp => h p _ hp upd_same (Same.upd hp) fun b hb => upd_ne hb⟩
theorem nt {xs : List V} (h : ∀ p H1, H p = none → H1 p = some (.tup xs) → Same H H1 → (∀ b, b ≠ p → H1 b = H b) → Q (.ref p) H1) (hz : Nat.ble xs.length sizeLine = true := by first | rfl | decide) : rdNewT xs H Q := new_tup (Nat.le_of_ble_eq_true hz) h
theorem i_sl (h : te σ H fun x H1 => tl σ H1 fun l H2 => th σ H2 fun u H3 => r x l u H3 Q) : tSl r te tl th σ H Q := h
theorem i_nopart {QO : Option Int → Hp → Prop} (h : QO none H) : tNoPart σ H QO := h
noncomputable def rdPart (x : V) (H : Hp) (Q : Option Int → Hp → Prop) : Prop := ∃ i, x = .int i ∧ Q (some i) H
theorem i_part {QO : Option Int → Hp → Prop} (h : te σ H fun x H1 => rdPart x H1 QO) : tPart te σ H QO := h
theorem i_parti {QO : Option Int → Hp → Prop} (h : QO (some k) H) : rdPart (.int k) H QO := ⟨k, rfl, h⟩
theorem rd_sl {lo hi : Option Int} (hs : SqL K H l xs) (h : ∀ p H1, H p = none → H1 p = some (.lst (cutV xs lo hi)) → Same H H1 → (∀ b, b ≠ p → H1 b = H b) → Q (.ref p) H1) : rSlL K (.ref l) lo hi H Q :=
 ⟨l, xs, rfl, hs, fun p hp => h p _ hp upd_same (Same.upd hp) fun b hb => upd_ne hb⟩
theorem cut_to {xs : List V} {k : Int} (h : 0 ≤ k) : cutV xs none (some k) = xs.take k.toNat := by
 unfold cutV HT.sIx
 simp only []
 rw [if_neg (by omega), List.drop_zero, Nat.sub_zero]
 rcases Nat.le_total k.toNat xs.length with z | z
 ·rw [Nat.min_eq_left z]
 ·rw [Nat.min_eq_right z, List.take_of_length_le (Nat.le_refl _), List.take_of_length_le z]
theorem cut_from {xs : List V} {k : Int} (h : 0 ≤ k) : cutV xs (some k) none = xs.drop k.toNat := by
 unfold cutV HT.sIx
 simp only []
 rw [if_neg (by omega)]
 rcases Nat.le_total k.toNat xs.length with z | z
 ·rw [Nat.min_eq_left z]
  exact List.take_of_length_le (by simp)
 ·rw [Nat.min_eq_right z, List.drop_of_length_le z]
  simp
theorem cut_last {xs : List V} : cutV xs none (some (-1)) = xs.dropLast := by
 unfold cutV HT.sIx
 simp only []
 rw [if_pos (by omega), List.drop_zero, Nat.sub_zero, List.dropLast_eq_take]
 congr 1
 omega
theorem rd_tup2 {QS : L2.St → Hp → Prop} (hT : H T = some (.tup [u, v])) (h : QS ((σ.set i (some u)).set j (some v)) H) : gTup K 2 (gCons (gName i) (gCons (gName j) gNil)) (.ref T) σ H QS := ⟨T, [u, v], rfl, SqT.of hT, rfl, u, [v], rfl, v, [], rfl, rfl, h⟩
theorem i_sub (h : te σ H fun x H1 => to σ H1 fun o H2 => ti σ H2 fun i H3 => rSetL o i x H3 fun H4 => D.nx σ H4) : tAsg te (gSub to ti rSetL) D σ H := h
theorem rd_set {R : Hp → Prop} (hl : H l = some (.lst xs)) (hj : ixN xs.length k = some j) (h : ∀ H1, H1 l = some (.lst (xs.set j v)) → (∀ b, b ≠ l → H1 b = H b) → R H1) : rSetL (.ref l) (.int k) v H R :=
 ⟨l, xs, k, j, rfl, rfl, hl, hj, h _ upd_same fun b hb => upd_ne hb⟩
end
section
variable {K : PySem.W.Frag} {H : Hp} {Q : VK} {l b : Addr} {xs zs : List V} {ns ms : List Int}
theorem do_cat (hl : H l = some (.lst xs)) (hb : H b = some (.lst zs)) (hz : xs.length + zs.length ≤ sizeLine) (h : ∀ p H1, H p = none → H1 p = some (.lst (xs ++ zs)) → Same H H1 → (∀ b, b ≠ p → H1 b = H b) → Q (.ref p) H1) : rCat (.ref l) (.ref b) H Q :=
 ⟨l, b, xs, zs, rfl, rfl, hl, hb, hz, fun p hp => h p _ hp upd_same (Same.upd hp) fun b hb => upd_ne hb⟩
theorem do_extend (hl : H l = some (.lst xs)) (hb : H b = some (.lst zs)) (hz : xs.length + zs.length ≤ sizeLine) (h : ∀ H1, H1 l = some (.lst (xs ++ zs)) → (∀ b, b ≠ l → H1 b = H b) → Q .non H1) : rExtend (.ref l) [.ref b] H Q :=
 ⟨l, b, xs, zs, rfl, rfl, hl, hb, hz, h _ upd_same fun b hb => upd_ne hb⟩
theorem dp_ints : ∀ ns : List Int, DpAll K H (ns.map V.int) (ns.map PyData.int)
 | [] => .nil
 | n :: r => .cons (.int n) (dp_ints r)
theorem shaped_ints (ns : List Int) : SeqAt.shaped (.list (ns.map PyData.int)) = true := by
 have h1 : ∀ ns : List Int, PyData.canLayAll0 (ns.map PyData.int) = true := fun ns => by
  induction ns with
  | nil => rfl
  | cons n r ih => show (PyData.canLay0 (.int n) && PyData.canLayAll0 (r.map PyData.int)) = true; rw [ih]; rfl
 have h2 : ∀ ns : List Int, PyData.depthAll (ns.map PyData.int) = 0 := fun ns => by
  induction ns with
  | nil => rfl
  | cons n r ih => show max (PyData.depth (.int n)) (PyData.depthAll (r.map PyData.int)) = 0; rw [ih]; rfl
 show (PyData.canLayAll0 (ns.map PyData.int) && decide (PyData.depthAll (ns.map PyData.int) + 1 ≤ 64)) = true
 rw [h1, h2]; rfl
theorem eqv_ints : ∀ ns ms : List Int, PyData.eqvAll (ns.map PyData.int) (ms.map PyData.int) = decide (ns = ms)
 | [], [] => rfl
 | [], _ :: _ => by simp [PyData.eqvAll]
 | _ :: _, [] => by simp [PyData.eqvAll]
 | n :: r, m :: t => by
  show ((n == m) && PyData.eqvAll (r.map PyData.int) (t.map PyData.int)) = _
  rw [eqv_ints r t]
  by_cases h : n = m
  ·by_cases h2 : r = t
   ·simp [h, h2]
   ·simp [h, h2]
  ·simp [h]
theorem rd_eqI (ha : H l = some (.lst (ns.map V.int))) (hb : H b = some (.lst (ms.map V.int))) (q : Q (.bl (decide (ns = ms))) H) : rEqD K (.ref l) (.ref b) H Q := by
 refine ⟨_, _, Dp.lst (SqL.of ha) (dp_ints ns), Dp.lst (SqL.of hb) (dp_ints ms), shaped_ints _, shaped_ints _, ?_⟩
 show Q (.bl (PyData.eqvAll (ns.map PyData.int) (ms.map PyData.int))) H
 rw [eqv_ints]; exact q
end
structure Ans (A : Adr) (D : DS) (H : Hp) (D' : DS) (H' : Hp) (p : Addr) (r : Vbpoac.State × Vbpoac.Ans) : Prop where
 st : D'.st = r.1
 w : D'.w = D.w
 at_ : WAt A H' D'
 fr : Fr A D H D' H'
 ls : H' p = some (.lst ((VbpoacNeutral.flat r.2).map V.int))
 new : H p = none
 out : ¬ Foot A D' p
section
variable {A : Adr} {D D' : DS} {H H' H1 : Hp} {p : Addr} {n : Nat}
theorem Ans.no (h : WAt A H D) (hp : H p = none) (h1 : H1 p = some (.lst [.int (-(n : Int))])) (s : Same H H1) (e : ∀ b, b ≠ p → H1 b = H b) : Ans A D H D H1 p (Vbpoac.no D.st n) :=
 ⟨rfl, rfl, h.same s, Fr.same s, h1, hp, h.fresh hp⟩
theorem Ans.num (h : WAt A H1 D') (f : Fr A D H D' H1) (w : D'.w = D.w) (hp : H1 p = none) (h1 : H' p = some (.lst [.int (n : Int)])) (s : Same H1 H') : Ans A D H D' H' p (Vbpoac.yes D'.st n []) :=
 ⟨rfl, w, h.same s, f.trans (Fr.same s), h1, f.live p hp, h.fresh hp⟩
end
theorem meets_len_any {prog : Program} {w : World} {d : Addr} (hd : (d == sysModules) = false) :
  MeetsIn prog w (Builtin.«dict.__len__» ⟨[.ref d], []⟩) (fun _ R s => ∃ o es ep, s.heap.get? d = some o ∧ o.data = .dict es ep ∧ R (.ok (.ret (.int es.size s.toks))) { s with toks := s.toks + 1 }) :=
 .of_wp fun A R s ⟨o, es, ep, ho, hdat, h⟩ => by
  show wpAny _ _ (dictSize d >>= _) _ _ s
  unfold dictSize
  refine wpAny_bind (wpAny_bind (wpAny_dictEntries ho hdat (wpAny_pure ?_)))
  show wpAny _ _ (Builtin.Dict.pendingCount d >>= _) _ _ s
  refine wpAny_bind (wpAny_pendingCount_other hd ?_)
  refine wpAny_ret_mkInt ?_
  rw [Nat.add_zero]; exact h
theorem len_body_any {prog : Program} {w : World} {A : Around} {E : Value → Shared → Prop} {s : Shared} {d : Addr} {o : Obj} {es : Array DictEntry} {ep : _} {Q : Value → Shared → Prop} (hd : (d == sysModules) = false) (ht : s.TypeIs (.ref d) "dict") (ho : s.heap.get? d = some o) (hdat : o.data = .dict es ep) (hfit : (es.size : Int) < 2 ^ 63)
  (h : Q (.int es.size (s.toks + 1)) { s with toks := s.toks + 1 + 1 }) : wpAny (model prog w) A (Builtin.«len» ⟨[.ref d], []⟩) (fun fin s' => ∃ r, fin = .done (.ret r) ∧ Q r s') E s := by
 unfold Builtin.«len»
 refine wpAny_bind (m := oneArg "len" _) (wpAny_pure ?_)
 refine wpAny_bind (m := callSpecial? (.ref d) (Str.ofString "__len__")) (wpAny_callSpecial?_slot (name := Str.ofString "__len__") ht F.slot_dict_len
  (call_meetsIn F.slot_dict_len ht F.entry_dict_len (F.args_dict_len_1 _) (meets_len_any hd) ⟨o, es, ep, ho, hdat, ?_⟩))
 show wpAny _ _ _ _ _ { s with toks := s.toks + 1 }
 refine wpAny_bind (wpAny_holding (wpAny_pure ?_))
 refine wpAny_bind (wpAny_letGo ?_)
 show wpAny _ _ (if ((es.size : Nat) : Int) < 0 then _ else _) _ _ _
 rw [if_neg (by omega)]
 show wpAny _ _ (if ((es.size : Nat) : Int) ≥ 2 ^ 63 then _ else _) _ _ _
 rw [if_neg (by omega)]
 exact wpAny_bind (wpAny_mkInt (wpAny_pure ⟨_, rfl, h⟩))
theorem paired_len {α β : Type} {R : α → β → Prop} : ∀ {xs : List α} {ys : List β}, Paired R xs ys → xs.length = ys.length
 | _, _, .nil => rfl
 | _, _, .cons _ t => by rw [List.length_cons, List.length_cons, paired_len t]
section
variable {X : Cx}
theorem sl_listK (K0 : PySem.W.Frag) (hK : X.K = K0) : SlR X (rSlL K0) := by
 subst hK
 exact sl_list
theorem d_lenT {A : Around} {E : Value → Shared → Prop} {pins : List (Addr × Obj)} {σ : L2.St} {H : Hp} {s : Shared} {a : Addr} {kvs : List (List Key × V)} {Q : Value → Shared → Prop} (I : Inv X pins σ H s) (e : Rd H a (.dT kvs)) (h : ∀ t s', Inv X pins σ H s' → Q (.int (kvs.length : Nat) t) s') : wpAny (model X.prog X.w) A (call (.builtin "len") [.ref a]) Q E s := by
 obtain ⟨z, hd, xs, rel, dd⟩ := dt_rd I.hok e
 have ht := dd.typeIs
 obtain ⟨o, es, ep, h1, h2, h3, h4, _⟩ := dd
 have hl : es.size = kvs.length := by
  rw [← Array.length_toList, h4, List.length_map, paired_len rel]
 refine Calls.call_function_entry kind_len plain_len entry_len (args_len1 _) (len_body_any hd ht h1 h3 (by rw [hl]; rw [sizeLine_eq] at z; omega) ?_)
 rw [hl]
 exact h _ _ (I.tok _)
theorem call_lenT : CallR X (.builtin "len") (fun xs H Q => ∃ a kvs, xs = [V.ref a] ∧ H a = some (.dT kvs) ∧ Q (.int kvs.length) H) := by
 intro pins s σ H xs us Q I r h
 obtain ⟨a, kvs, rfl, ha, q⟩ := h
 obtain ⟨u, rfl, ru⟩ := vals1 r
 cases ru
 exact d_lenT I (.inl ha) fun t s' I' => ⟨.int kvs.length, H, I', ⟨t, rfl⟩, q⟩
end
noncomputable def rdCh (r r' : R2) (tc : TE) (x : V) (σ : L2.St) (y : V) (H : Hp) (Q : VK) : Prop := r x y H fun z H3 => ∃ k, z = .bl k ∧ (if k = true then tc σ H3 fun w' H4 => r' y w' H4 Q else Q (.bl false) H3)
noncomputable def rdAnd (tb : TE) (σ : L2.St) (x : V) (H : Hp) (Q : VK) : Prop := ∃ c, x = .bl c ∧ if c = true then tb σ H Q else Q (.bl false) H
noncomputable def rdOr (tb : TE) (σ : L2.St) (x : V) (H : Hp) (Q : VK) : Prop := ∃ c, x = .bl c ∧ if c = true then Q (.bl true) H else tb σ H Q
section
variable {K : PySem.W.Frag} {σ : L2.St} {H : Hp} {Q : VK} {i j k : Int} {n : Nat} {ta tb tc : TE} {r r' : R2} {b : Bool}
theorem i_ch2 (h : tb σ H fun y H2 => rdCh r r' tc (.int i) σ y H2 Q) : tChain r r' (tC (.int i)) tb tc σ H Q := h
theorem rd_ch (h : Q (.bl (decide (i ≤ j) && decide (j ≤ k))) H) : rdCh (rI0 fun i j => .bl (decide (i ≤ j))) (rI0 fun i j => .bl (decide (i ≤ j))) (tC (.int k)) (.int i) σ (.int j) H Q := by
 refine ⟨i, j, rfl, rfl, decide (i ≤ j), rfl, ?_⟩
 cases q : decide (i ≤ j) with
 | true =>
  rw [q, Bool.true_and] at h
  rw [if_pos rfl]
  exact ⟨j, k, rfl, rfl, h⟩
 | false =>
  rw [q, Bool.false_and] at h
  rw [if_neg Bool.false_ne_true]
  exact h
theorem rd_chl (h : Q (.bl (decide (i ≤ j) && decide (j < k))) H) : rdCh (rI0 fun i j => .bl (decide (i ≤ j))) (rI0 fun i j => .bl (decide (i < j))) (tC (.int k)) (.int i) σ (.int j) H Q := by
 refine ⟨i, j, rfl, rfl, decide (i ≤ j), rfl, ?_⟩
 cases q : decide (i ≤ j) with
 | true =>
  rw [q, Bool.true_and] at h
  rw [if_pos rfl]
  exact ⟨j, k, rfl, rfl, h⟩
 | false =>
  rw [q, Bool.false_and] at h
  rw [if_neg Bool.false_ne_true]
  exact h
theorem i_andV (h : ta σ H fun x H1 => rdAnd tb σ x H1 Q) : tAndV ta tb σ H Q := h
theorem i_orV (h : ta σ H fun x H1 => rdOr tb σ x H1 Q) : tOrV ta tb σ H Q := h
theorem i_rdAnd (h : if b = true then tb σ H Q else Q (.bl false) H) : rdAnd tb σ (.bl b) H Q := ⟨b, rfl, h⟩
theorem i_rdOr (h : if b = true then Q (.bl true) H else tb σ H Q) : rdOr tb σ (.bl b) H Q := ⟨b, rfl, h⟩
theorem Ans.since {A : Adr} {D D' : DS} {H H0 H' : Hp} {p : Addr} {r : Vbpoac.State × Vbpoac.Ans} (s : Same H H0) (a : Ans A D H0 D' H' p r) : Ans A D H D' H' p r := ⟨a.st, a.w, a.at_, (Fr.same s).trans a.fr, a.ls, s.free a.new, a.out⟩
end
section
variable {K : PySem.W.Frag} {σ : L2.St} {H : Hp} {Q : VK} {n : Nat} {te : TE} {a : Addr}
theorem rd_lcP {α : Type} {ys : List α} (r : α → V) (hs : SqL K H a (ys.map r)) (hz : ys.length < sizeLine) (f : α → V)
  (he : ∀ y ∈ ys, ∀ H1, Same H H1 → ∀ R : VK, (∀ H2, Same H1 H2 → R (f y) H2) → te ((wipe σ [n]).set n (some (r y))) H1 R)
  (h : ∀ q H1, H q = none → H1 q = some (.lst (ys.map f)) → Same H H1 → Q (.ref q) H1) : rdLc K n tYes te σ (.ref a) H Q := by
 refine ⟨a, rfl, ⟨_, hs⟩, fun q hq => ?_⟩
 refine lc_list (xs := ys.map r) (fun i H' => H' q = some (.lst ((ys.take i).map f)) ∧ Same H H') ⟨upd_same, Same.upd hq⟩ (fun i H' _ ⟨_, k⟩ => k.seq hs) (fun i x H' hi ⟨h1, k⟩ => ?_) (fun H' ⟨h1, k⟩ => ?_)
 ·obtain ⟨y, hy, rfl⟩ : ∃ y, ys[i]? = some y ∧ r y = x := by
   rw [List.getElem?_map] at hi
   cases e : ys[i]? with
   | none => rw [e] at hi; cases hi
   | some y => rw [e] at hi; exact ⟨y, rfl, Option.some.inj hi⟩
  refine ⟨wipe1 _ _ _, ?_⟩
  refine i_yes ?_
  rw [if_pos rfl]
  refine he y (List.mem_of_getElem? hy) H' k _ fun H2 s2 => ⟨_, s2 _ _ h1, ?_, ?_, fun b o e => ?_⟩
  ·rw [List.length_map]
   exact Nat.lt_of_le_of_lt (List.length_take_le' _ _) hz
  ·rw [upd_same, take_snoc hy, List.map_append]; rfl
  ·rw [upd_ne (ne_of_none e hq)]
   exact s2 _ _ (k _ _ e)
 ·rw [List.length_map, List.take_length] at h1
  exact h q H' hq h1 k
theorem rd_lcN {α : Type} {ys : List α} (r : α → V) (hs : SqL K H a (ys.map r)) (hz : ys.length < sizeLine) (o : α → HO)
  (he : ∀ y ∈ ys, ∀ H1, Same H H1 → ∀ R : VK, (∀ b H2, H1 b = none → H2 b = some (o y) → Same H1 H2 → R (.ref b) H2) → te ((wipe σ [n]).set n (some (r y))) H1 R)
  (h : ∀ q H1 (zs : List (Addr × α)), H q = none → zs.map (·.2) = ys → H1 q = some (.lst (zs.map fun z => V.ref z.1)) → (∀ z ∈ zs, H1 z.1 = some (o z.2)) → Same H H1 → Q (.ref q) H1) : rdLc K n tYes te σ (.ref a) H Q := by
 refine ⟨a, rfl, ⟨_, hs⟩, fun q hq => ?_⟩
 refine lc_list (xs := ys.map r) (fun i H' => ∃ zs : List (Addr × α), zs.map (·.2) = ys.take i ∧ H' q = some (.lst (zs.map fun z => V.ref z.1)) ∧ (∀ z ∈ zs, H' z.1 = some (o z.2) ∧ z.1 ≠ q) ∧ Same H H') ⟨[], rfl, upd_same, fun z hz => (by cases hz), Same.upd hq⟩ (fun i H' _ ⟨_, _, _, _, k⟩ => k.seq hs) (fun i x H' hi ⟨zs, ez, h1, hzs, k⟩ => ?_) (fun H' ⟨zs, ez, h1, hzs, k⟩ => ?_)
 ·obtain ⟨y, hy, rfl⟩ : ∃ y, ys[i]? = some y ∧ r y = x := by
   rw [List.getElem?_map] at hi
   cases e : ys[i]? with
   | none => rw [e] at hi; cases hi
   | some y => rw [e] at hi; exact ⟨y, rfl, Option.some.inj hi⟩
  refine ⟨wipe1 _ _ _, ?_⟩
  refine i_yes ?_
  rw [if_pos rfl]
  have hlen : zs.length ≤ ys.length := by
   have := congrArg List.length ez
   rw [List.length_map, List.length_take] at this
   omega
  refine he y (List.mem_of_getElem? hy) H' k _ fun b H2 nb hb s2 => ⟨_, s2 _ _ h1, ?_, zs ++ [(b, y)], ?_, ?_, fun z hz' => ?_, fun c u e => ?_⟩
  ·rw [List.length_map]; omega
  ·rw [List.map_append, ez, take_snoc hy]; rfl
  ·rw [upd_same, List.map_append]; rfl
  ·have nq : b ≠ q := fun w => by rw [w, h1] at nb; cases nb
   rcases List.mem_append.mp hz' with m | m
   ·have := hzs z m
    exact ⟨by rw [upd_ne this.2]; exact s2 _ _ this.1, this.2⟩
   ·rw [List.mem_singleton.mp m]
    exact ⟨by rw [upd_ne nq]; exact hb, nq⟩
  ·rw [upd_ne (ne_of_none e hq)]
   exact s2 _ _ (k _ _ e)
 ·rw [List.length_map, List.take_length] at ez
  exact h q H' zs hq ez h1 (fun z m => (hzs z m).1) k
end
section
variable {K : PySem.W.Frag} {H : Hp} {Q : VK} {l b t a : Addr} {σ : L2.St}
noncomputable def dRows (rs : List (List Int)) : List PyData := rs.map fun r => PyData.list (r.map PyData.int)
theorem eqv_rows : ∀ rs qs : List (List Int), PyData.eqvAll (dRows rs) (dRows qs) = decide (rs = qs)
 | [], [] => rfl
 | [], _ :: _ => by simp [PyData.eqvAll, dRows]
 | _ :: _, [] => by simp [PyData.eqvAll, dRows]
 | r :: rs, q :: qs => by
  show (PyData.eqvAll (r.map PyData.int) (q.map PyData.int) && PyData.eqvAll (dRows rs) (dRows qs)) = _
  rw [eqv_rows rs qs, eqv_ints]
  by_cases h : r = q
  ·by_cases h2 : rs = qs
   ·simp [h, h2]
   ·simp [h, h2]
  ·simp [h]
theorem shaped_rows (rs : List (List Int)) : SeqAt.shaped (.list (dRows rs)) = true := by
 have h0 : ∀ ns : List Int, PyData.canLayAll0 (ns.map PyData.int) = true ∧ PyData.depthAll (ns.map PyData.int) = 0 := fun ns => by
  induction ns with
  | nil => exact ⟨rfl, rfl⟩
  | cons n r ih => exact ⟨by show (PyData.canLay0 (.int n) && PyData.canLayAll0 (r.map PyData.int)) = true; rw [ih.1]; rfl, by show max (PyData.depth (.int n)) (PyData.depthAll (r.map PyData.int)) = 0; rw [ih.2]; rfl⟩
 have h1 : ∀ rs : List (List Int), PyData.canLayAll0 (dRows rs) = true ∧ PyData.depthAll (dRows rs) ≤ 1 := fun rs => by
  induction rs with
  | nil => exact ⟨rfl, Nat.zero_le _⟩
  | cons r rs ih =>
   refine ⟨?_, ?_⟩
   ·show (PyData.canLayAll0 (r.map PyData.int) && PyData.canLayAll0 (dRows rs)) = true
    rw [ih.1, (h0 r).1]; rfl
   ·show max (PyData.depthAll (r.map PyData.int) + 1) (PyData.depthAll (dRows rs)) ≤ 1
    rw [(h0 r).2]
    have := ih.2
    omega
 show (PyData.canLayAll0 (dRows rs) && decide (PyData.depthAll (dRows rs) + 1 ≤ 64)) = true
 rw [(h1 rs).1, Bool.true_and, decide_eq_true_eq]
 have := (h1 rs).2
 omega
theorem dp_rows : ∀ zs : List (Addr × List Int), (∀ z ∈ zs, H z.1 = some (.lst (z.2.map V.int))) → DpAll K H (zs.map fun z => V.ref z.1) (dRows (zs.map (·.2)))
 | [], _ => .nil
 | z :: zs, h => .cons (.lst (SqL.of (h z List.mem_cons_self)) (dp_ints z.2)) (dp_rows zs fun y hy => h y (List.mem_cons_of_mem _ hy))
theorem rd_neR {zs ys : List (Addr × List Int)} (ha : H l = some (.lst (zs.map fun z => V.ref z.1))) (hz : ∀ z ∈ zs, H z.1 = some (.lst (z.2.map V.int))) (hb : H b = some (.lst (ys.map fun z => V.ref z.1))) (hy : ∀ z ∈ ys, H z.1 = some (.lst (z.2.map V.int)))
  (q : Q (.bl (!decide (zs.map (·.2) = ys.map (·.2)))) H) : rNeD K (.ref l) (.ref b) H Q := by
 refine ⟨_, _, Dp.lst (SqL.of ha) (dp_rows zs hz), Dp.lst (SqL.of hb) (dp_rows ys hy), shaped_rows _, shaped_rows _, ?_⟩
 show Q (.bl (!PyData.eqvAll (dRows _) (dRows _))) H
 rw [eqv_rows]; exact q
theorem rd_tup3 {u v w : V} {i j k : Nat} {QS : L2.St → Hp → Prop} (hT : H t = some (.tup [u, v, w])) (h : QS (((σ.set i (some u)).set j (some v)).set k (some w)) H) : gTup K 3 (gCons (gName i) (gCons (gName j) (gCons (gName k) gNil))) (.ref t) σ H QS :=
 ⟨t, [u, v, w], rfl, SqT.of hT, rfl, u, [v, w], rfl, v, [w], rfl, w, [], rfl, rfl, h⟩
theorem rd_ninT {ns : List Int} {k : Int} (h : H t = some (.tup (ns.map V.int))) (q : Q (.bl (!decide (k ∈ ns))) H) : rIn K true (.int k) (.ref t) H Q :=
 ⟨t, ns.map V.int, rfl, .inr (SqT.of h), rfl, flat_ints ns, by
  show Q (.bl (!inV (.int k) (ns.map V.int))) H
  rw [inV_ints]; exact q⟩
theorem val_pk (l : List (Nat × Nat)) (m p : Nat) : (valV (pkV l) [Sum.inl (m : Int), Sum.inl (p : Int)]).isSome = l.contains (m, p) := by
 induction l with
 | nil => rfl
 | cons x r ih =>
  show (valV (([Sum.inl (x.1 : Int), Sum.inl (x.2 : Int)], V.bl true) :: pkV r) _).isSome = _
  by_cases h : x = (m, p)
  ·subst h
   rw [valV_pos rfl]; simp
  ·have e : ¬ ([Sum.inl (x.1 : Int), Sum.inl (x.2 : Int)] : List Key) = [Sum.inl (m : Int), Sum.inl (p : Int)] := fun z => by
    injection z with z1 z2
    injection z2 with z2 _
    injection z1 with z1
    injection z2 with z2
    exact h (Prod.ext (by omega) (by omega))
   rw [valV_neg e, ih, List.contains_cons]
   have : ((m, p) == x) = false := beq_eq_false_iff_ne.mpr fun z => h z.symm
   rw [this, Bool.false_or]
theorem put_pk {l : List (Nat × Nat)} {m p : Nat} (h : l.contains (m, p) = false) : putK (pkV l) [Sum.inl (m : Int), Sum.inl (p : Int)] (V.bl true) = pkV (l ++ [(m, p)]) := by
 have e : valV (pkV l) [Sum.inl (m : Int), Sum.inl (p : Int)] = none := by
  have := val_pk l m p
  rw [h] at this
  cases q : valV (pkV l) [Sum.inl (m : Int), Sum.inl (p : Int)] with
  | none => rfl
  | some v => rw [q] at this; cases this
 rw [putK_new _ e]
 unfold pkV
 rw [List.map_append]; rfl
end
local macro_rules | `(tactic| walk_at "pm") => `(tactic| first | with_reducible refine i_seq ?_ | with_reducible refine i_if ?_ | with_reducible refine i_ret ?_ | with_reducible refine i_retN ?_ | with_reducible refine i_drop ?_ | with_reducible refine i_asg ?_ | with_reducible refine i_next ?_ | with_reducible refine i_not ?_ | with_reducible refine i_or ?_ | with_reducible refine i_and ?_ | with_reducible refine i_test ?_ | with_reducible refine i_tB ?_ | with_reducible refine i_ifE ?_ | with_reducible refine i_bl ?_ | with_reducible refine i_tru ?_ | with_reducible refine i_tbl ?_ | with_reducible refine i_ch (by with_unfolding_all rfl) ?_ | with_reducible refine i_ch2 ?_ | with_reducible refine rd_ch ?_ | with_reducible refine rd_chl ?_ | with_reducible refine i_andV ?_ | with_reducible refine i_orV ?_ | with_reducible refine i_rdAnd ?_ | with_reducible refine i_rdOr ?_ | with_reducible refine i_var (by with_unfolding_all rfl) ?_ | with_reducible refine i_c ?_ | with_reducible refine i_op ?_ | with_reducible refine i_un ?_ | with_reducible refine i_rU ?_ | with_reducible refine i_rI0 ?_ | with_reducible refine i_eq ?_ | with_reducible refine i_ne ?_ | with_reducible refine i_isN ?_ | with_reducible refine i_notN ?_ | with_reducible refine i_nil ?_ | with_reducible refine i_cons ?_ | with_reducible refine i_lst ?_ | with_reducible refine i_tup ?_ | with_reducible refine i_cal ?_ | with_reducible refine i_met ?_ | with_reducible refine i_mak ?_ | with_reducible refine i_cb ?_ | with_reducible refine i_fl ?_ | with_reducible refine i_sfl ?_ | with_reducible refine i_bm ?_ | with_reducible refine i_faug ?_ | with_reducible refine i_radd ?_ | with_reducible refine i_rsub ?_ | with_reducible refine i_naug (by with_unfolding_all rfl) ?_ | with_reducible refine i_ip ?_ | with_reducible refine i_for ?_ | with_reducible refine i_forE ?_ | with_reducible refine i_lc ?_ | with_reducible refine i_lcS ?_ | with_reducible refine i_yes ?_ | with_reducible refine i_sl ?_ | with_reducible refine i_nopart ?_ | with_reducible refine i_part ?_ | with_reducible refine i_parti ?_ | with_reducible refine i_sub ?_)
local macro_rules | `(tactic| walk_at "p") => `(tactic| repeat walk_at "pm")
section
variable {P : Program} {w : World} {K : PySem.W.Frag} {mg : Str → Option Value} {base : Heap} {A : Adr}
noncomputable def accRef (D : DS) (a : Int) : Int := if ¬ (1 ≤ a ∧ a ≤ 10) then -1 else if (D.accounts : Int) < a then -4 else 0
noncomputable def spx23 (A : Adr) : Sp := fun vs H Q _ => ∃ (D : DS) (a : Int), vs = [.ref D.w, .int a] ∧ WAt A H D ∧ Q (.int (accRef D a)) H
theorem cx23 (P : Program) (w : World) (base : Heap) (T : Txt K mg A) : Met P w K mg base 1 A.W "account_refusal" ["self", "account"] (spx23 A) := by
 obtain ⟨f, fd, F, hm, hf, b⟩ := T.fx23
 refine ⟨f, fd, ⟨hm, hf, F.kp⟩, F.ok (k := 0) scx23 (fun vs H Q E h => ?_) (fun cdv A' outer s H vs Q E hr h => ?_), b⟩
 ·obtain ⟨_, _, rfl, _⟩ := h
  rfl
 ·obtain ⟨D, a, rfl, h⟩ := h
  refine ⟨_, (pss_cons (ps_if (pt_not (pt_chain op_le op_le pe_int (pv 1) (pgi T.gx1r))) (pss_one (ps_ret (pgi T.gxd))) pss_nil)
   (pss_one (ps_ret (pe_ifExp (pt_cmpR op_gt (pv 1) (pfl (pv 0)) (nomark _)) (pgi T.gxg) pe_int)))), ?_⟩
  obtain ⟨hW, q⟩ := h
  obtain ⟨dw, hw⟩ := hW.wo
  walk_at "p"
  refine ite_out (fun n => ?_) (fun h1 h2 => ?_)
  ·walk_at "p"
   have e : accRef D a = -1 := by unfold accRef; rw [if_pos n]
   rw [e] at q; exact q
  ·walk_at "p"
   refine T.rWorld hw ?_
   walk_at "p"
   refine ite_d (fun n => ?_) (fun n => ?_)
   ·walk_at "p"
    have e : accRef D a = -4 := by unfold accRef; rw [if_neg (fun z => z ⟨h1, h2⟩), if_pos n]
    rw [e] at q; exact q
   ·walk_at "p"
    have e : accRef D a = 0 := by unfold accRef; rw [if_neg (fun z => z ⟨h1, h2⟩), if_neg n]
    rw [e] at q; exact q
noncomputable def spx6 (A : Adr) : Sp := fun vs H Q _ => ∃ (p dx : Addr) (e : Vbpoac.Entry), vs = [.ref p, .int e.day, .int e.account, .int e.kind, .int e.amount, .int e.what] ∧ H p = some (.ins A.E dx []) ∧
 ∀ H', At H' p (.ins A.E (fE e)) → (∀ b, b ≠ p → H' b = H b) → Q .non H'
theorem cx6 (P : Program) (w : World) (base : Heap) (T : Txt K mg A) : Mak P w K mg base 1 "Entry" A.E ["self", "day", "account", "kind", "amount", "number"] (spx6 A) := by
 obtain ⟨f, fd, F, hm, hf, b⟩ := T.fx6
 refine ⟨f, fd, ⟨T.mkx5, hm, hf, T.kcx5⟩, F.ok (k := 0) scx6 (fun vs H Q E h => ?_) (fun cdv A' outer s H vs Q E hr h => ?_), T.mgx5, b⟩
 ·obtain ⟨_, _, _, rfl, _⟩ := h
  rfl
 ·obtain ⟨p, dx, e, rfl, h⟩ := h
  refine ⟨_, (pss_cons (psf (pv 0) (pv 1))
   (pss_cons (psf (pv 0) (pv 2))
   (pss_cons (psf (pv 0) (pv 3))
   (pss_cons (psf (pv 0) (pv 4))
   (pss_one (psf (pv 0) (pv 5))))))), ?_⟩
  obtain ⟨hp, q⟩ := h
  walk_at "p"
  refine wr_fl hp T.clx5 (T.nx5 _ (by decide +kernel)) (by show 0 < 1000; decide) (fun H1 h1 k1 => ?_)
  walk_at "p"
  refine wr_fl h1 T.clx5 (T.nx5 _ (by decide +kernel)) (by show 1 < 1000; decide) (fun H2 h2 k2 => ?_)
  walk_at "p"
  refine wr_fl h2 T.clx5 (T.nx5 _ (by decide +kernel)) (by show 2 < 1000; decide) (fun H3 h3 k3 => ?_)
  walk_at "p"
  refine wr_fl h3 T.clx5 (T.nx5 _ (by decide +kernel)) (by show 3 < 1000; decide) (fun H4 h4 k4 => ?_)
  walk_at "p"
  refine wr_fl h4 T.clx5 (T.nx5 _ (by decide +kernel)) (by show 4 < 1000; decide) (fun H5 h5 k5 => ?_)
  exact q H5 ⟨dx, h5⟩ fun b hb => by rw [k5 b hb, k4 b hb, k3 b hb, k2 b hb, k1 b hb]
noncomputable def spx9 (A : Adr) : Sp := fun vs H Q _ => ∃ (D : DS) (e : Vbpoac.Entry), vs = [.ref D.j, .int e.day, .int e.account, .int e.kind, .int e.amount, .int e.what] ∧ WAt A H D ∧ D.journal.length < 10000 ∧
 ∀ p H', WAt A H' { D with journal := D.journal ++ [(p, e)] } → Fr A D H { D with journal := D.journal ++ [(p, e)] } H' → Q .non H'
theorem cx9 (P : Program) (w : World) (base : Heap) (T : Txt K mg A) : Met P w K mg base 3 A.J "enter" ["self", "day", "account", "kind", "amount", "number"] (spx9 A) := by
 have Mx5 := cx6 P w base T
 obtain ⟨f, fd, F, hm, hf, b⟩ := T.fx9
 refine ⟨f, fd, ⟨hm, hf, F.kp⟩, F.ok (k := 2) scx9 (fun vs H Q E h => ?_) (fun cdv A' outer s H vs Q E hr h => ?_), b⟩
 ·obtain ⟨_, _, rfl, _⟩ := h
  rfl
 ·obtain ⟨D, e, rfl, h⟩ := h
  refine ⟨_, (pss_one (ps_expr (pe_bm PySem.F.plainAttrs_list PySem.F.slot_list_append PySem.F.type_list_append mt_append (pfl (pv 0)) (pa_cons (pmk Mx5 hr rfl (pa_cons (pv 1) (pa_cons (pv 2) (pa_cons (pv 3) (pa_cons (pv 4) (pa_cons (pv 5) pa_nil)))))) pa_nil)))), ?_⟩
  obtain ⟨hW, hz, q⟩ := h
  obtain ⟨dj, hj⟩ := hW.jo
  walk_at "p"
  refine T.rJournal hj ?_
  refine rd_bmL hW.elo ?_
  walk_at "p"
  intro x dx nx nd ne
  refine ⟨x, dx, e, rfl, upd_same, fun H2 a2 k2 => ⟨rfl, ?_⟩⟩
  have s2 : Same H H2 := made_same nx nd k2
  walk_at "p"
  refine do_append (s2 _ _ hW.elo) (by rw [List.length_map]; exact Nat.lt_trans hz (by decide)) (fun H3 h3 k3 => ?_)
  have hx : x ≠ D.el := fun z => by have := hW.elo; rw [← z, nx] at this; cases this
  obtain ⟨w1, f1⟩ := hW.entry (H' := H3) e nx h3 (a2.keep fun u hu => by rw [k3 _ hx]; exact hu) fun b u hb hn => by rw [k3 b hn]; exact s2 b u hb
  exact q x H3 w1 f1
noncomputable def balL (l : List Vbpoac.Entry) (a : Int) : Int := Vbpoac.isum ((l.filter fun e => decide ((e.account : Int) = a)).map Vbpoac.signed)
theorem isum_snoc : ∀ (l : List Int) (z : Int), Vbpoac.isum (l ++ [z]) = Vbpoac.isum l + z
 | [], z => by simp [Vbpoac.isum]
 | a :: l, z => by
  have ih := isum_snoc l z
  show a + Vbpoac.isum (l ++ [z]) = a + Vbpoac.isum l + z
  rw [ih]; omega
theorem balL_in {l : List Vbpoac.Entry} {e : Vbpoac.Entry} {a : Int} (h : (e.account : Int) = a) : balL (l ++ [e]) a = balL l a + Vbpoac.signed e := by
 unfold balL
 rw [List.filter_append, List.map_append]
 simp [h, isum_snoc]
noncomputable def accP (a : Int) (y : Addr × Vbpoac.Entry) : Bool := decide ((y.2.account : Int) = a)
noncomputable def spxa (A : Adr) : Sp := fun vs H Q _ => ∃ (D : DS) (a : Int), vs = [.ref D.j, .int a] ∧ WAt A H D ∧ D.journal.length < 10000 ∧ ∀ q H1, H q = none → H1 q = some (.lst ((D.journal.filter (accP a)).map fun y => V.ref y.1)) → Same H H1 → Q (.ref q) H1
theorem cxa (P : Program) (w : World) (base : Heap) (T : Txt K mg A) : Met P w K mg base 1 A.J "entries_of" ["self", "account"] (spxa A) := by
 obtain ⟨f, fd, F, hm, hf, b⟩ := T.fxa
 refine ⟨f, fd, ⟨hm, hf, F.kp⟩, F.ok (k := 0) scxa (fun vs H Q E h => ?_) (fun cdv A' outer s H vs Q E hr h => ?_), b⟩
 ·obtain ⟨_, _, rfl, _⟩ := h
  rfl
 ·obtain ⟨D, a, rfl, h⟩ := h
  refine ⟨_, (pss_one (ps_ret (plc (x := "entry") (n := 2) rfl scxa.nd (pi_list (pfl (pv 0))) (blkOk_by (by rfl)) (fun _ _ _ _ _ => by exact (pgn 2 scxa.nd)) (fun _ _ _ _ _ => by exact pts_one (pt_cmpR op_eq (pflK K rfl (pv 2)) (pv 1) (nomark _))) (fun _ _ _ _ _ => by exact (pv 2))))), ?_⟩
  obtain ⟨hW, hz, q⟩ := h
  obtain ⟨dj, hj⟩ := hW.jo
  walk_at "p"
  refine T.rJournal hj ?_
  refine rd_lc (ys := D.journal) (fun y => V.ref y.1) (SqL.of hW.elo) (Nat.lt_trans hz (by decide)) (accP a) (fun y => V.ref y.1) (fun y hy H1 s1 R hR => ?_) (fun y hy _ H1 s1 R hR => ?_) (fun l H1 hl h1 s1 k1 => q l H1 hl h1 s1)
  ·obtain ⟨i, hi⟩ := List.getElem?_of_mem hy
   obtain ⟨dy, hey⟩ := (hW.same s1).eo hi
   walk_at "p"
   refine T.rEntry hey ?_
   walk_at "p"
   exact hR
  ·walk_at "p"
   exact hR
theorem balL_filter (l : List (Addr × Vbpoac.Entry)) (a : Int) : balL (l.map (·.2)) a = Vbpoac.isum (((l.filter (accP a)).map (·.2)).map Vbpoac.signed) := by
 unfold balL
 rw [List.filter_map]; rfl
noncomputable def spxb (A : Adr) : Sp := fun vs H Q _ => ∃ (D : DS) (a : Int), vs = [.ref D.j, .int a] ∧ WAt A H D ∧ D.journal.length < 10000 ∧ ∀ H', Same H H' → Q (.int (balL (D.journal.map (·.2)) a)) H'
theorem jref {l : List (Addr × Vbpoac.Entry)} {i : Nat} {x : V} (h : (l.map fun y => V.ref y.1)[i]? = some x) : ∃ y, l[i]? = some y ∧ x = .ref y.1 := by
 rw [List.getElem?_map] at h
 cases e : l[i]? with
 | none => rw [e] at h; cases h
 | some y => rw [e] at h; exact ⟨y, rfl, (Option.some.inj h).symm⟩
theorem cxb (P : Program) (w : World) (base : Heap) (T : Txt K mg A) : Met P w K mg base 2 A.J "balance" ["self", "account"] (spxb A) := by
 have Mxa := cxa P w base T
 obtain ⟨f, fd, F, hm, hf, b⟩ := T.fxb
 refine ⟨f, fd, ⟨hm, hf, F.kp⟩, F.ok (k := 1) scxb (fun vs H Q E h => ?_) (fun cdv A' outer s H vs Q E hr h => ?_), b⟩
 ·obtain ⟨_, _, rfl, _⟩ := h
  rfl
 ·obtain ⟨D, a, rfl, h⟩ := h
  refine ⟨_, (pss_cons (pst 2 scxb.nd pe_int)
   (pss_cons (ps_for PassesOwn.never rfl (pi_list (pmt (pv 0) T.clx7 Mxa hr (pa_cons (pv 1) pa_nil))) (pgn 3 scxb.nd)
    (pss_one (pag 2 scxb.nd (pe_ifExp (pt_cmpR op_eq (pfl (pv 3)) (pgi T.gx2) (nomark _)) (pe_un un_neg (pfl (pv 3))) (pfl (pv 3))) ip_add)))
   (pss_one (ps_ret (pv 2))))), ?_⟩
  obtain ⟨hW, hz, q⟩ := h
  obtain ⟨dj, hj⟩ := hW.jo
  walk_at "p"
  refine rd_met hj rfl ?_
  walk_at "p"
  refine ⟨D, a, rfl, hW, hz, fun l H1 nl e1 s1 => ?_⟩
  have hW1 := hW.same s1
  refine rd_for (SqL.of e1) (fun i σ H' => H' = H1 ∧ ∃ v, σ = [some (.ref D.j), some (.int a), some (.int (Vbpoac.isum ((((D.journal.filter (accP a)).take i).map (·.2)).map Vbpoac.signed))), v]) ⟨rfl, none, rfl⟩ (fun i σ H' _ ⟨e, _⟩ => by rw [e]; exact SqL.of e1) ?_ ?_
  ·rintro i x σ H' hi ⟨rfl, v, rfl⟩
   obtain ⟨y, hy, rfl⟩ := jref hi
   obtain ⟨k, hk⟩ := List.getElem?_of_mem (List.mem_filter.mp (List.mem_of_getElem? hy)).1
   obtain ⟨dy, hey⟩ := hW1.eo hk
   have et : (((D.journal.filter (accP a)).take (i + 1)).map (·.2)).map Vbpoac.signed = (((D.journal.filter (accP a)).take i).map (·.2)).map Vbpoac.signed ++ [Vbpoac.signed y.2] := by rw [take_snoc hy, List.map_append, List.map_append]; rfl
   show tAug _ _ _ _ _ _
   walk_at "p"
   refine T.rEntry hey ?_
   walk_at "p"
   refine ite_d (fun n3 => ?_) (fun n3 => ?_)
   ·walk_at "p"
    refine T.rEntry hey ?_
    walk_at "p"
    refine ⟨rfl, some (.ref y.1), ?_⟩
    rw [et, isum_snoc]
    have : Vbpoac.signed y.2 = -(y.2.amount : Int) := by unfold Vbpoac.signed; rw [if_pos (by omega)]
    rw [this]; rfl
   ·walk_at "p"
    refine T.rEntry hey ?_
    walk_at "p"
    refine ⟨rfl, some (.ref y.1), ?_⟩
    rw [et, isum_snoc]
    have : Vbpoac.signed y.2 = (y.2.amount : Int) := by unfold Vbpoac.signed; rw [if_neg (by omega)]
    rw [this]; rfl
  ·rintro σ H' ⟨rfl, v, rfl⟩
   walk_at "p"
   rw [List.length_map, List.take_length, ← balL_filter]
   exact q _ s1
end
structure Good (n : Nat) (S : Vbpoac.State) : Prop where
 bal : ∀ a : Nat, 0 ≤ Vbpoac.balance S a
 jl : S.journal.length ≤ n
 met : S.meters.length ≤ 10
 acc : S.accounts ≤ 10
 vou : S.vouchers.length ≤ 50
 day : S.day ≤ 100000
 asks : S.asks.length ≤ 16
 grants : S.grants.length ≤ 16
 pcs : ∀ m ∈ S.meters, m.first.piece ≤ n ∧ m.second.piece ≤ n
 nums : (S.vouchers.map (·.number)).Nodup
 seen : S.seen.length ≤ n
 spoiled : S.spoiled.length ≤ n
noncomputable def Goes (A : Adr) (H : Hp) (Q : VK) (c : Nat) (D : DS) (k : Vbpoac.Call) : Prop := WAt A H D ∧ Good c D.st ∧ c ≤ 1000 ∧ ∀ D' H' p, Ans A D H D' H' p (Vbpoac.step D.st k) → Q (.ref p) H'
noncomputable def spC0 (A : Adr) (call : Vbpoac.Call) : Sp := fun vs H Q _ => ∃ c D, vs = [.ref D.w] ∧ Goes A H Q c D call
noncomputable def spC1 (A : Adr) (call : Int → Vbpoac.Call) : Sp := fun vs H Q _ => ∃ c D a, vs = [.ref D.w, .int a] ∧ Goes A H Q c D (call a)
noncomputable def spC2 (A : Adr) (call : Int → Int → Vbpoac.Call) : Sp := fun vs H Q _ => ∃ c D a b, vs = [.ref D.w, .int a, .int b] ∧ Goes A H Q c D (call a b)
noncomputable def spC3 (A : Adr) (call : Int → Int → Int → Vbpoac.Call) : Sp := fun vs H Q _ => ∃ c D a b d, vs = [.ref D.w, .int a, .int b, .int d] ∧ Goes A H Q c D (call a b d)
theorem inside_iff {n lo hi : Int} : Vbpoac.inside n lo hi = false ↔ ¬ (lo ≤ n ∧ n ≤ hi) := by
 unfold Vbpoac.inside
 rw [Bool.and_eq_false_iff, decide_eq_false_iff_not, decide_eq_false_iff_not]
 omega
theorem inside_no {n lo hi : Int} (h : ¬ (lo ≤ n ∧ n ≤ hi)) : Vbpoac.inside n lo hi = false := inside_iff.mpr h
theorem inside_yes {n lo hi : Int} (h : lo ≤ n ∧ n ≤ hi) : ¬ Vbpoac.inside n lo hi = false := fun z => inside_iff.mp z h
theorem accRef_cases (D : DS) (a : Int) : (accRef D a = -1 ∧ ∀ f, Vbpoac.onAccount D.st a f = Vbpoac.no D.st 1) ∨ (accRef D a = -4 ∧ ∀ f, Vbpoac.onAccount D.st a f = Vbpoac.no D.st 4) ∨
  (accRef D a = 0 ∧ (1 ≤ a ∧ a ≤ 10) ∧ ∀ f, Vbpoac.onAccount D.st a f = f a.toNat) := by
 unfold accRef Vbpoac.onAccount
 by_cases h : 1 ≤ a ∧ a ≤ 10
 ·rw [if_neg (fun z => z h)]
  by_cases h2 : (D.accounts : Int) < a
  ·refine .inr (.inl ⟨if_pos h2, fun f => ?_⟩)
   rw [if_neg (inside_yes h), if_pos (show D.st.accounts < a.toNat by show D.accounts < a.toNat; omega)]
  ·refine .inr (.inr ⟨if_neg h2, h, fun f => ?_⟩)
   rw [if_neg (inside_yes h), if_neg (show ¬ D.st.accounts < a.toNat by show ¬ D.accounts < a.toNat; omega)]
 ·exact .inl ⟨if_pos h, fun f => if_pos (inside_no h)⟩
section
variable (S : Vbpoac.State)
theorem step_day (n : Int) : Vbpoac.step S (.day n) = if Vbpoac.inside n 0 1000 = false then Vbpoac.no S 1 else if Vbpoac.LASTDAY < S.day + n.toNat then Vbpoac.no S 8 else Vbpoac.yes { S with day := S.day + n.toNat } (S.day + n.toNat) [] := rfl
theorem step_account : Vbpoac.step S .account = if Vbpoac.ACCOUNTS ≤ S.accounts then Vbpoac.no S 8 else Vbpoac.yes { S with accounts := S.accounts + 1 } (S.accounts + 1) [] := rfl
theorem step_deposit (a n : Int) : Vbpoac.step S (.deposit a n) = if Vbpoac.inside n 1 100000000 = false then Vbpoac.no S 1 else Vbpoac.onAccount S a fun k => if (Vbpoac.GREAT : Int) < Vbpoac.balance S k + n then Vbpoac.no S 8 else Vbpoac.yes (Vbpoac.wrote S k 1 n.toNat 0) (Vbpoac.balance (Vbpoac.wrote S k 1 n.toNat 0) k).toNat [] := rfl
theorem step_voucher (n v : Int) : Vbpoac.step S (.voucher n v) = if Vbpoac.inside n 0 999999999 = false ∨ Vbpoac.inside v 1 1000000 = false then Vbpoac.no S 1
   else if (S.vouchers.any fun x => (x.number : Int) == n) = true then Vbpoac.no S 5
   else if Vbpoac.VOUCHERS ≤ S.vouchers.length then Vbpoac.no S 8
   else Vbpoac.yes { S with vouchers := S.vouchers ++ [⟨n.toNat, v.toNat, false⟩] } (S.vouchers.length + 1) [Vbpoac.bytes (Vbpoac.voucherText n.toNat)] := rfl
theorem step_meter (a key : Int) : Vbpoac.step S (.meter a key) = if Vbpoac.inside key 1 1000000 = false then Vbpoac.no S 1 else Vbpoac.onAccount S a fun k => if Vbpoac.METERS ≤ S.meters.length then Vbpoac.no S 8
   else Vbpoac.yes { S with meters := S.meters ++ [⟨k, key.toNat, ⟨1, 0, 0, 0, 0⟩, Vbpoac.noBank, true, none, false⟩] } (S.meters.length + 1) [] := rfl
end
theorem bal_eq (D : DS) (n : Nat) : Vbpoac.balance D.st n = balL (D.journal.map (·.2)) (n : Int) := by
 unfold Vbpoac.balance balL
 have e : (fun (e : Vbpoac.Entry) => e.account == n) = fun e => decide ((e.account : Int) = (n : Int)) := by
  funext e
  by_cases h : e.account = n
  ·simp [h]
  ·have h' : ¬ (e.account : Int) = (n : Int) := by omega
   simp [h, h']
 show Vbpoac.isum (((D.journal.map (·.2)).filter _).map Vbpoac.signed) = _
 rw [e]
theorem bal_eq' (D : DS) {a : Int} (h : 1 ≤ a ∧ a ≤ 10) : Vbpoac.balance D.st a.toNat = balL (D.journal.map (·.2)) a := by
 rw [bal_eq]
 congr 1
 omega
section
open Vbpoac (State Meter Bank Entry)
section
variable {n m : Nat} {S : State}
theorem good_start : Good 0 Vbpoac.start := ⟨fun a => Int.le_refl 0, Nat.le_refl 0, Nat.zero_le _, Nat.zero_le _, Nat.zero_le _, Nat.zero_le _, Nat.zero_le _, Nat.zero_le _, fun m hm => (by cases hm), List.nodup_nil, Nat.le_refl 0, Nat.le_refl 0⟩
theorem Good.mono (h : Good n S) (k : n ≤ m) : Good m S :=
 ⟨h.bal, Nat.le_trans h.jl k, h.met, h.acc, h.vou, h.day, h.asks, h.grants, fun x hx => ⟨Nat.le_trans (h.pcs x hx).1 k, Nat.le_trans (h.pcs x hx).2 k⟩, h.nums, Nat.le_trans h.seen k, Nat.le_trans h.spoiled k⟩
theorem isum_app : ∀ a b : List Int, Vbpoac.isum (a ++ b) = Vbpoac.isum a + Vbpoac.isum b
 | [], b => by show Vbpoac.isum b = 0 + Vbpoac.isum b; omega
 | x :: a, b => by
  show x + Vbpoac.isum (a ++ b) = x + Vbpoac.isum a + _
  rw [isum_app a b]; omega
theorem bal_wrote (S : State) (a k amt w b : Nat) : Vbpoac.balance (Vbpoac.wrote S a k amt w) b = Vbpoac.balance S b + (if a = b then Vbpoac.signed ⟨S.day, a, k, amt, w⟩ else 0) := by
 unfold Vbpoac.balance Vbpoac.wrote
 simp only [List.filter_append, List.map_append]
 rw [isum_app]
 congr 1
 by_cases h : a = b
 ·simp [h, Vbpoac.isum]
 ·simp [h, Vbpoac.isum]
theorem good_wrote {a k amt w : Nat} (h : Good n S) (hk : k = 3 → (amt : Int) ≤ Vbpoac.balance S a) : Good (n + 1) (Vbpoac.wrote S a k amt w) := by
 have h' := h.mono (Nat.le_succ n)
 refine ⟨fun b => ?_, ?_, h'.met, h'.acc, h'.vou, h'.day, h'.asks, h'.grants, h'.pcs, h'.nums, h'.seen, h'.spoiled⟩
 ·rw [bal_wrote]
  have := h.bal b
  by_cases e : a = b
  ·subst e
   rw [if_pos rfl]
   unfold Vbpoac.signed
   by_cases k3 : k = 3
   ·have := hk k3
    simp only [k3, if_true]; omega
   ·simp only [k3, if_false]; omega
  ·rw [if_neg e]; omega
 ·show (S.journal ++ [_]).length ≤ _
  rw [List.length_append]
  have := h.jl
  simp only [List.length_cons, List.length_nil]; omega
theorem good_set {i : Nat} {x : Meter} (h : Good n S) (hx : x.first.piece ≤ n ∧ x.second.piece ≤ n) : Good n (Vbpoac.setMeter S i x) := by
 refine ⟨h.bal, h.jl, ?_, h.acc, h.vou, h.day, h.asks, h.grants, fun y hy => ?_, h.nums, h.seen, h.spoiled⟩
 ·show (S.meters.set _ _).length ≤ _
  rw [List.length_set]; exact h.met
 ·rcases List.mem_or_eq_of_mem_set (show y ∈ S.meters.set _ _ from hy) with z | z
  ·exact h.pcs y z
  ·rw [z]; exact hx
theorem cur_piece {x : Meter} (h : x.first.piece ≤ n ∧ x.second.piece ≤ n) : (Vbpoac.current x).piece ≤ n := by
 unfold Vbpoac.current
 by_cases z : x.first.gen < x.second.gen
 ·rw [if_pos z]; exact h.2
 ·rw [if_neg z]; exact h.1
theorem store_piece {x : Meter} {b : Bank} {k : Nat} (h : x.first.piece ≤ n ∧ x.second.piece ≤ n) (hb : b.piece ≤ n) : (Vbpoac.store x b k).first.piece ≤ n ∧ (Vbpoac.store x b k).second.piece ≤ n := by
 have w : ∀ old : Bank, old.piece ≤ n → ∀ g, (Vbpoac.written old ⟨g, b.rising, b.falling, b.piece, b.refills⟩ k).piece ≤ n := fun old ho g => by
  show (if k < 4 then old.piece else b.piece) ≤ n
  by_cases z : k < 4
  ·rw [if_pos z]; exact ho
  ·rw [if_neg z]; exact hb
 unfold Vbpoac.store
 by_cases z : x.first.gen < x.second.gen
 ·simp only [z, if_true]; exact ⟨w _ h.1 _, h.2⟩
 ·simp only [z, if_false]; exact ⟨h.1, w _ h.2 _⟩
theorem good_no (h : Good n S) (k : Nat) : Good (n + 1) (Vbpoac.no S k).1 := h.mono (Nat.le_succ n)
theorem good_acc {a : Int} {f : Nat → State × Vbpoac.Ans} (h : Good n S) (hf : ∀ k, Good (n + 1) (f k).1) : Good (n + 1) (Vbpoac.onAccount S a f).1 := by
 unfold Vbpoac.onAccount
 split
 ·exact good_no h 1
 ·split
  ·exact good_no h 4
  ·exact hf _
theorem meterAt_mem {k : Nat} {x : Meter} (e : Vbpoac.meterAt S k = some x) : x ∈ S.meters := by
 unfold Vbpoac.meterAt at e
 split at e
 ·cases e
 ·exact List.mem_of_getElem? e
theorem good_met {a : Int} {f : Nat → Meter → State × Vbpoac.Ans} (h : Good n S) (hf : ∀ k x, x ∈ S.meters → Good (n + 1) (f k x).1) : Good (n + 1) (Vbpoac.onMeter S a f).1 := by
 unfold Vbpoac.onMeter
 split
 ·exact good_no h 1
 ·split
  ·exact good_no h 4
  ·rename_i x e
   split
   ·exact good_no h 4
   ·exact hf _ _ (meterAt_mem e)
theorem good_grants {g : List Vbpoac.Grant} (h : Good n S) (hg : g.length ≤ 16) : Good n { S with grants := g } := ⟨h.bal, h.jl, h.met, h.acc, h.vou, h.day, h.asks, hg, h.pcs, h.nums, h.seen, h.spoiled⟩
theorem good_asks {g : List Vbpoac.Ask} (h : Good n S) (hg : g.length ≤ 16) : Good n { S with asks := g } := ⟨h.bal, h.jl, h.met, h.acc, h.vou, h.day, hg, h.grants, h.pcs, h.nums, h.seen, h.spoiled⟩
theorem good_send {g : Vbpoac.Grant} (h : Good n S) : Good n (Vbpoac.sendGrant S g) := by
 unfold Vbpoac.sendGrant
 split
 ·exact h
 ·refine good_grants h ?_
  rename_i z
  unfold Vbpoac.LINE at z
  rw [List.length_append]; simp only [List.length_cons, List.length_nil]; omega
theorem good_asked {a : Vbpoac.Ask} (h : Good n S) : Good (n + 1) (Vbpoac.asked S a) := by
 unfold Vbpoac.asked
 split
 ·exact h.mono (Nat.le_succ n)
 ·simp only []
  split
  ·exact h.mono (Nat.le_succ n)
  ·split
   ·split
    ·exact h.mono (Nat.le_succ n)
    ·rename_i z
     exact good_send (good_wrote h fun _ => by omega)
   ·split
    ·exact good_send (h.mono (Nat.le_succ n))
    ·exact h.mono (Nat.le_succ n)
theorem good_refilled {g : Vbpoac.Grant} {k : Nat} (h : Good n S) : Good n (Vbpoac.refilled S g k) := by
 unfold Vbpoac.refilled
 split
 ·exact h
 ·rename_i x e
  simp only []
  split
  ·exact h
  ·have hp := h.pcs x (meterAt_mem e)
   exact good_set h (store_piece (b := { Vbpoac.current x with falling := (Vbpoac.current x).falling + g.amount, refills := (Vbpoac.current x).refills + 1 }) hp (cur_piece hp))
theorem erase_le {α : Type} (l : List α) (i : Nat) : (l.eraseIdx i).length ≤ l.length := L2.len_erase l i
theorem good_step (h : Good n S) (c : Vbpoac.Call) : Good (n + 1) (Vbpoac.step S c).1 := by
 have h1 := h.mono (Nat.le_succ n)
 cases c with
 | begin => exact good_start.mono (Nat.zero_le _)
 | day k =>
  rw [step_day]
  split
  ·exact good_no h 1
  ·split
   ·exact good_no h 8
   ·rename_i z
    unfold Vbpoac.LASTDAY at z
    exact ⟨h1.bal, h1.jl, h1.met, h1.acc, h1.vou, by show S.day + k.toNat ≤ _; omega, h1.asks, h1.grants, h1.pcs, h1.nums, h1.seen, h1.spoiled⟩
 | account =>
  rw [step_account]
  split
  ·exact good_no h 8
  ·rename_i z
   unfold Vbpoac.ACCOUNTS at z
   exact ⟨h1.bal, h1.jl, h1.met, by show S.accounts + 1 ≤ _; omega, h1.vou, h1.day, h1.asks, h1.grants, h1.pcs, h1.nums, h1.seen, h1.spoiled⟩
 | deposit a k =>
  rw [step_deposit]
  split
  ·exact good_no h 1
  ·refine good_acc h fun j => ?_
   split
   ·exact good_no h 8
   ·exact good_wrote h fun z => by cases z
 | voucher k v =>
  rw [step_voucher]
  split
  ·exact good_no h 1
  ·split
   ·exact good_no h 5
   ·split
    ·exact good_no h 8
    ·rename_i z1 z2 z3
     unfold Vbpoac.VOUCHERS at z3
     refine ⟨h1.bal, h1.jl, h1.met, h1.acc, ?_, h1.day, h1.asks, h1.grants, h1.pcs, ?_, h1.seen, h1.spoiled⟩
     ·show (S.vouchers ++ [_]).length ≤ _
      rw [List.length_append]; simp only [List.length_cons, List.length_nil]; omega
     ·show ((S.vouchers ++ [_]).map fun (x : Vbpoac.Voucher) => x.number).Nodup
      rw [List.map_append]
      refine L2.nd_snoc h.nums fun hm => z2 ?_
      obtain ⟨y, hy, e⟩ := List.mem_map.mp hm
      have hk : ¬ Vbpoac.inside k 0 999999999 = false := fun q => z1 (.inl q)
      have hk2 : 0 ≤ k := by
       by_cases q : 0 ≤ k ∧ k ≤ 999999999
       ·exact q.1
       ·exact absurd (inside_no q) hk
      refine List.any_eq_true.mpr ⟨y, hy, ?_⟩
      have e' : y.number = k.toNat := e
      rw [e', Int.toNat_of_nonneg hk2, beq_self_eq_true]
 | redeem a b =>
  show Good _ (Vbpoac.doRedeem S a b).1
  unfold Vbpoac.doRedeem
  refine good_acc h fun j => ?_
  split
  ·exact good_no h 2
  ·split
   ·exact good_no h 4
   ·split
    ·exact good_no h 5
    ·split
     ·exact good_no h 8
     ·rename_i v _ _ _ _ _ _
      refine good_wrote (S := { S with vouchers := S.vouchers.map fun y => if y.number = v then { y with used := true } else y }) ⟨h.bal, h.jl, h.met, h.acc, by show (S.vouchers.map _).length ≤ _; rw [List.length_map]; exact h.vou, h.day, h.asks, h.grants, h.pcs, ?_, h.seen, h.spoiled⟩ fun z => by cases z
      show ((S.vouchers.map _).map _).Nodup
      rw [List.map_map]
      have e : ((fun (x : Vbpoac.Voucher) => x.number) ∘ fun (y : Vbpoac.Voucher) => if y.number = v then { y with used := true } else y) = fun x => x.number := by
       funext y
       show (if y.number = v then ({ y with used := true } : Vbpoac.Voucher) else y).number = y.number
       split <;> rfl
      rw [e]; exact h.nums
 | meter a key =>
  rw [step_meter]
  split
  ·exact good_no h 1
  ·refine good_acc h fun j => ?_
   split
   ·exact good_no h 8
   ·rename_i z
    unfold Vbpoac.METERS at z
    refine ⟨h1.bal, h1.jl, ?_, h1.acc, h1.vou, h1.day, h1.asks, h1.grants, fun x hx => ?_, h1.nums, h1.seen, h1.spoiled⟩
    ·show (S.meters ++ [_]).length ≤ _
     rw [List.length_append]; simp only [List.length_cons, List.length_nil]; omega
    ·rcases List.mem_append.mp (show x ∈ S.meters ++ [_] from hx) with y | y
     ·exact h1.pcs x y
     ·rw [List.mem_singleton.mp y]; exact ⟨Nat.zero_le _, Nat.zero_le _⟩
 | stopped m =>
  refine good_met h fun k x hx => ?_
  split
  ·exact good_no h 5
  ·exact good_set h1 (h1.pcs x hx)
 | withdraw m =>
  show Good _ (Vbpoac.doWithdraw S m).1
  unfold Vbpoac.doWithdraw
  refine good_met h fun k x hx => ?_
  split
  ·exact good_no h 6
  ·simp only []
   split
   ·exact good_no h 8
   ·exact good_wrote (good_set h (h.pcs x hx)) fun z => by cases z
 | imprint m v k =>
  show Good _ (Vbpoac.doImprint S m v k).1
  unfold Vbpoac.doImprint
  split
  ·exact good_no h 1
  ·refine good_met h fun j x hx => ?_
   have hp := h.pcs x hx
   simp only []
   split
   ·exact good_no h 3
   ·split
    ·exact good_no h 7
    ·have hs := store_piece (x := x) (n := n + 1) (b := { Vbpoac.current x with rising := (Vbpoac.current x).rising + v.toNat, falling := (Vbpoac.current x).falling - v.toNat, piece := (Vbpoac.current x).piece + 1 }) (k := min 6 k.toNat) (h1.pcs x hx) (Nat.succ_le_succ (cur_piece hp))
     split
     ·exact good_set h1 hs
     ·exact good_set h1 hs
 | boot m =>
  refine good_met h fun k x hx => ?_
  split
  ·exact good_no h 5
  ·exact good_set h1 (h1.pcs x hx)
 | ask m k =>
  show Good _ (if Vbpoac.inside k 1 90000 = false then _ else _ : State × Vbpoac.Ans).1
  split
  ·exact good_no h 1
  ·refine good_met h fun j x hx => ?_
   split
   ·exact good_no h 3
   ·split
    ·exact good_no h 8
    ·rename_i z
     show Good _ (Vbpoac.sendAsk S _)
     unfold Vbpoac.sendAsk
     rw [if_neg z]
     unfold Vbpoac.LINE at z
     refine good_asks h1 ?_
     rw [List.length_append]; simp only [List.length_cons, List.length_nil]; omega
 | toHouse i =>
  show Good _ (if Vbpoac.inside i 1 16 = false then _ else _ : State × Vbpoac.Ans).1
  split
  ·exact good_no h 1
  ·split
   ·exact good_no h 4
   ·exact good_asked (good_asks h (Nat.le_trans (erase_le _ _) h.asks))
 | toMeter i k =>
  show Good _ (if Vbpoac.inside i 1 16 = false ∨ Vbpoac.inside k 0 6 = false then _ else _ : State × Vbpoac.Ans).1
  split
  ·exact good_no h 1
  ·split
   ·exact good_no h 4
   ·exact good_refilled (good_grants h1 (Nat.le_trans (erase_le _ _) h.grants))
 | lose d i =>
  show Good _ (if Vbpoac.inside d 0 1 = false ∨ Vbpoac.inside i 1 16 = false then _ else _ : State × Vbpoac.Ans).1
  split
  ·exact good_no h 1
  ·split
   ·split
    ·exact good_no h 4
    ·exact good_asks h1 (Nat.le_trans (erase_le _ _) h.asks)
   ·split
    ·exact good_no h 4
    ·exact good_grants h1 (Nat.le_trans (erase_le _ _) h.grants)
 | double d i =>
  show Good _ (if Vbpoac.inside d 0 1 = false ∨ Vbpoac.inside i 1 16 = false then _ else _ : State × Vbpoac.Ans).1
  split
  ·exact good_no h 1
  ·split
   ·split
    ·exact good_no h 4
    ·split
     ·exact good_no h 8
     ·rename_i z
      unfold Vbpoac.LINE at z
      refine good_asks h1 ?_
      rw [List.length_append, List.length_take]; omega
   ·split
    ·exact good_no h 4
    ·split
     ·exact good_no h 8
     ·rename_i z
      unfold Vbpoac.LINE at z
      refine good_grants h1 ?_
      rw [List.length_append, List.length_take]; omega
 | garble d i k =>
  show Good _ (if Vbpoac.inside d 0 1 = false ∨ Vbpoac.inside i 1 16 = false ∨ Vbpoac.inside k 1 99990 = false then _ else _ : State × Vbpoac.Ans).1
  split
  ·exact good_no h 1
  ·split
   ·split
    ·exact good_no h 4
    ·exact good_asks h1 (by rw [List.length_map, List.length_zipIdx]; exact h.asks)
   ·split
    ·exact good_no h 4
    ·exact good_grants h1 (by rw [List.length_map, List.length_zipIdx]; exact h.grants)
 | scan b =>
  show Good _ (if Vbpoac.inText b = false then _ else _ : State × Vbpoac.Ans).1
  split
  ·exact good_no h 1
  ·split
   ·refine ⟨h1.bal, h1.jl, h1.met, h1.acc, h1.vou, h1.day, h1.asks, h1.grants, h1.pcs, h1.nums, ?_, h1.spoiled⟩
    show (S.seen ++ [_]).length ≤ _
    rw [List.length_append]
    have := h.seen
    simp only [List.length_cons, List.length_nil]; omega
   ·exact h1
 | spoil a b =>
  show Good _ (if Vbpoac.inText b = false then _ else _ : State × Vbpoac.Ans).1
  split
  ·exact good_no h 1
  ·unfold Vbpoac.doSpoil
   refine good_acc h fun j => ?_
   split
   ·exact good_no h 2
   ·split
    ·exact good_no h 6
    ·split
     ·exact good_no h 7
     ·split
      ·exact good_no h 8
      ·rename_i i _ _ _ _
       have hg := good_wrote (S := S) (n := n) (a := j) (k := 5) (amt := Vbpoac.backFor i.value) (w := i.meter) h fun z => by cases z
       refine ⟨hg.bal, hg.jl, hg.met, hg.acc, hg.vou, hg.day, hg.asks, hg.grants, hg.pcs, hg.nums, hg.seen, ?_⟩
       show (S.spoiled ++ [_]).length ≤ _
       rw [List.length_append]
       have := h.spoiled
       simp only [List.length_cons, List.length_nil]; omega
 | judge b =>
  show Good _ (if Vbpoac.inText b = false then _ else _ : State × Vbpoac.Ans).1
  split
  ·exact good_no h 1
  ·exact h1
 | registers m => exact good_met h fun k x hx => h1
 | banks m => exact good_met h fun k x hx => h1
 | told m => exact good_met h fun k x hx => h1
 | balance a => exact good_acc h fun k => h1
 | statement a f =>
  show Good _ (if Vbpoac.inside f 1 1000 = false then _ else _ : State × Vbpoac.Ans).1
  split
  ·exact good_no h 1
  ·exact good_acc h fun k => h1
 | lines => exact h1
 | counts => exact h1
 | text m p v d =>
  show Good _ (if Vbpoac.inside p 1 999999999 = false ∨ Vbpoac.inside v 0 99999999999 = false ∨ Vbpoac.inside d 0 100000 = false then _ else _ : State × Vbpoac.Ans).1
  split
  ·exact good_no h 1
  ·exact good_met h fun k x hx => h1
 | check b =>
  show Good _ (if Vbpoac.inText b = false then _ else _ : State × Vbpoac.Ans).1
  split
  ·exact good_no h 1
  ·split <;> exact h1
end
end
section
variable {P : Program} {w : World} {K : PySem.W.Frag} {mg : Str → Option Value} {base : Heap} {A : Adr}
noncomputable def grL (l : List Vbpoac.Entry) (m : Int) : List Int := ((l.filter fun e => decide ((e.kind : Int) = 3)).filter fun e => decide ((e.what : Int) = m)).map fun e => (e.amount : Int)
noncomputable def spxc (A : Adr) : Sp := fun vs H Q _ => ∃ (D : DS) (m : Int), vs = [.ref D.j, .int m] ∧ WAt A H D ∧ D.journal.length < 10000 ∧ ∀ q H1, H q = none → H1 q = some (.lst ((grL (D.journal.map (·.2)) m).map V.int)) → Same H H1 → Q (.ref q) H1
theorem cxc (P : Program) (w : World) (base : Heap) (T : Txt K mg A) : Met P w K mg base 1 A.J "granted" ["self", "meter"] (spxc A) := by
 obtain ⟨f, fd, F, hm, hf, b⟩ := T.fxc
 refine ⟨f, fd, ⟨hm, hf, F.kp⟩, F.ok (k := 0) scxc (fun vs H Q E h => ?_) (fun cdv A' outer s H vs Q E hr h => ?_), b⟩
 ·obtain ⟨_, _, rfl, _⟩ := h
  rfl
 ·obtain ⟨D, m, rfl, h⟩ := h
  refine ⟨_, (pss_cons (pslc (i := 2) (x := "entry") (n := 3) rfl scxc.nd rfl rfl (sw_true rfl rfl rfl rfl) (pi_list (pfl (pv 0))) (blkOk_by (by rfl)) (fun _ _ _ _ _ => by exact (pgn 3 scxc.nd)) (fun _ _ _ _ _ => by exact pts_one (pt_cmpR op_eq (pflK K rfl (pv 3)) (pgi T.gx2) (nomark _))) (fun _ _ _ _ _ => by exact (pv 3)))
   (pss_one (ps_ret (plc (x := "entry") (n := 3) rfl scxc.nd (pi_list (pv 2)) (blkOk_by (by rfl)) (fun _ _ _ _ _ => by exact (pgn 3 scxc.nd)) (fun _ _ _ _ _ => by exact pts_one (pt_cmpR op_eq (pflK K rfl (pv 3)) (pv 1) (nomark _))) (fun _ _ _ _ _ => by exact (pflK K rfl (pv 3))))))), ?_⟩
  obtain ⟨hW, hz, q⟩ := h
  obtain ⟨dj, hj⟩ := hW.jo
  walk_at "p"
  refine T.rJournal hj ?_
  refine rd_lc (ys := D.journal) (fun y => V.ref y.1) (SqL.of hW.elo) (Nat.lt_trans hz (by decide)) (fun y => decide ((y.2.kind : Int) = 3)) (fun y => V.ref y.1) (fun y hy H1 s1 R hR => ?_) (fun y hy _ H1 s1 R hR => ?_) (fun l H1 hl h1 s1 k1 => ?_)
  ·obtain ⟨i, hi⟩ := List.getElem?_of_mem hy
   obtain ⟨dy, hey⟩ := (hW.same s1).eo hi
   walk_at "p"
   refine T.rEntry hey ?_
   walk_at "p"
   exact hR
  ·walk_at "p"
   exact hR
  ·walk_at "p"
   refine rd_lc (ys := D.journal.filter fun y => decide ((y.2.kind : Int) = 3)) (fun y => V.ref y.1) (SqL.of h1) (Nat.lt_of_le_of_lt (List.length_filter_le _ _) (Nat.lt_trans hz (by decide))) (fun y => decide ((y.2.what : Int) = m)) (fun y => V.int y.2.amount) (fun y hy H2 s2 R hR => ?_) (fun y hy _ H2 s2 R hR => ?_) (fun l2 H2 hl2 h2 s2 k2 => ?_)
   ·obtain ⟨i, hi⟩ := List.getElem?_of_mem (List.mem_filter.mp hy).1
    obtain ⟨dy, hey⟩ := ((hW.same s1).same s2).eo hi
    walk_at "p"
    refine T.rEntry hey ?_
    walk_at "p"
    exact hR
   ·obtain ⟨i, hi⟩ := List.getElem?_of_mem (List.mem_filter.mp hy).1
    obtain ⟨dy, hey⟩ := ((hW.same s1).same s2).eo hi
    walk_at "p"
    refine T.rEntry hey ?_
    exact hR
   ·refine q l2 H2 (s1.free hl2) ?_ (s1.trans s2)
    rw [h2]
    unfold grL
    rw [List.filter_map, List.filter_map, List.map_map, List.map_map]
    rfl
noncomputable def spx25 (A : Adr) : Sp := fun vs H Q _ => ∃ (D : DS) (a n : Int), vs = [.ref D.w, .int a, .int n] ∧ WAt A H D ∧ D.journal.length < 10000 ∧ ∀ H', Same H H' → Q (.bl (decide (1000000000 < balL (D.journal.map (·.2)) a + n))) H'
theorem cx25 (P : Program) (w : World) (base : Heap) (T : Txt K mg A) : Met P w K mg base 3 A.W "is_too_much" ["self", "account", "amount"] (spx25 A) := by
 have Mxb := cxb P w base T
 obtain ⟨f, fd, F, hm, hf, b⟩ := T.fx25
 refine ⟨f, fd, ⟨hm, hf, F.kp⟩, F.ok (k := 2) scx25 (fun vs H Q E h => ?_) (fun cdv A' outer s H vs Q E hr h => ?_), b⟩
 ·obtain ⟨_, _, _, rfl, _⟩ := h
  rfl
 ·obtain ⟨D, a, n, rfl, h⟩ := h
  refine ⟨_, (pss_one (ps_ret (pe_cmpR op_gt (pe_op op_add (pmt (pfl (pv 0)) T.clx7 Mxb hr (pa_cons (pv 1) pa_nil)) (pv 2)) (pgi T.gx1t) (nomark _)))), ?_⟩
  obtain ⟨hW, hz, q⟩ := h
  obtain ⟨dw, hw⟩ := hW.wo
  obtain ⟨dj, hj⟩ := hW.jo
  walk_at "p"
  refine T.rWorld hw ?_
  refine rd_met hj rfl ?_
  walk_at "p"
  refine ⟨D, a, rfl, hW, hz, fun H1 s1 => ?_⟩
  walk_at "p"
  exact q H1 s1
noncomputable def spx26 (A : Adr) : Sp := fun vs H Q _ => ∃ (D : DS) (a k m n : Nat), vs = [.ref D.w, .int a, .int k, .int m, .int n] ∧ WAt A H D ∧ D.journal.length < 10000 ∧
 ∀ p H', WAt A H' { D with journal := D.journal ++ [(p, ⟨D.day, a, k, m, n⟩)] } → Fr A D H { D with journal := D.journal ++ [(p, ⟨D.day, a, k, m, n⟩)] } H' → Q .non H'
theorem cx26 (P : Program) (w : World) (base : Heap) (T : Txt K mg A) : Met P w K mg base 4 A.W "enter_today" ["self", "account", "kind", "amount", "number"] (spx26 A) := by
 have Mx9 := cx9 P w base T
 obtain ⟨f, fd, F, hm, hf, b⟩ := T.fx26
 refine ⟨f, fd, ⟨hm, hf, F.kp⟩, F.ok (k := 3) scx26 (fun vs H Q E h => ?_) (fun cdv A' outer s H vs Q E hr h => ?_), b⟩
 ·obtain ⟨_, _, _, _, _, rfl, _⟩ := h
  rfl
 ·obtain ⟨D, a, k, m, n, rfl, h⟩ := h
  refine ⟨_, (pss_one (ps_expr (pmt (pfl (pv 0)) T.clx7 Mx9 hr (pa_cons (pfl (pv 0)) (pa_cons (pv 1) (pa_cons (pv 2) (pa_cons (pv 3) (pa_cons (pv 4) pa_nil)))))))), ?_⟩
  obtain ⟨hW, hz, q⟩ := h
  obtain ⟨dw, hw⟩ := hW.wo
  obtain ⟨dj, hj⟩ := hW.jo
  walk_at "p"
  refine T.rWorld hw ?_
  refine rd_met hj rfl ?_
  walk_at "p"
  refine T.rWorld hw ?_
  walk_at "p"
  exact ⟨D, ⟨D.day, a, k, m, n⟩, rfl, hW, hz, fun p H' w1 f1 => q p H' w1 f1⟩
noncomputable abbrev spx2d (A : Adr) : Sp := spC1 A .day
theorem cx2d (P : Program) (w : World) (base : Heap) (T : Txt K mg A) : Cal P w K mg base 1 "move_day" ["world", "days"] (spx2d A) := by
 obtain ⟨f, fd, F, hm, b⟩ := T.fx2d
 refine ⟨f, fd, F.ok (k := 0) scx2d (fun vs H Q E h => ?_) (fun cdv A' outer s H vs Q E hr h => ?_), hm, F.kp, b⟩
 ·obtain ⟨_, _, _, rfl, _⟩ := h
  rfl
 ·obtain ⟨c, D, n, rfl, h⟩ := h
  refine ⟨_, (pss_cons (ps_if (pt_not (pt_chain op_le op_le pe_int (pv 1) (pgi T.gx28))) (pss_one (ps_ret (pe_lst (pa_cons (pgi T.gxd) pa_nil)))) pss_nil)
   (pss_cons (ps_if (pt_cmpR op_gt (pe_op op_add (pfl (pv 0)) (pv 1)) (pgi T.gx27) (nomark _)) (pss_one (ps_ret (pe_lst (pa_cons (pgi T.gxk) pa_nil)))) pss_nil)
   (pss_cons (ps_fldaug (pv 0) (pv 1) in_add)
   (pss_one (ps_ret (pe_lst (pa_cons (pfl (pv 0)) pa_nil))))))), ?_⟩
  obtain ⟨hW, hG, hc, q⟩ := h
  obtain ⟨dw, hw⟩ := hW.wo
  walk_at "p"
  refine ite_out (fun no => ?_) (fun h1 h2 => ?_)
  ·walk_at "p"
   refine nl (fun p H1 hp e1 s1 k1 => q D H1 p ?_)
   have e : Vbpoac.step D.st (.day n) = Vbpoac.no D.st 1 := by rw [step_day]; exact if_pos (inside_no no)
   rw [e]; exact Ans.no hW hp e1 s1 k1
  ·walk_at "p"
   refine T.rWorld hw ?_
   walk_at "p"
   refine ite_d (fun n8 => ?_) (fun n8 => ?_)
   ·walk_at "p"
    refine nl (fun p H1 hp e1 s1 k1 => q D H1 p ?_)
    have e : Vbpoac.step D.st (.day n) = Vbpoac.no D.st 8 := by
     rw [step_day, if_neg (inside_yes ⟨h1, h2⟩), if_pos (show Vbpoac.LASTDAY < D.st.day + n.toNat by show Vbpoac.LASTDAY < D.day + n.toNat; unfold Vbpoac.LASTDAY; omega)]
    rw [e]; exact Ans.no hW hp e1 s1 k1
   ·walk_at "p"
    refine rd_faug hw T.clx1y (T.nx1y _ (by decide +kernel)) rfl ?_
    walk_at "p"
    refine wr_a hw (by show 9 < 1000; decide) (fun H1 e1 k1 => ?_)
    have ed : (D.day : Int) + n = ((D.day + n.toNat : Nat) : Int) := by omega
    rw [ed] at e1
    obtain ⟨w1, f1⟩ := hW.setDay (H' := H1) (D.day + n.toNat) D.accounts ⟨dw, e1⟩ fun b u hb hn => by rw [k1 b hn]; exact hb
    walk_at "p"
    refine T.rWorld e1 ?_
    walk_at "p"
    refine nl (fun p H2 hp e2 s2 k2 => q { D with day := D.day + n.toNat } H2 p ?_)
    have e : Vbpoac.step D.st (.day n) = Vbpoac.yes ({ D with day := D.day + n.toNat } : DS).st (D.day + n.toNat) [] := by
     rw [step_day, if_neg (inside_yes ⟨h1, h2⟩), if_neg (show ¬ Vbpoac.LASTDAY < D.st.day + n.toNat by show ¬ Vbpoac.LASTDAY < D.day + n.toNat; unfold Vbpoac.LASTDAY; omega)]
     rfl
    rw [e]; exact Ans.num w1 f1 rfl hp e2 s2
noncomputable abbrev spx2e (A : Adr) : Sp := spC0 A .account
theorem cx2e (P : Program) (w : World) (base : Heap) (T : Txt K mg A) : Cal P w K mg base 1 "new_account" ["world"] (spx2e A) := by
 obtain ⟨f, fd, F, hm, b⟩ := T.fx2e
 refine ⟨f, fd, F.ok (k := 0) scx2e (fun vs H Q E h => ?_) (fun cdv A' outer s H vs Q E hr h => ?_), hm, F.kp, b⟩
 ·obtain ⟨_, _, rfl, _⟩ := h
  rfl
 ·obtain ⟨c, D, rfl, h⟩ := h
  refine ⟨_, (pss_cons (ps_if (pt_cmpR op_eq (pfl (pv 0)) (pgi T.gx1r) (nomark _)) (pss_one (ps_ret (pe_lst (pa_cons (pgi T.gxk) pa_nil)))) pss_nil)
   (pss_cons (ps_fldaug (pv 0) pe_int in_add)
   (pss_one (ps_ret (pe_lst (pa_cons (pfl (pv 0)) pa_nil)))))), ?_⟩
  obtain ⟨hW, hG, hc, q⟩ := h
  obtain ⟨dw, hw⟩ := hW.wo
  have ha : D.accounts ≤ 10 := hG.acc
  walk_at "p"
  refine T.rWorld hw ?_
  walk_at "p"
  refine ite_d (fun n8 => ?_) (fun n8 => ?_)
  ·walk_at "p"
   refine nl (fun p H1 hp e1 s1 k1 => q D H1 p ?_)
   have e : Vbpoac.step D.st .account = Vbpoac.no D.st 8 := by rw [step_account]; exact if_pos (show Vbpoac.ACCOUNTS ≤ D.accounts by unfold Vbpoac.ACCOUNTS; omega)
   rw [e]; exact Ans.no hW hp e1 s1 k1
  ·walk_at "p"
   refine rd_faug hw T.clx1y (T.nx1y _ (by decide +kernel)) rfl ?_
   walk_at "p"
   refine wr_a hw (by show 9 < 1000; decide) (fun H1 e1 k1 => ?_)
   obtain ⟨w1, f1⟩ := hW.setDay (H' := H1) D.day (D.accounts + 1) ⟨dw, e1⟩ fun b u hb hn => by rw [k1 b hn]; exact hb
   walk_at "p"
   refine T.rWorld e1 ?_
   walk_at "p"
   refine nl (fun p H2 hp e2 s2 k2 => q { D with accounts := D.accounts + 1 } H2 p ?_)
   have hlt : D.accounts < 10 := by
    have h3 : ¬ (D.accounts : Int) = 10 := n8
    omega
   have e : Vbpoac.step D.st .account = Vbpoac.yes ({ D with accounts := D.accounts + 1 } : DS).st (D.accounts + 1) [] := by
    rw [step_account, if_neg (show ¬ Vbpoac.ACCOUNTS ≤ D.st.accounts by show ¬ Vbpoac.ACCOUNTS ≤ D.accounts; unfold Vbpoac.ACCOUNTS; omega)]
    rfl
   rw [e]; exact Ans.num w1 f1 rfl hp e2 s2
noncomputable abbrev spx2f (A : Adr) : Sp := spC2 A .deposit
theorem cx2f (P : Program) (w : World) (base : Heap) (T : Txt K mg A) : Cal P w K mg base 5 "deposit" ["world", "account", "amount"] (spx2f A) := by
 have Mxb := cxb P w base T
 have Mx23 := cx23 P w base T
 have Mx26 := cx26 P w base T
 have Mx25 := cx25 P w base T
 obtain ⟨f, fd, F, hm, b⟩ := T.fx2f
 refine ⟨f, fd, F.ok (k := 4) scx2f (fun vs H Q E h => ?_) (fun cdv A' outer s H vs Q E hr h => ?_), hm, F.kp, b⟩
 ·obtain ⟨_, _, _, _, rfl, _⟩ := h
  rfl
 ·obtain ⟨c, D, a, n, rfl, h⟩ := h
  refine ⟨_, (pss_cons (ps_if (pt_not (pt_chain op_le op_le pe_int (pv 2) (pgi T.gx29))) (pss_one (ps_ret (pe_lst (pa_cons (pgi T.gxd) pa_nil)))) pss_nil)
   (pss_cons (pst 3 scx2f.nd (pmt (pv 0) T.clx1y Mx23 hr (pa_cons (pv 1) pa_nil)))
   (pss_cons (ps_if (pt_cmpR op_lt (pv 3) pe_int (nomark _)) (pss_one (ps_ret (pe_lst (pa_cons (pv 3) pa_nil)))) pss_nil)
   (pss_cons (ps_if (ptt (pmt (pv 0) T.clx1y Mx25 hr (pa_cons (pv 1) (pa_cons (pv 2) pa_nil)))) (pss_one (ps_ret (pe_lst (pa_cons (pgi T.gxk) pa_nil)))) pss_nil)
   (pss_cons (ps_expr (pmt (pv 0) T.clx1y Mx26 hr (pa_cons (pv 1) (pa_cons (pgi T.gx0) (pa_cons (pv 2) (pa_cons pe_int pa_nil))))))
   (pss_one (ps_ret (pe_lst (pa_cons (pmt (pfl (pv 0)) T.clx7 Mxb hr (pa_cons (pv 1) pa_nil)) pa_nil))))))))), ?_⟩
  obtain ⟨hW, hG, hc, q⟩ := h
  obtain ⟨dw, hw⟩ := hW.wo
  obtain ⟨dj, hj⟩ := hW.jo
  have hz1 : D.journal.length + 1 < 10000 := by
   have := hG.jl
   have h2 : D.st.journal.length = D.journal.length := List.length_map _
   have h3 : c ≤ 1000 := hc
   omega
  have hz : D.journal.length < 10000 := by omega
  walk_at "p"
  refine ite_out (fun no => ?_) (fun h1 h2 => ?_)
  ·walk_at "p"
   refine nl (fun p H1 hp e1 s1 k1 => q D H1 p ?_)
   have e : Vbpoac.step D.st (.deposit a n) = Vbpoac.no D.st 1 := by rw [step_deposit]; exact if_pos (inside_no no)
   rw [e]; exact Ans.no hW hp e1 s1 k1
  ·have e0 : Vbpoac.step D.st (.deposit a n) = Vbpoac.onAccount D.st a fun k => if (Vbpoac.GREAT : Int) < Vbpoac.balance D.st k + n then Vbpoac.no D.st 8 else Vbpoac.yes (Vbpoac.wrote D.st k 1 n.toNat 0) (Vbpoac.balance (Vbpoac.wrote D.st k 1 n.toNat 0) k).toNat [] := by
    rw [step_deposit, if_neg (inside_yes ⟨h1, h2⟩)]
   walk_at "p"
   refine rd_met hw rfl ?_
   walk_at "p"
   refine ⟨D, a, rfl, hW, ?_⟩
   walk_at "p"
   rcases accRef_cases D a with ⟨er, es⟩ | ⟨er, es⟩ | ⟨er, ha, es⟩
   ·refine ite_d (fun _ => ?_) (fun z => absurd (show accRef D a < 0 by omega) z)
    walk_at "p"
    refine nl (fun p H1 hp e1 s1 k1 => q D H1 p ?_)
    rw [er] at e1
    rw [show Vbpoac.step D.st (.deposit a n) = _ from e0.trans (es _)]; exact Ans.no hW hp e1 s1 k1
   ·refine ite_d (fun _ => ?_) (fun z => absurd (show accRef D a < 0 by omega) z)
    walk_at "p"
    refine nl (fun p H1 hp e1 s1 k1 => q D H1 p ?_)
    rw [er] at e1
    rw [show Vbpoac.step D.st (.deposit a n) = _ from e0.trans (es _)]; exact Ans.no hW hp e1 s1 k1
   ·refine ite_d (fun z => absurd z (show ¬ accRef D a < 0 by omega)) (fun _ => ?_)
    have e1 := e0.trans (es _)
    have hb := bal_eq' D ha
    walk_at "p"
    refine rd_met hw rfl ?_
    walk_at "p"
    refine ⟨D, a, n, rfl, hW, hz, fun H0 s0 => ?_⟩
    replace q := fun D' H' p x => q D' H' p (Ans.since s0 x)
    replace hW := hW.same s0
    replace hw := s0 _ _ hw
    walk_at "p"
    refine ite_d (fun n8 => ?_) (fun n8 => ?_)
    ·walk_at "p"
     refine nl (fun p H1 hp e2 s1 k1 => q D H1 p ?_)
     rw [show Vbpoac.step D.st (.deposit a n) = Vbpoac.no D.st 8 from e1.trans (if_pos (by rw [hb]; exact n8))]; exact Ans.no hW hp e2 s1 k1
    ·walk_at "p"
     refine rd_met hw rfl ?_
     walk_at "p"
     have en : V.int a = V.int (a.toNat : Int) := by congr 1; omega
     have em : V.int n = V.int (n.toNat : Int) := by congr 1; omega
     refine ⟨D, a.toNat, 1, n.toNat, 0, by show [V.ref D.w, V.int a, V.int 1, V.int n, V.int 0] = _; rw [en, em]; rfl, hW, hz, fun p H1 w1 f1 => ?_⟩
     obtain ⟨dw1, hw1⟩ := w1.wo
     obtain ⟨dj1, hj1⟩ := w1.jo
     walk_at "p"
     refine T.rWorld hw1 ?_
     refine rd_met hj1 rfl ?_
     walk_at "p"
     refine ⟨{ D with journal := D.journal ++ [(p, ⟨D.day, a.toNat, 1, n.toNat, 0⟩)] }, a, rfl, w1, (by show (D.journal ++ [_]).length < 10000; rw [List.length_append]; exact hz1), fun H1b s1b => ?_⟩
     walk_at "p"
     refine nl (fun p2 H2 hp e2 s2 k2 => q { D with journal := D.journal ++ [(p, ⟨D.day, a.toNat, 1, n.toNat, 0⟩)] } H2 p2 ?_)
     have est : ({ D with journal := D.journal ++ [(p, ⟨D.day, a.toNat, 1, n.toNat, 0⟩)] } : DS).st = Vbpoac.wrote D.st a.toNat 1 n.toNat 0 := by
      simp [DS.st, Vbpoac.wrote]
     have hb1 := bal_eq' { D with journal := D.journal ++ [(p, ⟨D.day, a.toNat, 1, n.toNat, 0⟩)] } ha
     have hpos : 0 ≤ Vbpoac.balance (Vbpoac.wrote D.st a.toNat 1 n.toNat 0) a.toNat := by
      rw [← est, hb1]
      have em : (D.journal ++ [(p, (⟨D.day, a.toNat, 1, n.toNat, 0⟩ : Vbpoac.Entry))]).map (fun x => x.2) = D.journal.map (fun x => x.2) ++ [⟨D.day, a.toNat, 1, n.toNat, 0⟩] := by rw [List.map_append]; rfl
      show 0 ≤ balL ((D.journal ++ [(p, (⟨D.day, a.toNat, 1, n.toNat, 0⟩ : Vbpoac.Entry))]).map (fun x => x.2)) a
      rw [em]
      rw [balL_in (show ((a.toNat : Nat) : Int) = a by omega), ← hb]
      have := hG.bal a.toNat
      have h0 : Vbpoac.signed ⟨D.day, a.toNat, 1, n.toNat, 0⟩ = (n.toNat : Int) := rfl
      rw [h0]; omega
     rw [show Vbpoac.step D.st (.deposit a n) = _ from e1.trans (if_neg (by rw [hb]; exact n8)), ← est]
     refine Ans.num (w1.same s1b) (f1.trans (Fr.same s1b)) rfl hp ?_ s2
     rw [e2, est, Int.toNat_of_nonneg hpos, ← est, hb1]
end
section
variable {P : Program} {w : World} {K : PySem.W.Frag} {mg : Str → Option Value} {base : Heap} {A : Adr}
noncomputable def findM (D : DS) (n : Int) : Option DM := if 1 ≤ n ∧ n ≤ (D.meters.length : Int) then (match D.meters[(n - 1).toNat]? with
 | some x => if x.m.gone = true then none else some x
 | none => none) else none
noncomputable def refM : Option DM → V
 | none => .non
 | some x => .ref x.a
noncomputable def everM (D : DS) (n : Int) : Option DM := if 1 ≤ n ∧ n ≤ (D.meters.length : Int) then D.meters[(n - 1).toNat]? else none
noncomputable def spx21 (A : Adr) : Sp := fun vs H Q _ => ∃ (D : DS) (n : Int), vs = [.ref D.w, .int n] ∧ WAt A H D ∧ Q (refM (everM D n)) H
theorem cx21 (P : Program) (w : World) (base : Heap) (T : Txt K mg A) : Met P w K mg base 1 A.W "meter_ever_there" ["self", "number"] (spx21 A) := by
 obtain ⟨f, fd, F, hm, hf, b⟩ := T.fx21
 refine ⟨f, fd, ⟨hm, hf, F.kp⟩, F.ok (k := 0) scx21 (fun vs H Q E h => ?_) (fun cdv A' outer s H vs Q E hr h => ?_), b⟩
 ·obtain ⟨_, _, rfl, _⟩ := h
  rfl
 ·obtain ⟨D, n, rfl, h⟩ := h
  refine ⟨_, (pss_one (ps_ret (pe_ifExp (pt_chain op_le op_le pe_int (pv 1) (pe_callB call_len_seq (by rfl) T.b_len (by decide +kernel) (pa_cons (pfl (pv 0)) pa_nil))) (pe_ix ix_list (pfl (pv 0)) (pe_op op_sub (pv 1) pe_int) (fun _ _ => rfl)) pe_non))), ?_⟩
  obtain ⟨hW, q⟩ := h
  obtain ⟨dw, hw⟩ := hW.wo
  walk_at "p"
  refine ⟨1, n, rfl, rfl, _, rfl, ?_⟩
  have out : ¬ (1 ≤ n ∧ n ≤ (D.meters.length : Int)) → Q .non H := fun z => by
   have e : everM D n = none := by unfold everM; rw [if_neg z]
   rw [e] at q; exact q
  refine ite_d (fun h1 => ?_) (fun h1 => ?_)
  ·walk_at "p"
   refine T.rWorld hw ?_
   walk_at "p"
   refine ⟨D.ml, _, rfl, .inl (SqL.of hW.mlo), ?_⟩
   walk_at "p"
   rw [List.length_map]
   refine ite_d (fun h2 => ?_) (fun h2 => ?_)
   ·obtain ⟨x, hx⟩ : ∃ x, D.meters[(n - 1).toNat]? = some x := ⟨_, List.getElem?_eq_getElem (by omega)⟩
    walk_at "p"
    refine T.rWorld hw ?_
    walk_at "p"
    refine ⟨D.ml, _, _, .ref x.a, rfl, rfl, SqL.of hW.mlo, at_of (j := (n - 1).toNat) (by omega) (by rw [List.getElem?_map, hx]; rfl), ?_⟩
    have e : everM D n = some x := by unfold everM; rw [if_pos ⟨h1, h2⟩, hx]
    rw [e] at q; exact q
   ·walk_at "p"
    exact out fun z => h2 z.2
  ·refine ⟨_, rfl, ?_⟩
   refine iteF ?_
   walk_at "p"
   exact out fun z => h1 z.1
theorem find_ever (D : DS) (n : Int) : findM D n = match everM D n with
 | some x => if x.m.gone = true then none else some x
 | none => none := by
 unfold findM everM
 by_cases h : 1 ≤ n ∧ n ≤ (D.meters.length : Int)
 ·rw [if_pos h, if_pos h]
 ·rw [if_neg h, if_neg h]
theorem ever_get {D : DS} {n : Int} {x : DM} (h : everM D n = some x) : ∃ i : Nat, n = ((i + 1 : Nat) : Int) ∧ D.meters[i]? = some x := by
 unfold everM at h
 by_cases z : 1 ≤ n ∧ n ≤ (D.meters.length : Int)
 ·rw [if_pos z] at h
  exact ⟨(n - 1).toNat, by omega, h⟩
 ·rw [if_neg z] at h; cases h
noncomputable def spx22 (A : Adr) : Sp := fun vs H Q _ => ∃ (D : DS) (n : Int), vs = [.ref D.w, .int n] ∧ WAt A H D ∧ Q (refM (findM D n)) H
theorem cx22 (P : Program) (w : World) (base : Heap) (T : Txt K mg A) : Met P w K mg base 2 A.W "find_meter" ["self", "number"] (spx22 A) := by
 have Mx21 := cx21 P w base T
 obtain ⟨f, fd, F, hm, hf, b⟩ := T.fx22
 refine ⟨f, fd, ⟨hm, hf, F.kp⟩, F.ok (k := 1) scx22 (fun vs H Q E h => ?_) (fun cdv A' outer s H vs Q E hr h => ?_), b⟩
 ·obtain ⟨_, _, rfl, _⟩ := h
  rfl
 ·obtain ⟨D, n, rfl, h⟩ := h
  refine ⟨_, (pss_cons (pst 2 scx22.nd (pmt (pv 0) T.clx1y Mx21 hr (pa_cons (pv 1) pa_nil)))
   (pss_one (ps_ret (pe_ifExp (PW.pt (pw_or (pt_cmp (pc_isN (pv 2))) (pw_or1 (ptt (pfl (pv 2)))))) pe_non (pv 2))))), ?_⟩
  obtain ⟨hW, q⟩ := h
  obtain ⟨dw, hw⟩ := hW.wo
  walk_at "p"
  refine rd_met hw rfl ?_
  walk_at "p"
  refine ⟨D, n, rfl, hW, ?_⟩
  rw [find_ever] at q
  walk_at "p"
  cases he : everM D n with
  | none =>
   rw [he] at q
   refine ite_d (fun _ => ?_) (fun z => absurd rfl z)
   refine iteT ?_
   walk_at "p"
   exact q
  | some x =>
   rw [he] at q
   obtain ⟨i, _, hx⟩ := ever_get he
   obtain ⟨⟨dx, hm⟩, _⟩ := hW.mo hx
   refine ite_d (fun z => by cases z) (fun _ => ?_)
   walk_at "p"
   refine T.rMeter hm ?_
   walk_at "p"
   refine ite_b (fun g => ?_) (fun g => ?_)
   ·walk_at "p"
    have q' : Q (refM (if x.m.gone = true then none else some x)) H := q
    rw [g, if_pos rfl] at q'; exact q'
   ·walk_at "p"
    have q' : Q (refM (if x.m.gone = true then none else some x)) H := q
    rw [g, if_neg Bool.false_ne_true] at q'; exact q'
noncomputable def metRef (D : DS) (n : Int) : Int := if ¬ (1 ≤ n ∧ n ≤ 10) then -1 else if (findM D n).isNone = true then -4 else 0
noncomputable def spx24 (A : Adr) : Sp := fun vs H Q _ => ∃ (D : DS) (n : Int), vs = [.ref D.w, .int n] ∧ WAt A H D ∧ Q (.int (metRef D n)) H
theorem cx24 (P : Program) (w : World) (base : Heap) (T : Txt K mg A) : Met P w K mg base 3 A.W "meter_refusal" ["self", "number"] (spx24 A) := by
 have Mx22 := cx22 P w base T
 obtain ⟨f, fd, F, hm, hf, b⟩ := T.fx24
 refine ⟨f, fd, ⟨hm, hf, F.kp⟩, F.ok (k := 2) scx24 (fun vs H Q E h => ?_) (fun cdv A' outer s H vs Q E hr h => ?_), b⟩
 ·obtain ⟨_, _, rfl, _⟩ := h
  rfl
 ·obtain ⟨D, n, rfl, h⟩ := h
  refine ⟨_, (pss_cons (ps_if (pt_not (pt_chain op_le op_le pe_int (pv 1) (pgi T.gx1s))) (pss_one (ps_ret (pgi T.gxd))) pss_nil)
   (pss_one (ps_ret (pe_ifExp (pt_cmp (pc_isN (pmt (pv 0) T.clx1y Mx22 hr (pa_cons (pv 1) pa_nil)))) (pgi T.gxg) pe_int)))), ?_⟩
  obtain ⟨hW, q⟩ := h
  obtain ⟨dw, hw⟩ := hW.wo
  walk_at "p"
  refine ite_out (fun no => ?_) (fun h1 h2 => ?_)
  ·walk_at "p"
   have e : metRef D n = -1 := by unfold metRef; rw [if_pos no]
   rw [e] at q; exact q
  ·walk_at "p"
   refine rd_met hw rfl ?_
   walk_at "p"
   refine ⟨D, n, rfl, hW, ?_⟩
   walk_at "p"
   have e : metRef D n = if (findM D n).isNone = true then -4 else 0 := by unfold metRef; rw [if_neg (fun z => z ⟨h1, h2⟩)]
   rw [e] at q
   cases f : findM D n with
   | none =>
    rw [f] at q
    refine ite_d (fun _ => ?_) (fun z => absurd rfl z)
    walk_at "p"
    exact q
   | some x =>
    rw [f] at q
    refine ite_d (fun z => by cases z) (fun _ => ?_)
    walk_at "p"
    exact q
noncomputable def spx1n (A : Adr) : Sp := fun vs H Q _ => ∃ (D : DS) (i : Nat) (x : DM), vs = [.ref x.mem] ∧ WAt A H D ∧ D.meters[i]? = some x ∧ Q (.bl (decide (x.m.first.gen < x.m.second.gen))) H
theorem cx1n (P : Program) (w : World) (base : Heap) (T : Txt K mg A) : Met P w K mg base 1 A.Me "second_counts" ["self"] (spx1n A) := by
 obtain ⟨f, fd, F, hm, hf, b⟩ := T.fx1n
 refine ⟨f, fd, ⟨hm, hf, F.kp⟩, F.ok (k := 0) scx1n (fun vs H Q E h => ?_) (fun cdv A' outer s H vs Q E hr h => ?_), b⟩
 ·obtain ⟨_, _, _, rfl, _⟩ := h
  rfl
 ·obtain ⟨D, i, x, rfl, h⟩ := h
  refine ⟨_, (pss_one (ps_ret (pe_cmpR op_gt (pe_ix ix_list (pfl (pv 0)) (pgi T.gx1f) (fun _ _ => rfl)) (pe_ix ix_list (pfl (pv 0)) (pgi T.gx1f) (fun _ _ => rfl)) (nomark _)))), ?_⟩
  obtain ⟨hW, hi, q⟩ := h
  obtain ⟨⟨dx, hm⟩, ⟨de, he⟩, h1, h2⟩ := hW.mo hi
  walk_at "p"
  refine T.rMemory he ?_
  walk_at "p"
  refine ⟨x.b2, _, _, _, rfl, rfl, SqL.of h2, at_of (j := 0) rfl rfl, ?_⟩
  walk_at "p"
  refine T.rMemory he ?_
  walk_at "p"
  refine ⟨x.b1, _, _, _, rfl, rfl, SqL.of h1, at_of (j := 0) rfl rfl, ?_⟩
  walk_at "p"
  have e : decide (((x.m.first.gen : Nat) : Int) < ((x.m.second.gen : Nat) : Int)) = decide (x.m.first.gen < x.m.second.gen) := by
   by_cases z : x.m.first.gen < x.m.second.gen
   ·rw [decide_eq_true z, decide_eq_true (by omega)]
   ·rw [decide_eq_false z, decide_eq_false (by omega)]
  rw [← e] at q
  exact q
noncomputable def curA (x : DM) : Addr := if x.m.first.gen < x.m.second.gen then x.b2 else x.b1
noncomputable def spareA (x : DM) : Addr := if x.m.first.gen < x.m.second.gen then x.b1 else x.b2
theorem cur_at {H : Hp} {D : DS} {i : Nat} {x : DM} (hW : WAt A H D) (hi : D.meters[i]? = some x) : H (curA x) = some (.lst (bankV (Vbpoac.current x.m))) := by
 obtain ⟨_, _, h1, h2⟩ := hW.mo hi
 unfold curA Vbpoac.current
 by_cases z : x.m.first.gen < x.m.second.gen
 ·rw [if_pos z, if_pos z]; exact h2
 ·rw [if_neg z, if_neg z]; exact h1
noncomputable def spx1o (A : Adr) : Sp := fun vs H Q _ => ∃ (D : DS) (i : Nat) (x : DM), vs = [.ref x.mem] ∧ WAt A H D ∧ D.meters[i]? = some x ∧ Q (.ref (curA x)) H
theorem cx1o (P : Program) (w : World) (base : Heap) (T : Txt K mg A) : Met P w K mg base 2 A.Me "counting_bank" ["self"] (spx1o A) := by
 have Mx1n := cx1n P w base T
 obtain ⟨f, fd, F, hm, hf, b⟩ := T.fx1o
 refine ⟨f, fd, ⟨hm, hf, F.kp⟩, F.ok (k := 1) scx1o (fun vs H Q E h => ?_) (fun cdv A' outer s H vs Q E hr h => ?_), b⟩
 ·obtain ⟨_, _, _, rfl, _⟩ := h
  rfl
 ·obtain ⟨D, i, x, rfl, h⟩ := h
  refine ⟨_, (pss_one (ps_ret (pe_ifExp (ptt (pmt0 (pv 0) T.clx1l Mx1n hr)) (pfl (pv 0)) (pfl (pv 0))))), ?_⟩
  obtain ⟨hW, hi, q⟩ := h
  obtain ⟨⟨dx, hm⟩, ⟨de, he⟩, h1, h2⟩ := hW.mo hi
  walk_at "p"
  refine rd_met he rfl ?_
  walk_at "p"
  refine ⟨D, i, x, rfl, hW, hi, ?_⟩
  walk_at "p"
  unfold curA at q
  refine ite_d (fun z => ?_) (fun z => ?_)
  ·rw [if_pos z] at q
   walk_at "p"
   exact T.rMemory he q
  ·rw [if_neg z] at q
   walk_at "p"
   exact T.rMemory he q
noncomputable def spx1p (A : Adr) : Sp := fun vs H Q _ => ∃ (D : DS) (i : Nat) (x : DM), vs = [.ref x.mem] ∧ WAt A H D ∧ D.meters[i]? = some x ∧ Q (.ref (spareA x)) H
theorem cx1p (P : Program) (w : World) (base : Heap) (T : Txt K mg A) : Met P w K mg base 2 A.Me "spare_bank" ["self"] (spx1p A) := by
 have Mx1n := cx1n P w base T
 obtain ⟨f, fd, F, hm, hf, b⟩ := T.fx1p
 refine ⟨f, fd, ⟨hm, hf, F.kp⟩, F.ok (k := 1) scx1p (fun vs H Q E h => ?_) (fun cdv A' outer s H vs Q E hr h => ?_), b⟩
 ·obtain ⟨_, _, _, rfl, _⟩ := h
  rfl
 ·obtain ⟨D, i, x, rfl, h⟩ := h
  refine ⟨_, (pss_one (ps_ret (pe_ifExp (ptt (pmt0 (pv 0) T.clx1l Mx1n hr)) (pfl (pv 0)) (pfl (pv 0))))), ?_⟩
  obtain ⟨hW, hi, q⟩ := h
  obtain ⟨⟨dx, hm⟩, ⟨de, he⟩, h1, h2⟩ := hW.mo hi
  walk_at "p"
  refine rd_met he rfl ?_
  walk_at "p"
  refine ⟨D, i, x, rfl, hW, hi, ?_⟩
  walk_at "p"
  unfold spareA at q
  refine ite_d (fun z => ?_) (fun z => ?_)
  ·rw [if_pos z] at q
   walk_at "p"
   exact T.rMemory he q
  ·rw [if_neg z] at q
   walk_at "p"
   exact T.rMemory he q
end
section
variable {P : Program} {w : World} {K : PySem.W.Frag} {mg : Str → Option Value} {base : Heap} {A : Adr}
theorem wr_step (old new : Vbpoac.Bank) : (bankV (Vbpoac.written old new 0)).set 0 (.int 0) = bankV (Vbpoac.written old new 1) ∧ (bankV (Vbpoac.written old new 1)).set 1 (.int new.rising) = bankV (Vbpoac.written old new 2) ∧
  (bankV (Vbpoac.written old new 2)).set 2 (.int new.falling) = bankV (Vbpoac.written old new 3) ∧ (bankV (Vbpoac.written old new 3)).set 3 (.int new.piece) = bankV (Vbpoac.written old new 4) ∧
  (bankV (Vbpoac.written old new 4)).set 4 (.int new.refills) = bankV (Vbpoac.written old new 5) ∧ (bankV (Vbpoac.written old new 5)).set 0 (.int new.gen) = bankV (Vbpoac.written old new 6) := ⟨rfl, rfl, rfl, rfl, rfl, rfl⟩
noncomputable def stored (D : DS) (i : Nat) (x : DM) (m : Vbpoac.Meter) : DS := { D with meters := D.meters.set i { x with m := m } }
noncomputable def spx1q (A : Adr) : Sp := fun vs H Q _ => ∃ (D : DS) (i : Nat) (x : DM) (n : Vbpoac.Bank) (k : Int), vs = [.ref x.mem, .int n.rising, .int n.falling, .int n.piece, .int n.refills, .int k] ∧ WAt A H D ∧ D.meters[i]? = some x ∧ 0 ≤ k ∧
 ∀ H', WAt A H' (stored D i x (Vbpoac.store x.m n (min 6 k.toNat))) → Fr A D H (stored D i x (Vbpoac.store x.m n (min 6 k.toNat))) H' → Q .non H'
theorem cx1q (P : Program) (w : World) (base : Heap) (T : Txt K mg A) : Met P w K mg base 3 A.Me "write" ["self", "rising", "falling", "piece", "refills", "k"] (spx1q A) := by
 have Mx1o := cx1o P w base T
 have Mx1p := cx1p P w base T
 obtain ⟨f, fd, F, hm, hf, b⟩ := T.fx1q
 refine ⟨f, fd, ⟨hm, hf, F.kp⟩, F.ok (k := 2) scx1q (fun vs H Q E h => ?_) (fun cdv A' outer s H vs Q E hr h => ?_), b⟩
 ·obtain ⟨_, _, _, _, _, rfl, _⟩ := h
  rfl
 ·obtain ⟨D, i, x, n, k, rfl, h⟩ := h
  refine ⟨_, (pss_cons (pst 6 scx1q.nd (pmt0 (pv 0) T.clx1l Mx1p hr))
   (pss_cons (pst 7 scx1q.nd (pe_lst (pa_cons (pe_tup (pa_cons (pgi T.gx1f) (pa_cons pe_int pa_nil))) (pa_cons (pe_tup (pa_cons (pgi T.gx1g) (pa_cons (pv 1) pa_nil))) (pa_cons (pe_tup (pa_cons (pgi T.gx1h) (pa_cons (pv 2) pa_nil))) (pa_cons (pe_tup (pa_cons (pgi T.gx1i) (pa_cons (pv 3) pa_nil))) (pa_cons (pe_tup (pa_cons (pgi T.gx1j) (pa_cons (pv 4) pa_nil))) (pa_cons (pe_tup (pa_cons (pgi T.gx1f) (pa_cons (pe_op op_add (pe_ix ix_list (pmt0 (pv 0) T.clx1l Mx1o hr) (pgi T.gx1f) (fun _ _ => rfl)) pe_int) pa_nil))) pa_nil))))))))
   (pss_one (ps_for PassesOwn.never rfl (pi_list (pe_slice sl_list (pv 7) po_none (po_some (pv 5)))) (pg_tup rfl (pgs_cons (pgn 8 scx1q.nd) (pgs_cons (pgn 9 scx1q.nd) pgs_nil)))
    (pss_one (ps_asg (pv 9) (pg_sub (pv 6) (pv 8) set_list))))))), ?_⟩
  obtain ⟨hW, hi, hk, q⟩ := h
  obtain ⟨⟨dx, hm⟩, ⟨de, he⟩, h1, h2⟩ := hW.mo hi
  walk_at "p"
  refine rd_met he rfl ?_
  walk_at "p"
  refine ⟨D, i, x, rfl, hW, hi, ?_⟩
  walk_at "p"
  refine nt (fun t0 H0 n0 e0 s0 _ => ?_)
  walk_at "p"
  refine nt (fun t1 H1 n1 e1 s1 _ => ?_)
  walk_at "p"
  refine nt (fun t2 H2 n2 e2 s2 _ => ?_)
  walk_at "p"
  refine nt (fun t3 H3 n3 e3 s3 _ => ?_)
  walk_at "p"
  refine nt (fun t4 H4 n4 e4 s4 _ => ?_)
  have s04 : Same H H4 := (((s0.trans s1).trans s2).trans s3).trans s4
  have hW4 := hW.same s04
  walk_at "p"
  refine rd_met (s04 _ _ he) rfl ?_
  walk_at "p"
  refine ⟨D, i, x, rfl, hW4, hi, ?_⟩
  walk_at "p"
  refine rd_ix 0 (cur_at hW4 hi) ?_
  walk_at "p"
  refine nt (fun t5 H5 n5 e5 s5 _ => ?_)
  walk_at "p"
  refine nl (fun l6 H6 n6 e6 s6 _ => ?_)
  walk_at "p"
  refine rd_sl (SqL.of e6) (fun l7 H7 n7 e7 s7 _ => ?_)
  rw [cut_to hk] at e7
  have s06 : Same H H6 := s04.trans (s5.trans s6)
  have s57 : Same H5 H7 := s6.trans s7
  have s47 : Same H4 H7 := s5.trans s57
  have s07 : Same H H7 := s04.trans s47
  have a0 : H7 t0 = some (.tup [.int 0, .int 0]) := s47 _ _ (s4 _ _ (s3 _ _ (s2 _ _ (s1 _ _ e0))))
  have a1 : H7 t1 = some (.tup [.int 1, .int n.rising]) := s47 _ _ (s4 _ _ (s3 _ _ (s2 _ _ e1)))
  have a2 : H7 t2 = some (.tup [.int 2, .int n.falling]) := s47 _ _ (s4 _ _ (s3 _ _ e2))
  have a3 : H7 t3 = some (.tup [.int 3, .int n.piece]) := s47 _ _ (s4 _ _ e3)
  have a4 : H7 t4 = some (.tup [.int 4, .int n.refills]) := s47 _ _ e4
  have a5 : H7 t5 = some (.tup [.int 0, .int ((Vbpoac.current x.m).gen + 1 : Nat)]) := s57 _ _ e5
  clear e0 e1 e2 e3 e4 e5 e6 s0 s1 s2 s3 s4 s5 s6 s7 s57 s47 n0 n1 n2 n3 n4 n5 n6 hW4 s04
  obtain ⟨old, hold⟩ : ∃ old : Vbpoac.Bank, H7 (spareA x) = some (.lst (bankV old)) ∧ (∀ H', H' (spareA x) = some (.lst (bankV (Vbpoac.written old { n with gen := (Vbpoac.current x.m).gen + 1 } (min 6 k.toNat)))) →
    (∀ b u, H b = some u → b ≠ spareA x → H' b = some u) → Q .non H') := by
   unfold spareA
   by_cases z : x.m.first.gen < x.m.second.gen
   ·rw [if_pos z]
    refine ⟨x.m.first, s07 _ _ h1, fun H' g k' => ?_⟩
    obtain ⟨w1, f1⟩ := hW.bank1 (H' := H') hi _ g k'
    have e : Vbpoac.store x.m n (min 6 k.toNat) = { x.m with first := Vbpoac.written x.m.first { n with gen := (Vbpoac.current x.m).gen + 1 } (min 6 k.toNat) } := by
     unfold Vbpoac.store; exact if_pos z
    unfold stored at q; rw [e] at q
    exact q H' w1 f1
   ·rw [if_neg z]
    refine ⟨x.m.second, s07 _ _ h2, fun H' g k' => ?_⟩
    obtain ⟨w1, f1⟩ := hW.bank2 (H' := H') hi _ g k'
    have e : Vbpoac.store x.m n (min 6 k.toNat) = { x.m with second := Vbpoac.written x.m.second { n with gen := (Vbpoac.current x.m).gen + 1 } (min 6 k.toNat) } := by
     unfold Vbpoac.store; exact if_neg z
    unfold stored at q; rw [e] at q
    exact q H' w1 f1
  obtain ⟨hsp, done⟩ := hold
  have nt : ∀ {t : Addr} {ys : List V}, H7 t = some (.tup ys) → t ≠ spareA x := fun h => ne_of h hsp (by intro z; cases z)
  have nl7 : l7 ≠ spareA x := fun z => by
   have : ∃ u, H (spareA x) = some u := by
    unfold spareA
    by_cases z : x.m.first.gen < x.m.second.gen
    ·rw [if_pos z]; exact ⟨_, h1⟩
    ·rw [if_neg z]; exact ⟨_, h2⟩
   obtain ⟨u, hu⟩ := this
   have := s06 _ _ hu
   rw [← z, n7] at this; cases this
  refine rd_for (SqL.of e7) (fun j σ H' => (∃ v8 v9, σ = [some (.ref x.mem), some (.int n.rising), some (.int n.falling), some (.int n.piece), some (.int n.refills), some (.int k), some (.ref (spareA x)), some (.ref l6), v8, v9]) ∧
   H' (spareA x) = some (.lst (bankV (Vbpoac.written old { n with gen := (Vbpoac.current x.m).gen + 1 } j))) ∧ ∀ b, b ≠ spareA x → H' b = H7 b) ⟨⟨none, none, rfl⟩, hsp, fun b _ => rfl⟩ (fun j σ H' _ ⟨_, _, k'⟩ => SqL.of (by rw [k' _ nl7]; exact e7)) ?_ ?_
  ·rintro j y σ H' hj ⟨⟨v8, v9, rfl⟩, hs, k'⟩
   have w6 := wr_step old { n with gen := (Vbpoac.current x.m).gen + 1 }
   rw [List.getElem?_take] at hj
   by_cases hlt : j < k.toNat
   ·rw [if_pos hlt] at hj
    match j, hj, hs with
    | 0, hj, hs =>
     cases Option.some.inj hj
     refine rd_tup2 (show H' t0 = _ by rw [k' _ (nt a0)]; exact a0) ?_
     walk_at "p"
     exact rd_set hs (show ixN 5 0 = some 0 from rfl) fun H1 g1 kk => ⟨⟨_, _, rfl⟩, by rw [g1, w6.1], fun b hb => by rw [kk b hb, k' b hb]⟩
    | 1, hj, hs =>
     cases Option.some.inj hj
     refine rd_tup2 (show H' t1 = _ by rw [k' _ (nt a1)]; exact a1) ?_
     walk_at "p"
     exact rd_set hs (show ixN 5 1 = some 1 from rfl) fun H1 g1 kk => ⟨⟨_, _, rfl⟩, by rw [g1, w6.2.1], fun b hb => by rw [kk b hb, k' b hb]⟩
    | 2, hj, hs =>
     cases Option.some.inj hj
     refine rd_tup2 (show H' t2 = _ by rw [k' _ (nt a2)]; exact a2) ?_
     walk_at "p"
     exact rd_set hs (show ixN 5 2 = some 2 from rfl) fun H1 g1 kk => ⟨⟨_, _, rfl⟩, by rw [g1, w6.2.2.1], fun b hb => by rw [kk b hb, k' b hb]⟩
    | 3, hj, hs =>
     cases Option.some.inj hj
     refine rd_tup2 (show H' t3 = _ by rw [k' _ (nt a3)]; exact a3) ?_
     walk_at "p"
     exact rd_set hs (show ixN 5 3 = some 3 from rfl) fun H1 g1 kk => ⟨⟨_, _, rfl⟩, by rw [g1, w6.2.2.2.1], fun b hb => by rw [kk b hb, k' b hb]⟩
    | 4, hj, hs =>
     cases Option.some.inj hj
     refine rd_tup2 (show H' t4 = _ by rw [k' _ (nt a4)]; exact a4) ?_
     walk_at "p"
     exact rd_set hs (show ixN 5 4 = some 4 from rfl) fun H1 g1 kk => ⟨⟨_, _, rfl⟩, by rw [g1, w6.2.2.2.2.1], fun b hb => by rw [kk b hb, k' b hb]⟩
    | 5, hj, hs =>
     cases Option.some.inj hj
     refine rd_tup2 (show H' t5 = _ by rw [k' _ (nt a5)]; exact a5) ?_
     walk_at "p"
     exact rd_set hs (show ixN 5 0 = some 0 from rfl) fun H1 g1 kk => ⟨⟨_, _, rfl⟩, by rw [g1, w6.2.2.2.2.2], fun b hb => by rw [kk b hb, k' b hb]⟩
    | j + 6, hj, hs => simp at hj
   ·rw [if_neg hlt] at hj; cases hj
  ·rintro σ H' ⟨_, hs, k'⟩
   rw [List.length_take, Nat.min_comm] at hs
   exact done H' hs fun b u hb hn => by rw [k' b hn]; exact s07 b u hb
end
section
variable {P : Program} {w : World} {K : PySem.W.Frag} {mg : Str → Option Value} {base : Heap} {A : Adr}
noncomputable def codeI (key : Int) (ns : List Int) : Int := ns.foldl (fun c n => (31 * c + n) % 99991) (key % 99991)
theorem map_ref {α : Type} {r : α → V} {l : List α} {i : Nat} {x : V} (h : (l.map r)[i]? = some x) : ∃ y, l[i]? = some y ∧ x = r y := by
 rw [List.getElem?_map] at h
 cases e : l[i]? with
 | none => rw [e] at h; cases h
 | some y => rw [e] at h; exact ⟨y, rfl, (Option.some.inj h).symm⟩
noncomputable def spx2o (A : Adr) : Sp := fun vs H Q _ => ∃ (l : Addr) (ns : List Int) (key : Int), vs = [.ref l, .int key] ∧ H l = some (.lst (ns.map V.int)) ∧ Q (.int (codeI key ns)) H
theorem cx2o (P : Program) (w : World) (base : Heap) (T : Txt K mg A) : Cal P w K mg base 1 "code_of" ["numbers", "key"] (spx2o A) := by
 obtain ⟨f, fd, F, hm, b⟩ := T.fx2o
 refine ⟨f, fd, F.ok (k := 0) scx2o (fun vs H Q E h => ?_) (fun cdv A' outer s H vs Q E hr h => ?_), hm, F.kp, b⟩
 ·obtain ⟨_, _, _, rfl, _⟩ := h
  rfl
 ·obtain ⟨l, ns, key, rfl, h⟩ := h
  refine ⟨_, (pss_cons (pst 2 scx2o.nd (pe_op op_mod (pv 1) (pgi T.gx2j)))
   (pss_cons (ps_for PassesOwn.never rfl (pi_list (pv 0)) (pgn 3 scx2o.nd)
    (pss_one (pst 2 scx2o.nd (pe_op op_mod (pe_op op_add (pe_op op_mul (pgi T.gx2k) (pv 2)) (pv 3)) (pgi T.gx2j)))))
   (pss_one (ps_ret (pv 2))))), ?_⟩
  obtain ⟨hl, q⟩ := h
  walk_at "p"
  refine i_rI (show (0 : Int) < 99991 by decide) ?_
  walk_at "p"
  refine rd_for (SqL.of hl) (fun i σ H' => H' = H ∧ ∃ v, σ = [some (.ref l), some (.int key), some (.int (codeI key (ns.take i))), v]) ⟨rfl, none, rfl⟩ (fun i σ H' _ ⟨e, _⟩ => by rw [e]; exact SqL.of hl) ?_ ?_
  ·rintro i x σ H' hi ⟨rfl, v, rfl⟩
   obtain ⟨y, hy, rfl⟩ := map_ref hi
   show tAsg _ _ _ _ _
   walk_at "p"
   refine i_rI (.inl ⟨by decide, by decide⟩) ?_
   walk_at "p"
   refine i_rI (show (0 : Int) < 99991 by decide) ?_
   refine ⟨rfl, some (.int y), ?_⟩
   have e : codeI key (ns.take (i + 1)) = (31 * codeI key (ns.take i) + y) % 99991 := by
    unfold codeI
    rw [take_snoc hy, List.foldl_append]; rfl
   rw [e]; rfl
  ·rintro σ H' ⟨rfl, v, rfl⟩
   walk_at "p"
   rw [List.length_map, List.take_length]
   exact q
noncomputable def spx2p (A : Adr) : Sp := fun vs H Q _ => ∃ (kind : Int) (l : Addr) (ns : List Int) (key : Int), vs = [.int kind, .ref l, .int key] ∧ H l = some (.lst (ns.map V.int)) ∧ ns.length < 1000 ∧
 ∀ p H', H p = none → H' p = some (.lst ((ns ++ [codeI key (kind :: ns)]).map V.int)) → Same H H' → Q (.ref p) H'
theorem cx2p (P : Program) (w : World) (base : Heap) (T : Txt K mg A) : Cal P w K mg base 2 "sealed" ["kind", "numbers", "key"] (spx2p A) := by
 have Cx2o := cx2o P w base T
 obtain ⟨f, fd, F, hm, b⟩ := T.fx2p
 refine ⟨f, fd, F.ok (k := 1) scx2p (fun vs H Q E h => ?_) (fun cdv A' outer s H vs Q E hr h => ?_), hm, F.kp, b⟩
 ·obtain ⟨_, _, _, _, rfl, _⟩ := h
  rfl
 ·obtain ⟨kind, l, ns, key, rfl, h⟩ := h
  refine ⟨_, (pss_one (ps_ret (pe_op op_cat (pv 1) (pe_lst (pa_cons (pcl Cx2o hr rfl (pa_cons (pe_op op_cat (pe_lst (pa_cons (pv 0) pa_nil)) (pv 1)) (pa_cons (pv 2) pa_nil))) pa_nil))))), ?_⟩
  obtain ⟨hl, hz, q⟩ := h
  walk_at "p"
  refine nl (fun p1 H1 n1 e1 s1 _ => ?_)
  walk_at "p"
  refine do_cat e1 (s1 _ _ hl) (by rw [List.length_map]; show 1 + ns.length ≤ 2 ^ 24; omega) (fun p2 H2 n2 e2 s2 _ => ?_)
  walk_at "p"
  refine ⟨p2, kind :: ns, key, rfl, e2, ?_⟩
  walk_at "p"
  refine nl (fun p3 H3 n3 e3 s3 _ => ?_)
  have s03 : Same H H3 := (s1.trans s2).trans s3
  refine do_cat (s03 _ _ hl) e3 (by rw [List.length_map]; show ns.length + 1 ≤ 2 ^ 24; omega) (fun p4 H4 n4 e4 s4 _ => ?_)
  refine q p4 H4 (s03.free n4) ?_ (s03.trans s4)
  rw [e4, List.map_append]; rfl
noncomputable def spx2q (A : Adr) : Sp := fun vs H Q _ => ∃ (kind : Int) (l : Addr) (ns : List Int) (c key : Int), vs = [.int kind, .ref l, .int key] ∧ H l = some (.lst ((ns ++ [c]).map V.int)) ∧ ns.length < 1000 ∧
 ∀ H', Same H H' → Q (.bl (decide (c = codeI key (kind :: ns)))) H'
theorem cx2q (P : Program) (w : World) (base : Heap) (T : Txt K mg A) : Cal P w K mg base 3 "is_sealed" ["kind", "message", "key"] (spx2q A) := by
 have Cx2p := cx2p P w base T
 obtain ⟨f, fd, F, hm, b⟩ := T.fx2q
 refine ⟨f, fd, F.ok (k := 2) scx2q (fun vs H Q E h => ?_) (fun cdv A' outer s H vs Q E hr h => ?_), hm, F.kp, b⟩
 ·obtain ⟨_, _, _, _, _, rfl, _⟩ := h
  rfl
 ·obtain ⟨kind, l, ns, c, key, rfl, h⟩ := h
  refine ⟨_, (pss_one (ps_ret (pe_cmpR (op_eqD hr.units) (pv 1) (pcl Cx2p hr rfl (pa_cons (pv 0) (pa_cons (pe_slice sl_list (pv 1) po_none (po_some (pe_un un_neg pe_int))) (pa_cons (pv 2) pa_nil)))) (nomark _)))), ?_⟩
  obtain ⟨hl, hz, q⟩ := h
  walk_at "p"
  refine rd_sl (SqL.of hl) (fun p1 H1 n1 e1 s1 _ => ?_)
  have ed : cutV ((ns ++ [c]).map V.int) none (some (-1)) = ns.map V.int := by
   rw [cut_last, List.map_append]
   exact List.dropLast_concat
  rw [ed] at e1
  walk_at "p"
  refine ⟨kind, p1, ns, key, rfl, e1, hz, fun p2 H2 n2 e2 s2 => ?_⟩
  refine rd_eqI (s2 _ _ (s1 _ _ hl)) e2 ?_
  have ee : decide (ns ++ [c] = ns ++ [codeI key (kind :: ns)]) = decide (c = codeI key (kind :: ns)) := by simp
  rw [ee]
  exact q H2 (s1.trans s2)
noncomputable def rowsI (rs : List (Addr × List Int)) : List Int := rs.flatMap fun r => (r.2.length : Int) :: r.2
noncomputable def spxl (A : Adr) : Sp := fun vs H Q _ => ∃ (n : Int) (l : Addr) (rs : List (Addr × List Int)), vs = [.int n, .ref l] ∧ H l = some (.lst (rs.map fun r => V.ref r.1)) ∧ (∀ r ∈ rs, H r.1 = some (.lst (r.2.map V.int))) ∧ (rowsI rs).length < 1000000 ∧
 ∀ p H', H p = none → H' p = some (.lst ((n :: rowsI rs).map V.int)) → Same H H' → Q (.ref p) H'
theorem cxl (P : Program) (w : World) (base : Heap) (T : Txt K mg A) : Cal P w K mg base 1 "with_rows" ["number", "rows"] (spxl A) := by
 obtain ⟨f, fd, F, hm, b⟩ := T.fxl
 refine ⟨f, fd, F.ok (k := 0) scxl (fun vs H Q E h => ?_) (fun cdv A' outer s H vs Q E hr h => ?_), hm, F.kp, b⟩
 ·obtain ⟨_, _, _, rfl, _⟩ := h
  rfl
 ·obtain ⟨n, l, rs, rfl, h⟩ := h
  refine ⟨_, (pss_cons (pst 2 scxl.nd (pe_lst (pa_cons (pv 0) pa_nil)))
   (pss_cons (ps_for PassesOwn.never rfl (pi_list (pv 1)) (pgn 3 scxl.nd)
    (pss_cons (ps_expr (pe_bm PySem.F.plainAttrs_list PySem.F.slot_list_append PySem.F.type_list_append mt_append (pv 2) (pa_cons (pe_callB call_len_seq (by rfl) T.b_len (by decide +kernel) (pa_cons (pv 3) pa_nil)) pa_nil)))
   (pss_one (ps_expr (pe_bm PySem.F.plainAttrs_list PySem.F.slot_list_extend PySem.F.type_list_extend mt_extend (pv 2) (pa_cons (pv 3) pa_nil))))))
   (pss_one (ps_ret (pv 2))))), ?_⟩
  obtain ⟨hl, hr', hz, q⟩ := h
  walk_at "p"
  refine nl (fun p1 H1 n1 e1 s1 _ => ?_)
  walk_at "p"
  have nl : l ≠ p1 := fun z => by rw [z, n1] at hl; cases hl
  refine rd_for (SqL.of (s1 _ _ hl)) (fun i σ H' => (∃ v, σ = [some (.int n), some (.ref l), some (.ref p1), v]) ∧ H' p1 = some (.lst ((n :: rowsI (rs.take i)).map V.int)) ∧ ∀ b, b ≠ p1 → H' b = H1 b) ⟨⟨none, rfl⟩, e1, fun _ _ => rfl⟩
   (fun i σ H' _ ⟨_, _, k⟩ => SqL.of (by rw [k _ nl]; exact s1 _ _ hl)) ?_ ?_
  ·rintro i x σ H' hi ⟨⟨v, rfl⟩, hp, k⟩
   obtain ⟨y, hy, rfl⟩ := map_ref hi
   have ym := List.mem_of_getElem? hy
   have hy1 : H1 y.1 = _ := s1 _ _ (hr' y ym)
   have ny : y.1 ≠ p1 := fun z => by have := hr' y ym; rw [z, n1] at this; cases this
   have et : rowsI (rs.take (i + 1)) = rowsI (rs.take i) ++ ((y.2.length : Int) :: y.2) := by
    unfold rowsI
    rw [take_snoc hy, List.flatMap_append]; simp
   have hle : (rowsI (rs.take (i + 1))).length ≤ (rowsI rs).length := by
    have := List.take_append_drop (i + 1) rs
    have e2 : rowsI rs = rowsI (rs.take (i + 1)) ++ rowsI (rs.drop (i + 1)) := by
     unfold rowsI; rw [← List.flatMap_append, this]
    rw [e2, List.length_append]; omega
   rw [et, List.length_append, List.length_cons] at hle
   show tSeq _ _ _ _ _
   walk_at "p"
   refine rd_bmL hp ?_
   walk_at "p"
   refine ⟨y.1, _, rfl, .inl (SqL.of (show H' y.1 = _ by rw [k _ ny]; exact hy1)), ?_⟩
   walk_at "p"
   refine do_append hp (by rw [List.length_map, List.length_cons]; show _ < 2 ^ 24; omega) (fun H2 g2 k2 => ?_)
   walk_at "p"
   refine rd_bmL g2 ?_
   walk_at "p"
   refine do_extend g2 (show H2 y.1 = some (.lst (y.2.map V.int)) by rw [k2 _ ny, k _ ny]; exact hy1) (by rw [List.length_append, List.length_map, List.length_map, List.length_cons]; show _ ≤ 2 ^ 24; simp only [List.length_cons, List.length_nil]; omega) (fun H3 g3 k3 => ?_)
   refine ⟨⟨_, rfl⟩, ?_, fun b hb => by rw [k3 b hb, k2 b hb, k b hb]⟩
   rw [g3, et]
   simp
  ·rintro σ H' ⟨⟨v, rfl⟩, hp, k⟩
   walk_at "p"
   rw [List.length_map, List.take_length] at hp
   exact q p1 H' n1 hp fun b o e => by rw [k b (ne_of_none e n1)]; exact s1 b o e
end
theorem metRef_cases (D : DS) (n : Int) : (metRef D n = -1 ∧ ∀ f, Vbpoac.onMeter D.st n f = Vbpoac.no D.st 1) ∨ (metRef D n = -4 ∧ ∀ f, Vbpoac.onMeter D.st n f = Vbpoac.no D.st 4) ∨
  (metRef D n = 0 ∧ ∃ i x, n = ((i + 1 : Nat) : Int) ∧ D.meters[i]? = some x ∧ x.m.gone = false ∧ findM D n = some x ∧ ∀ f, Vbpoac.onMeter D.st n f = f (i + 1) x.m) := by
 unfold metRef Vbpoac.onMeter
 by_cases h : 1 ≤ n ∧ n ≤ 10
 ·rw [if_neg (fun z => z h)]
  obtain ⟨i, rfl⟩ : ∃ i : Nat, n = ((i + 1 : Nat) : Int) := ⟨(n - 1).toNat, by omega⟩
  have e1 : Vbpoac.meterAt D.st (((i + 1 : Nat) : Int).toNat) = (D.meters[i]?).map (·.m) := by
   show (if _ = 0 then none else _) = _
   rw [if_neg (by omega)]
   show (D.meters.map (·.m))[_]? = _
   rw [List.getElem?_map]
   congr 2
  have e2 : (((i + 1 : Nat) : Int) - 1).toNat = i := by omega
  cases hx : D.meters[i]? with
  | none =>
   have ef : findM D ((i + 1 : Nat) : Int) = none := by
    unfold findM
    rw [e2, hx]
    simp
   refine .inr (.inl ⟨by rw [ef]; rfl, fun f => ?_⟩)
   rw [if_neg (inside_yes h), e1, hx]; rfl
  | some x =>
   have hlt : i < D.meters.length := (List.getElem?_eq_some_iff.mp hx).1
   have ef : findM D ((i + 1 : Nat) : Int) = if x.m.gone = true then none else some x := by
    unfold findM
    rw [if_pos ⟨h.1, by omega⟩, e2, hx]
   cases hg : x.m.gone with
   | true =>
    rw [hg, if_pos rfl] at ef
    refine .inr (.inl ⟨by rw [ef]; rfl, fun f => ?_⟩)
    rw [if_neg (inside_yes h), e1, hx]
    show (if x.m.gone = true then _ else _) = _
    rw [hg, if_pos rfl]
   | false =>
    rw [hg, if_neg Bool.false_ne_true] at ef
    refine .inr (.inr ⟨by rw [ef]; rfl, i, x, rfl, hx, hg, ef, fun f => ?_⟩)
    rw [if_neg (inside_yes h), e1, hx]
    show (if x.m.gone = true then _ else _) = _
    rw [hg, if_neg Bool.false_ne_true]
    rfl
 ·exact .inl ⟨if_pos h, fun f => if_pos (inside_no h)⟩
theorem stored_st (D : DS) (i : Nat) (x : DM) (m : Vbpoac.Meter) : (stored D i x m).st = Vbpoac.setMeter D.st (i + 1) m := by
 unfold stored DS.st Vbpoac.setMeter
 simp [List.map_set]
theorem Ans.rows {A : Adr} {D D' : DS} {H H1 H' : Hp} {p : Addr} {n : Nat} {rows : List (List Int)} {rs : List (Addr × List Int)} (h : WAt A H1 D') (f : Fr A D H D' H1) (w : D'.w = D.w) (hp : H1 p = none)
  (h1 : H' p = some (.lst (((n : Int) :: rowsI rs).map V.int))) (s : Same H1 H') (er : rows = rs.map (·.2)) : Ans A D H D' H' p (Vbpoac.yes D'.st n rows) := by
 refine ⟨rfl, w, h.same s, f.trans (Fr.same s), ?_, f.live p hp, h.fresh hp⟩
 rw [h1]
 have e : (rows.flatMap fun r => (r.length : Int) :: r) = rowsI rs := by
  rw [er]
  unfold rowsI
  rw [List.flatMap_map]
 show some (HO.lst (((n : Int) :: rowsI rs).map V.int)) = some (HO.lst (((n : Int) :: (rows.flatMap fun r => (r.length : Int) :: r)).map V.int))
 rw [e]
noncomputable def bankI (b : Vbpoac.Bank) : List Int := [b.gen, b.rising, b.falling, b.piece, b.refills]
theorem Ans.mk' {A : Adr} {D D' : DS} {H H' : Hp} {p : Addr} {r r' : Vbpoac.State × Vbpoac.Ans} (h : Ans A D H D' H' p r) (e : r' = r) : Ans A D H D' H' p r' := e ▸ h
section
variable (S : Vbpoac.State)
theorem step_stop (m : Int) : Vbpoac.step S (.stopped m) = Vbpoac.onMeter S m fun n x => if x.stopped.isSome = true then Vbpoac.no S 5 else Vbpoac.yes (Vbpoac.setMeter S n { x with stopped := some S.day }) S.day [] := rfl
theorem step_boot (m : Int) : Vbpoac.step S (.boot m) = Vbpoac.onMeter S m fun n x => if x.on = true then Vbpoac.no S 5 else Vbpoac.yes (Vbpoac.setMeter S n { x with on := true }) 0 [Vbpoac.bankRow (Vbpoac.current x)] := rfl
theorem step_withdraw (m : Int) : Vbpoac.step S (.withdraw m) = Vbpoac.onMeter S m fun n x => if x.stopped.isNone = true then Vbpoac.no S 6
 else if (Vbpoac.GREAT : Int) < Vbpoac.balance S x.account + (((Vbpoac.current x).falling + Vbpoac.nsum ((Vbpoac.granted S n).drop (Vbpoac.current x).refills) : Nat) : Int) then Vbpoac.no S 8
  else Vbpoac.yes (Vbpoac.wrote (Vbpoac.setMeter S n { x with gone := true, on := false }) x.account 4 ((Vbpoac.current x).falling + Vbpoac.nsum ((Vbpoac.granted S n).drop (Vbpoac.current x).refills)) n) ((Vbpoac.current x).falling + Vbpoac.nsum ((Vbpoac.granted S n).drop (Vbpoac.current x).refills)) [Vbpoac.bankRow (Vbpoac.current x)] := rfl
end
theorem gr_eq (D : DS) (n : Nat) : grL (D.journal.map (·.2)) (n : Int) = (Vbpoac.granted D.st n).map fun (k : Nat) => (k : Int) := by
 unfold grL Vbpoac.granted
 rw [List.filter_filter, List.map_map]
 have e : (fun (e : Vbpoac.Entry) => (decide ((e.what : Int) = (n : Int)) && decide ((e.kind : Int) = 3))) = fun e => e.kind == 3 && e.what == n := by
  funext e
  have h1 : decide ((e.what : Int) = (n : Int)) = (e.what == n) := by
   by_cases h : e.what = n
   ·simp [h]
   ·have h' : ¬ (e.what : Int) = (n : Int) := by omega
    simp [h, h']
  have h2 : decide ((e.kind : Int) = 3) = (e.kind == 3) := by
   by_cases h : e.kind = 3
   ·simp [h]
   ·have h' : ¬ (e.kind : Int) = 3 := by omega
    simp [h, h']
  rw [h1, h2, Bool.and_comm]
 rw [e]; rfl
theorem sum_nsum : ∀ l : List Nat, (l.map fun (k : Nat) => (k : Int)).sum = ((Vbpoac.nsum l : Nat) : Int)
 | [] => rfl
 | a :: l => by
  rw [List.map_cons, List.sum_cons, sum_nsum l]
  show (a : Int) + _ = ((a + Vbpoac.nsum l : Nat) : Int)
  omega
theorem jlen {c : Nat} {D : DS} (hG : Good c D.st) (hc : c ≤ 1000) : D.journal.length < 10000 := by
 have := hG.jl
 have h2 : D.st.journal.length = D.journal.length := List.length_map _
 omega
section
variable {P : Program} {w : World} {K : PySem.W.Frag} {mg : Str → Option Value} {base : Heap} {A : Adr}
noncomputable abbrev spx4a (A : Adr) : Sp := spC1 A .stopped
theorem cx4a (P : Program) (w : World) (base : Heap) (T : Txt K mg A) : Cal P w K mg base 4 "stop_meter" ["world", "number"] (spx4a A) := by
 have Mx22 := cx22 P w base T
 have Mx24 := cx24 P w base T
 obtain ⟨f, fd, F, hm, b⟩ := T.fx4a
 refine ⟨f, fd, F.ok (k := 3) scx4a (fun vs H Q E h => ?_) (fun cdv A' outer s H vs Q E hr h => ?_), hm, F.kp, b⟩
 ·obtain ⟨_, _, _, rfl, _⟩ := h
  rfl
 ·obtain ⟨c, D, n, rfl, h⟩ := h
  refine ⟨_, (pss_cons (pst 2 scx4a.nd (pmt (pv 0) T.clx1y Mx24 hr (pa_cons (pv 1) pa_nil)))
   (pss_cons (ps_if (pt_cmpR op_lt (pv 2) pe_int (nomark _)) (pss_one (ps_ret (pe_lst (pa_cons (pv 2) pa_nil)))) pss_nil)
   (pss_cons (pst 3 scx4a.nd (pmt (pv 0) T.clx1y Mx22 hr (pa_cons (pv 1) pa_nil)))
   (pss_cons (ps_if (pt_cmp (pc_notN (pfl (pv 3)))) (pss_one (ps_ret (pe_lst (pa_cons (pgi T.gxh) pa_nil)))) pss_nil)
   (pss_cons (psf (pv 3) (pfl (pv 0)))
   (pss_one (ps_ret (pe_lst (pa_cons (pfl (pv 0)) pa_nil))))))))), ?_⟩
  obtain ⟨hW, hG, hc, q⟩ := h
  obtain ⟨dw, hw⟩ := hW.wo
  walk_at "p"
  refine rd_met hw rfl ?_
  walk_at "p"
  refine ⟨D, n, rfl, hW, ?_⟩
  walk_at "p"
  rcases metRef_cases D n with ⟨er, es⟩ | ⟨er, es⟩ | ⟨er, i, x, rfl, hx, hg, ef, es⟩
  ·refine ite_d (fun _ => ?_) (fun z => absurd (show metRef D n < 0 by omega) z)
   walk_at "p"
   refine nl (fun p H1 hp e1 s1 k1 => q D H1 p ?_)
   rw [er] at e1
   exact (Ans.no hW hp e1 s1 k1).mk' ((step_stop _ _).trans (es _))
  ·refine ite_d (fun _ => ?_) (fun z => absurd (show metRef D n < 0 by omega) z)
   walk_at "p"
   refine nl (fun p H1 hp e1 s1 k1 => q D H1 p ?_)
   rw [er] at e1
   exact (Ans.no hW hp e1 s1 k1).mk' ((step_stop _ _).trans (es _))
  ·refine ite_d (fun z => absurd z (show ¬ metRef D _ < 0 by omega)) (fun _ => ?_)
   have e0 := (step_stop D.st ((i + 1 : Nat) : Int)).trans (es _)
   obtain ⟨⟨dx, hm⟩, _⟩ := hW.mo hx
   walk_at "p"
   refine rd_met hw rfl ?_
   walk_at "p"
   refine ⟨D, _, rfl, hW, ?_⟩
   rw [ef]
   walk_at "p"
   refine T.rMeter hm ?_
   walk_at "p"
   cases hs : x.m.stopped with
   | some d =>
    refine ite_nd (fun _ => ?_) (fun z => by cases z)
    walk_at "p"
    refine nl (fun p H1 hp e1 s1 k1 => q D H1 p ?_)
    exact (Ans.no hW hp e1 s1 k1).mk' (e0.trans (if_pos (by rw [hs]; rfl)))
   | none =>
    refine ite_nd (fun z => absurd rfl z) (fun _ => ?_)
    walk_at "p"
    refine T.rWorld hw ?_
    walk_at "p"
    refine wr_fl hm T.clx1u (T.nx1u _ (by decide +kernel)) (by show 7 < 1000; decide) (fun H1 h1 k1 => ?_)
    obtain ⟨w1, f1⟩ := hW.meter (H' := H1) hx { x.m with stopped := some D.day } rfl rfl ⟨dx, h1⟩ fun b u hb hn => by rw [k1 b hn]; exact hb
    obtain ⟨dw1, hw1⟩ := w1.wo
    walk_at "p"
    refine T.rWorld hw1 ?_
    walk_at "p"
    refine nl (fun p H2 hp e2 s2 k2 => q (stored D i x { x.m with stopped := some D.day }) H2 p ?_)
    refine (Ans.num (D' := stored D i x { x.m with stopped := some D.day }) w1 f1 rfl hp e2 s2).mk' (e0.trans ?_)
    rw [if_neg (by rw [hs]; simp), stored_st]
    rfl
noncomputable abbrev spx4f (A : Adr) : Sp := spC1 A .boot
theorem cx4f (P : Program) (w : World) (base : Heap) (T : Txt K mg A) : Cal P w K mg base 4 "boot" ["world", "number"] (spx4f A) := by
 have Mx1o := cx1o P w base T
 have Mx22 := cx22 P w base T
 have Mx24 := cx24 P w base T
 have Cxl := cxl P w base T
 obtain ⟨f, fd, F, hm, b⟩ := T.fx4f
 refine ⟨f, fd, F.ok (k := 3) scx4f (fun vs H Q E h => ?_) (fun cdv A' outer s H vs Q E hr h => ?_), hm, F.kp, b⟩
 ·obtain ⟨_, _, _, rfl, _⟩ := h
  rfl
 ·obtain ⟨c, D, n, rfl, h⟩ := h
  refine ⟨_, (pss_cons (pst 2 scx4f.nd (pmt (pv 0) T.clx1y Mx24 hr (pa_cons (pv 1) pa_nil)))
   (pss_cons (ps_if (pt_cmpR op_lt (pv 2) pe_int (nomark _)) (pss_one (ps_ret (pe_lst (pa_cons (pv 2) pa_nil)))) pss_nil)
   (pss_cons (pst 3 scx4f.nd (pmt (pv 0) T.clx1y Mx22 hr (pa_cons (pv 1) pa_nil)))
   (pss_cons (ps_if (ptt (pfl (pv 3))) (pss_one (ps_ret (pe_lst (pa_cons (pgi T.gxh) pa_nil)))) pss_nil)
   (pss_cons (psf (pv 3) pe_bl)
   (pss_one (ps_ret (pcl Cxl hr rfl (pa_cons pe_int (pa_cons (pe_lst (pa_cons (pmt0 (pfl (pv 3)) T.clx1l Mx1o hr) pa_nil)) pa_nil)))))))))), ?_⟩
  obtain ⟨hW, hG, hc, q⟩ := h
  obtain ⟨dw, hw⟩ := hW.wo
  walk_at "p"
  refine rd_met hw rfl ?_
  walk_at "p"
  refine ⟨D, n, rfl, hW, ?_⟩
  walk_at "p"
  rcases metRef_cases D n with ⟨er, es⟩ | ⟨er, es⟩ | ⟨er, i, x, rfl, hx, hg, ef, es⟩
  ·refine ite_d (fun _ => ?_) (fun z => absurd (show metRef D n < 0 by omega) z)
   walk_at "p"
   refine nl (fun p H1 hp e1 s1 k1 => q D H1 p ?_)
   rw [er] at e1
   exact (Ans.no hW hp e1 s1 k1).mk' ((step_boot _ _).trans (es _))
  ·refine ite_d (fun _ => ?_) (fun z => absurd (show metRef D n < 0 by omega) z)
   walk_at "p"
   refine nl (fun p H1 hp e1 s1 k1 => q D H1 p ?_)
   rw [er] at e1
   exact (Ans.no hW hp e1 s1 k1).mk' ((step_boot _ _).trans (es _))
  ·refine ite_d (fun z => absurd z (show ¬ metRef D _ < 0 by omega)) (fun _ => ?_)
   have e0 := (step_boot D.st ((i + 1 : Nat) : Int)).trans (es _)
   obtain ⟨⟨dx, hm⟩, _⟩ := hW.mo hx
   walk_at "p"
   refine rd_met hw rfl ?_
   walk_at "p"
   refine ⟨D, _, rfl, hW, ?_⟩
   rw [ef]
   walk_at "p"
   refine T.rMeter hm ?_
   walk_at "p"
   refine ite_b (fun on => ?_) (fun on => ?_)
   ·walk_at "p"
    refine nl (fun p H1 hp e1 s1 k1 => q D H1 p ?_)
    exact (Ans.no hW hp e1 s1 k1).mk' (e0.trans (if_pos on))
   ·walk_at "p"
    refine wr_fl hm T.clx1u (T.nx1u _ (by decide +kernel)) (by show 7 < 1000; decide) (fun H1 h1 k1 => ?_)
    obtain ⟨w1, f1⟩ := hW.meter (H' := H1) hx { x.m with on := true } rfl rfl ⟨dx, h1⟩ fun b u hb hn => by rw [k1 b hn]; exact hb
    have hx1 : (stored D i x { x.m with on := true }).meters[i]? = some { x with m := { x.m with on := true } } := List.getElem?_set_self (List.getElem?_eq_some_iff.mp hx).1
    obtain ⟨⟨dx1, hm1⟩, ⟨de1, he1⟩, _⟩ := w1.mo hx1
    walk_at "p"
    refine T.rMeter hm1 ?_
    refine rd_met he1 rfl ?_
    walk_at "p"
    refine ⟨stored D i x { x.m with on := true }, i, { x with m := { x.m with on := true } }, rfl, w1, hx1, ?_⟩
    have hcur := cur_at w1 hx1
    walk_at "p"
    refine nl (fun l2 H2 n2 e2 s2 _ => ?_)
    walk_at "p"
    refine ⟨0, l2, [(curA { x with m := { x.m with on := true } }, bankI (Vbpoac.current x.m))], rfl, e2, fun r hr' => ?_, (by show 6 < 1000000; decide), fun p H3 hp e3 s3 => q (stored D i x { x.m with on := true }) H3 p ?_⟩
    ·simp only [List.mem_singleton] at hr'
     subst hr'
     exact s2 _ _ hcur
    ·refine (Ans.rows (n := 0) (rows := [Vbpoac.bankRow (Vbpoac.current x.m)]) (D' := stored D i x { x.m with on := true }) (H1 := H2) (w1.same s2) (f1.trans (Fr.same s2)) rfl hp e3 s3 rfl).mk' (e0.trans ?_)
     rw [if_neg (by rw [on]; exact Bool.false_ne_true), stored_st]
noncomputable def spx4b (A : Adr) : Sp := fun vs H Q _ => ∃ (D : DS) (i : Nat) (x : DM), vs = [.ref D.w, .ref x.a] ∧ WAt A H D ∧ D.meters[i]? = some x ∧ D.journal.length < 10000 ∧
 ∀ H', Same H H' → Q (.int ((Vbpoac.current x.m).falling + Vbpoac.nsum ((Vbpoac.granted D.st (i + 1)).drop (Vbpoac.current x.m).refills) : Nat)) H'
theorem cx4b (P : Program) (w : World) (base : Heap) (T : Txt K mg A) : Cal P w K mg base 3 "left_in" ["world", "meter"] (spx4b A) := by
 have Mxc := cxc P w base T
 have Mx1o := cx1o P w base T
 obtain ⟨f, fd, F, hm, b⟩ := T.fx4b
 refine ⟨f, fd, F.ok (k := 2) scx4b (fun vs H Q E h => ?_) (fun cdv A' outer s H vs Q E hr h => ?_), hm, F.kp, b⟩
 ·obtain ⟨_, _, _, rfl, _⟩ := h
  rfl
 ·obtain ⟨D, i, x, rfl, h⟩ := h
  refine ⟨_, (pss_cons (pst 2 scx4b.nd (pmt0 (pfl (pv 1)) T.clx1l Mx1o hr))
   (pss_one (ps_ret (pe_op op_add (pe_ix ix_list (pv 2) (pgi T.gx1h) (fun _ _ => rfl)) (pe_callB (cr_sum rfl) (by rfl) T.b_sum (by decide +kernel) (pa_cons (pe_slice sl_list (pmt (pfl (pv 0)) T.clx7 Mxc hr (pa_cons (pfl (pv 1)) pa_nil)) (po_some (pe_ix ix_list (pv 2) (pgi T.gx1j) (fun _ _ => rfl))) po_none) pa_nil)))))), ?_⟩
  obtain ⟨hW, hx, hz, q⟩ := h
  obtain ⟨dw, hw⟩ := hW.wo
  obtain ⟨dj, hj⟩ := hW.jo
  obtain ⟨⟨dx, hm⟩, ⟨de, he⟩, _⟩ := hW.mo hx
  have hcur := cur_at hW hx
  walk_at "p"
  refine T.rMeter hm ?_
  refine rd_met he rfl ?_
  walk_at "p"
  refine ⟨D, i, x, rfl, hW, hx, ?_⟩
  walk_at "p"
  refine rd_ix 2 hcur ?_
  walk_at "p"
  refine T.rWorld hw ?_
  refine rd_met hj rfl ?_
  walk_at "p"
  refine T.rMeter hm ?_
  walk_at "p"
  refine ⟨D, ((i + 1 : Nat) : Int), rfl, hW, hz, fun l1 H1 n1 e1 s1 => ?_⟩
  walk_at "p"
  refine rd_ix 4 (s1 _ _ hcur) ?_
  walk_at "p"
  refine rd_sl (SqL.of e1) (fun l2 H2 n2 e2 s2 _ => ?_)
  rw [cut_from (by omega), gr_eq, List.map_map, ← List.map_drop] at e2
  walk_at "p"
  refine ⟨l2, ((Vbpoac.granted D.st (i + 1)).drop (Vbpoac.current x.m).refills).map fun (k : Nat) => (k : Int), rfl, SqL.of (by rw [e2, List.map_map]; rfl), ?_⟩
  rw [sum_nsum]
  walk_at "p"
  exact q H2 (s1.trans s2)
noncomputable abbrev spx4c (A : Adr) : Sp := spC1 A .withdraw
theorem cx4c (P : Program) (w : World) (base : Heap) (T : Txt K mg A) : Cal P w K mg base 5 "withdraw" ["world", "number"] (spx4c A) := by
 have Mx1o := cx1o P w base T
 have Mx26 := cx26 P w base T
 have Mx22 := cx22 P w base T
 have Mx25 := cx25 P w base T
 have Mx24 := cx24 P w base T
 have Cx4b := cx4b P w base T
 have Cxl := cxl P w base T
 obtain ⟨f, fd, F, hm, b⟩ := T.fx4c
 refine ⟨f, fd, F.ok (k := 4) scx4c (fun vs H Q E h => ?_) (fun cdv A' outer s H vs Q E hr h => ?_), hm, F.kp, b⟩
 ·obtain ⟨_, _, _, rfl, _⟩ := h
  rfl
 ·obtain ⟨c, D, n, rfl, h⟩ := h
  refine ⟨_, (pss_cons (pst 2 scx4c.nd (pmt (pv 0) T.clx1y Mx24 hr (pa_cons (pv 1) pa_nil)))
   (pss_cons (ps_if (pt_cmpR op_lt (pv 2) pe_int (nomark _)) (pss_one (ps_ret (pe_lst (pa_cons (pv 2) pa_nil)))) pss_nil)
   (pss_cons (pst 3 scx4c.nd (pmt (pv 0) T.clx1y Mx22 hr (pa_cons (pv 1) pa_nil)))
   (pss_cons (ps_if (pt_cmp (pc_isN (pfl (pv 3)))) (pss_one (ps_ret (pe_lst (pa_cons (pgi T.gxi) pa_nil)))) pss_nil)
   (pss_cons (pst 4 scx4c.nd (pcl Cx4b hr rfl (pa_cons (pv 0) (pa_cons (pv 3) pa_nil))))
   (pss_cons (ps_if (ptt (pmt (pv 0) T.clx1y Mx25 hr (pa_cons (pfl (pv 3)) (pa_cons (pv 4) pa_nil)))) (pss_one (ps_ret (pe_lst (pa_cons (pgi T.gxk) pa_nil)))) pss_nil)
   (pss_cons (psf (pv 3) pe_bl)
   (pss_cons (psf (pv 3) pe_bl)
   (pss_cons (ps_expr (pmt (pv 0) T.clx1y Mx26 hr (pa_cons (pfl (pv 3)) (pa_cons (pgi T.gx3) (pa_cons (pv 4) (pa_cons (pv 1) pa_nil))))))
   (pss_one (ps_ret (pcl Cxl hr rfl (pa_cons (pv 4) (pa_cons (pe_lst (pa_cons (pmt0 (pfl (pv 3)) T.clx1l Mx1o hr) pa_nil)) pa_nil)))))))))))))), ?_⟩
  obtain ⟨hW, hG, hc, q⟩ := h
  obtain ⟨dw, hw⟩ := hW.wo
  walk_at "p"
  refine rd_met hw rfl ?_
  walk_at "p"
  refine ⟨D, n, rfl, hW, ?_⟩
  walk_at "p"
  rcases metRef_cases D n with ⟨er, es⟩ | ⟨er, es⟩ | ⟨er, i, x, rfl, hx, hg, ef, es⟩
  ·refine ite_d (fun _ => ?_) (fun z => absurd (show metRef D n < 0 by omega) z)
   walk_at "p"
   refine nl (fun p H1 hp e1 s1 k1 => q D H1 p ?_)
   rw [er] at e1
   exact (Ans.no hW hp e1 s1 k1).mk' ((step_withdraw _ _).trans (es _))
  ·refine ite_d (fun _ => ?_) (fun z => absurd (show metRef D n < 0 by omega) z)
   walk_at "p"
   refine nl (fun p H1 hp e1 s1 k1 => q D H1 p ?_)
   rw [er] at e1
   exact (Ans.no hW hp e1 s1 k1).mk' ((step_withdraw _ _).trans (es _))
  ·refine ite_d (fun z => absurd z (show ¬ metRef D _ < 0 by omega)) (fun _ => ?_)
   have e0 := (step_withdraw D.st ((i + 1 : Nat) : Int)).trans (es _)
   obtain ⟨⟨dx, hm⟩, ⟨de, he⟩, _⟩ := hW.mo hx
   have hz := jlen hG hc
   walk_at "p"
   refine rd_met hw rfl ?_
   walk_at "p"
   refine ⟨D, _, rfl, hW, ?_⟩
   rw [ef]
   walk_at "p"
   refine T.rMeter hm ?_
   walk_at "p"
   cases hs : x.m.stopped with
   | none =>
    refine ite_d (fun _ => ?_) (fun z => absurd rfl z)
    walk_at "p"
    refine nl (fun p H1 hp e1 s1 k1 => q D H1 p ?_)
    exact (Ans.no hW hp e1 s1 k1).mk' (e0.trans (if_pos (by rw [hs]; rfl)))
   | some d =>
    refine ite_d (fun z => by cases z) (fun _ => ?_)
    have e1 := e0.trans (if_neg (by rw [hs]; simp))
    walk_at "p"
    refine ⟨D, i, x, rfl, hW, hx, hz, fun H1 s1 => ?_⟩
    have hW1 := hW.same s1
    obtain ⟨dw1, hw1⟩ := hW1.wo
    walk_at "p"
    refine rd_met hw1 rfl ?_
    walk_at "p"
    refine T.rMeter (s1 _ _ hm) ?_
    walk_at "p"
    refine ⟨D, (x.m.account : Int), _, rfl, hW1, hz, fun H1b s1b => ?_⟩
    replace s1 := s1.trans s1b
    replace hW1 := hW.same s1
    clear hw1
    obtain ⟨dw1, hw1⟩ := hW1.wo
    have hb := bal_eq D x.m.account
    walk_at "p"
    refine ite_d (fun n8 => ?_) (fun n8 => ?_)
    ·walk_at "p"
     refine nl (fun p H2 hp e2 s2 k2 => q D H2 p ?_)
     have a := (Ans.no hW1 hp e2 s2 k2)
     exact (Ans.mk (D' := D) a.st rfl a.at_ ((Fr.same s1).trans a.fr) a.ls (s1.free hp) a.out).mk' (e1.trans (if_pos (by rw [hb]; exact n8)))
    ·have e2 := e1.trans (if_neg (by rw [hb]; exact n8))
     walk_at "p"
     refine wr_fl (s1 _ _ hm) T.clx1u (T.nx1u _ (by decide +kernel)) (by show 7 < 1000; decide) (fun H2 h2 k2 => ?_)
     walk_at "p"
     refine wr_fl h2 T.clx1u (T.nx1u _ (by decide +kernel)) (by show 7 < 1000; decide) (fun H3 h3 k3 => ?_)
     obtain ⟨w3, f3⟩ := hW1.meter (H' := H3) hx { x.m with gone := true, on := false } rfl rfl ⟨dx, h3⟩ fun b u hb hn => by rw [k3 b hn, k2 b hn]; exact hb
     have hx3 : (stored D i x { x.m with gone := true, on := false }).meters[i]? = some { x with m := { x.m with gone := true, on := false } } := List.getElem?_set_self (List.getElem?_eq_some_iff.mp hx).1
     obtain ⟨dw3, hw3⟩ := w3.wo
     walk_at "p"
     refine rd_met hw3 rfl ?_
     walk_at "p"
     refine T.rMeter h3 ?_
     walk_at "p"
     refine ⟨stored D i x { x.m with gone := true, on := false }, x.m.account, 4, _, i + 1, rfl, w3, hz, fun p4 H4 w4 f4 => ?_⟩
     obtain ⟨⟨dx4, hm4⟩, ⟨de4, he4⟩, _⟩ := w4.mo hx3
     have hcur := cur_at w4 hx3
     walk_at "p"
     refine T.rMeter hm4 ?_
     refine rd_met he4 rfl ?_
     walk_at "p"
     refine ⟨_, i, { x with m := { x.m with gone := true, on := false } }, rfl, w4, hx3, ?_⟩
     walk_at "p"
     refine nl (fun l5 H5 n5 e5 s5 _ => ?_)
     walk_at "p"
     refine ⟨_, l5, [(curA { x with m := { x.m with gone := true, on := false } }, bankI (Vbpoac.current x.m))], rfl, e5, fun r hr' => ?_, (by show 6 < 1000000; decide), fun p H6 hp e6 s6 => ?_⟩
     ·simp only [List.mem_singleton] at hr'
      subst hr'
      exact s5 _ _ hcur
     ·refine q _ H6 p ((Ans.rows (rows := [Vbpoac.bankRow (Vbpoac.current x.m)]) (H1 := H5) (w4.same s5) ((((Fr.same s1).trans f3).trans f4).trans (Fr.same s5)) rfl hp e6 s6 rfl).mk' (e2.trans ?_))
      have est : (stored D i x { x.m with gone := true, on := false }).st = Vbpoac.setMeter D.st (i + 1) { x.m with gone := true, on := false } := stored_st _ _ _ _
      congr 1
      unfold Vbpoac.wrote
      rw [← est]
      simp [DS.st, stored]
end
section
variable {A : Adr} {H H' : Hp} {D : DS} {p mem b1 b2 : Addr}
theorem insNe {C dx C' dx' : Addr} {n : Nat} {m : Vbpoac.Meter} {mem b1 b2 : Addr} : HO.ins C dx (fM n mem m) ≠ HO.ins C' dx' (fMe b1 b2) := by
 intro z
 injection z with _ _ z
 have := congrArg List.length z
 exact absurd this (by show ¬ 7 = 2; decide)
theorem WAt.newMeter (h : WAt A H D) (m : Vbpoac.Meter) (hp : H p = none) (hm : H mem = none) (h1 : H b1 = none) (h2 : H b2 = none) (n12 : b1 ≠ b2) (a0 : H' D.ml = some (.lst (D.meters.map (fun x => V.ref x.a) ++ [V.ref p])))
  (a1 : At H' p (.ins A.M (fM (D.meters.length + 1) mem m))) (a2 : At H' mem (.ins A.Me (fMe b1 b2))) (a3 : H' b1 = some (.lst (bankV m.first))) (a4 : H' b2 = some (.lst (bankV m.second))) (hk : ∀ b u, H b = some u → b ≠ D.ml → H' b = some u) :
  WAt A H' { D with meters := D.meters ++ [⟨p, mem, b1, b2, m⟩] } ∧ Fr A D H { D with meters := D.meters ++ [⟨p, mem, b1, b2, m⟩] } H' := by
 obtain ⟨d1, g1⟩ := id a1
 obtain ⟨d2, g2⟩ := id a2
 have npm : p ≠ mem := ne_of g1 g2 insNe
 have np1 : p ≠ b1 := ne_of g1 a3 (by intro z; cases z)
 have np2 : p ≠ b2 := ne_of g1 a4 (by intro z; cases z)
 have nm1 : mem ≠ b1 := ne_of g2 a3 (by intro z; cases z)
 have nm2 : mem ≠ b2 := ne_of g2 a4 (by intro z; cases z)
 have eL : (D.meters ++ [(⟨p, mem, b1, b2, m⟩ : DM)])[D.meters.length]? = some ⟨p, mem, b1, b2, m⟩ := by simp
 have cases4 : ∀ r q, ({ D with meters := D.meters ++ [⟨p, mem, b1, b2, m⟩] } : DS).at_ A r = some q → (r = .m D.meters.length ∨ r = .me D.meters.length ∨ r = .b1 D.meters.length ∨ r = .b2 D.meters.length) →
   (r = .m D.meters.length ∧ q = (p, .ins A.M (fM (D.meters.length + 1) mem m))) ∨ (r = .me D.meters.length ∧ q = (mem, .ins A.Me (fMe b1 b2))) ∨ (r = .b1 D.meters.length ∧ q = (b1, .lst (bankV m.first))) ∨ (r = .b2 D.meters.length ∧ q = (b2, .lst (bankV m.second))) := fun r q e z => by
  rcases z with rfl | rfl | rfl | rfl
  ·simp only [DS.at_, eL, Option.map_some] at e
   exact .inl ⟨rfl, (Option.some.inj e).symm⟩
  ·simp only [DS.at_, eL, Option.map_some] at e
   exact .inr (.inl ⟨rfl, (Option.some.inj e).symm⟩)
  ·simp only [DS.at_, eL, Option.map_some] at e
   exact .inr (.inr (.inl ⟨rfl, (Option.some.inj e).symm⟩))
  ·simp only [DS.at_, eL, Option.map_some] at e
   exact .inr (.inr (.inr ⟨rfl, (Option.some.inj e).symm⟩))
 refine h.gen .ml id (fun r => r = .m D.meters.length ∨ r = .me D.meters.length ∨ r = .b1 D.meters.length ∨ r = .b2 D.meters.length) (fun _ _ e => e) rfl rfl (by simp) (fun r q e n z => ⟨?_, n⟩)
  (by simpa [At] using a0) (fun r q e z => ?_) (fun r r' q q' z z' e e' w => ?_) hk
 ·show D.at_ A r = some q
  rw [← e]
  cases r with
  | ml => exact absurd rfl n
  | m i =>
   have hi : i ≠ D.meters.length := fun y => z (.inl (by rw [y]))
   simp only [DS.at_]; rw [snoc_get _ _ hi]
  | me i =>
   have hi : i ≠ D.meters.length := fun y => z (.inr (.inl (by rw [y])))
   simp only [DS.at_]; rw [snoc_get _ _ hi]
  | b1 i =>
   have hi : i ≠ D.meters.length := fun y => z (.inr (.inr (.inl (by rw [y]))))
   simp only [DS.at_]; rw [snoc_get _ _ hi]
  | b2 i =>
   have hi : i ≠ D.meters.length := fun y => z (.inr (.inr (.inr (by rw [y]))))
   simp only [DS.at_]; rw [snoc_get _ _ hi]
  | _ => rfl
 ·rcases cases4 r q e z with ⟨_, rfl⟩ | ⟨_, rfl⟩ | ⟨_, rfl⟩ | ⟨_, rfl⟩
  ·exact ⟨hp, a1⟩
  ·exact ⟨hm, a2⟩
  ·exact ⟨h1, a3⟩
  ·exact ⟨h2, a4⟩
 ·rcases cases4 r q e z with ⟨rfl, rfl⟩ | ⟨rfl, rfl⟩ | ⟨rfl, rfl⟩ | ⟨rfl, rfl⟩ <;> rcases cases4 r' q' e' z' with ⟨rfl, rfl⟩ | ⟨rfl, rfl⟩ | ⟨rfl, rfl⟩ | ⟨rfl, rfl⟩ <;>
   first | rfl | exact absurd w npm | exact absurd w np1 | exact absurd w np2 | exact absurd w nm1 | exact absurd w nm2 | exact absurd w n12 | exact absurd w.symm npm | exact absurd w.symm np1 | exact absurd w.symm np2 | exact absurd w.symm nm1 | exact absurd w.symm nm2 | exact absurd w.symm n12
theorem WAt.newVoucher (h : WAt A H D) (e : Vbpoac.Voucher) (hp : H p = none) (a0 : H' D.vd = some (.dK (vdV D.vouchers ++ [(Sum.inl (e.number : Int), V.ref p)]))) (a1 : At H' p (.ins A.Vo (fV e))) (hk : ∀ b u, H b = some u → b ≠ D.vd → H' b = some u) :
  WAt A H' { D with vouchers := D.vouchers ++ [(p, e)] } ∧ Fr A D H { D with vouchers := D.vouchers ++ [(p, e)] } H' :=
 h.push .vd (.v D.vouchers.length) rfl rfl (p := p) (o1 := .ins A.Vo (fV e)) (by simp [DS.at_]) (by intro z; cases z)
  (fun r n m => by
   cases r with
   | vd => exact absurd rfl n
   | v i =>
    have hi : i ≠ D.vouchers.length := fun z => m (by rw [z])
    show Option.map _ (D.vouchers ++ [(p, e)])[i]? = _
    rw [snoc_get _ _ hi]; rfl
   | _ => rfl) hp (by simpa [At, vdV] using a0) a1 hk
theorem WAt.useVoucher (h : WAt A H D) {i : Nat} {x : Addr × Vbpoac.Voucher} (e : D.vouchers[i]? = some x) (a0 : At H' x.1 (.ins A.Vo (fV { x.2 with used := true })))
  (hk : ∀ b u, H b = some u → b ≠ x.1 → H' b = some u) : WAt A H' { D with vouchers := D.vouchers.set i (x.1, { x.2 with used := true }) } ∧ Fr A D H { D with vouchers := D.vouchers.set i (x.1, { x.2 with used := true }) } H' := by
 have hlt : i < D.vouchers.length := (List.getElem?_eq_some_iff.mp e).1
 refine h.one (.v i) (l := x.1) (o0 := .ins A.Vo (fV x.2)) (o0' := .ins A.Vo (fV { x.2 with used := true })) (by simp [DS.at_, e]) (by simp [DS.at_, hlt]) (fun r n => ?_) a0 hk
 cases r with
 | vd => simp only [DS.at_, vdV]; rw [map_set_same (fun p : Addr × Vbpoac.Voucher => ((Sum.inl (p.2.number : Int) : Key), V.ref p.1)) e]; rfl
 | v j =>
  have hj : j ≠ i := fun z => n (by rw [z])
  simp only [DS.at_]; rw [set_get _ _ hj]
 | _ => rfl
theorem map_erase {α β : Type} (f : α → β) : ∀ (l : List α) (i : Nat), (l.map f).eraseIdx i = (l.eraseIdx i).map f
 | [], _ => rfl
 | _ :: _, 0 => rfl
 | a :: l, i + 1 => by
  show f a :: (l.map f).eraseIdx i = f a :: (l.eraseIdx i).map f
  rw [map_erase f l i]
noncomputable def sha (i : Nat) : Role → Role
 | .a j => if j < i then .a j else .a (j + 1)
 | r => r
noncomputable def una (i : Nat) : Role → Role
 | .a j => if j < i then .a j else .a (j - 1)
 | r => r
theorem un_sha (i : Nat) (r : Role) : una i (sha i r) = r := by
 cases r with
 | a j =>
  by_cases h : j < i
  ·simp [sha, una, h]
  ·simp only [sha, h, if_false, una]
   rw [if_neg (by omega)]; rfl
 | _ => rfl
theorem WAt.popAsk (h : WAt A H D) {i : Nat} {x : Addr × Vbpoac.Ask} (e : D.asks[i]? = some x) (a0 : H' D.al = some (.lst ((D.asks.map fun x => V.ref x.1).eraseIdx i))) (hk : ∀ b u, H b = some u → b ≠ D.al → H' b = some u) :
  WAt A H' { D with asks := D.asks.eraseIdx i } ∧ Fr A D H { D with asks := D.asks.eraseIdx i } H' ∧ ¬ Foot A { D with asks := D.asks.eraseIdx i } x.1 := by
 have hlt : i < D.asks.length := (List.getElem?_eq_some_iff.mp e).1
 have hat : D.at_ A (.a i) = some (x.1, .lst (askV x.2)) := by simp [DS.at_, e]
 have back : ∀ r q, ({ D with asks := D.asks.eraseIdx i } : DS).at_ A r = some q → r ≠ .al → D.at_ A (sha i r) = some q := fun r q z n => by
  cases r with
  | a j =>
   simp only [DS.at_] at z
   rw [List.getElem?_eraseIdx] at z
   by_cases hj : j < i
   ·rw [if_pos hj] at z
    simp only [sha, hj, if_true]; exact z
   ·rw [if_neg hj] at z
    simp only [sha, hj, if_false]; exact z
  | al => exact absurd rfl n
  | _ => exact z
 have hρ : ∀ r r', sha i r = sha i r' → r = r' := fun r r' z => by rw [← un_sha i r, z, un_sha]
 have nal : ∀ r, r ≠ .al → sha i r ≠ .al := fun r n z => n (hρ _ _ (z.trans (show .al = sha i .al from rfl)))
 have ni : ∀ r, sha i r ≠ .a i := fun r z => by
  cases r with
  | a j =>
   by_cases hj : j < i
   ·simp only [sha, hj, if_true] at z; injection z with z; omega
   ·simp only [sha, hj, if_false] at z; injection z with z; omega
  | _ => cases z
 have g := h.gen (D' := { D with asks := D.asks.eraseIdx i }) (H' := H') .al (sha i) (fun _ => False) hρ rfl rfl id (fun r q z n _ => ⟨back r q z n, nal r n⟩) (by show H' D.al = _; rw [a0, map_erase]) (fun _ _ _ z => z.elim) (fun _ _ _ _ z => z.elim) hk
 refine ⟨g.1, g.2, fun ⟨r, o, z⟩ => ?_⟩
 by_cases n : r = .al
 ·subst n
  have e2 : D.al = x.1 := congrArg Prod.fst (Option.some.inj z)
  have := h.inj _ _ _ _ hat (show D.at_ A .al = some (D.al, _) from rfl) e2.symm
  cases this
 ·exact ni r (h.inj _ _ _ _ (back r _ z n) hat rfl)
noncomputable def shg (i : Nat) : Role → Role
 | .g j => if j < i then .g j else .g (j + 1)
 | r => r
noncomputable def ung (i : Nat) : Role → Role
 | .g j => if j < i then .g j else .g (j - 1)
 | r => r
theorem un_shg (i : Nat) (r : Role) : ung i (shg i r) = r := by
 cases r with
 | g j =>
  by_cases h : j < i
  ·simp [shg, ung, h]
  ·simp only [shg, h, if_false, ung]
   rw [if_neg (by omega)]; rfl
 | _ => rfl
theorem WAt.popGrant (h : WAt A H D) {i : Nat} {x : Addr × Vbpoac.Grant} (e : D.grants[i]? = some x) (a0 : H' D.gl = some (.lst ((D.grants.map fun x => V.ref x.1).eraseIdx i))) (hk : ∀ b u, H b = some u → b ≠ D.gl → H' b = some u) :
  WAt A H' { D with grants := D.grants.eraseIdx i } ∧ Fr A D H { D with grants := D.grants.eraseIdx i } H' ∧ ¬ Foot A { D with grants := D.grants.eraseIdx i } x.1 := by
 have hlt : i < D.grants.length := (List.getElem?_eq_some_iff.mp e).1
 have hat : D.at_ A (.g i) = some (x.1, .lst (grantV x.2)) := by simp [DS.at_, e]
 have back : ∀ r q, ({ D with grants := D.grants.eraseIdx i } : DS).at_ A r = some q → r ≠ .gl → D.at_ A (shg i r) = some q := fun r q z n => by
  cases r with
  | g j =>
   simp only [DS.at_] at z
   rw [List.getElem?_eraseIdx] at z
   by_cases hj : j < i
   ·rw [if_pos hj] at z
    simp only [shg, hj, if_true]; exact z
   ·rw [if_neg hj] at z
    simp only [shg, hj, if_false]; exact z
  | gl => exact absurd rfl n
  | _ => exact z
 have hρ : ∀ r r', shg i r = shg i r' → r = r' := fun r r' z => by rw [← un_shg i r, z, un_shg]
 have nal : ∀ r, r ≠ .gl → shg i r ≠ .gl := fun r n z => n (hρ _ _ (z.trans (show .gl = shg i .gl from rfl)))
 have ni : ∀ r, shg i r ≠ .g i := fun r z => by
  cases r with
  | g j =>
   by_cases hj : j < i
   ·simp only [shg, hj, if_true] at z; injection z with z; omega
   ·simp only [shg, hj, if_false] at z; injection z with z; omega
  | _ => cases z
 have g := h.gen (D' := { D with grants := D.grants.eraseIdx i }) (H' := H') .gl (shg i) (fun _ => False) hρ rfl rfl id (fun r q z n _ => ⟨back r q z n, nal r n⟩) (by show H' D.gl = _; rw [a0, map_erase]) (fun _ _ _ z => z.elim) (fun _ _ _ _ z => z.elim) hk
 refine ⟨g.1, g.2, fun ⟨r, o, z⟩ => ?_⟩
 by_cases n : r = .gl
 ·subst n
  have e2 : D.gl = x.1 := congrArg Prod.fst (Option.some.inj z)
  have := h.inj _ _ _ _ hat (show D.at_ A .gl = some (D.gl, _) from rfl) e2.symm
  cases this
 ·exact ni r (h.inj _ _ _ _ (back r _ z n) hat rfl)
end
noncomputable def Live (H H' : Hp) : Prop := ∀ b, H' b = none → H b = none
theorem same_live {H H' : Hp} (s : Same H H') : Live H H' := fun b e => s.free e
theorem Live.trans {H H1 H2 : Hp} (a : Live H H1) (b : Live H1 H2) : Live H H2 := fun x e => a x (b x e)
theorem live_wr {H H1 : Hp} {a : Addr} {o : HO} (e : H1 a = some o) (k : ∀ b, b ≠ a → H1 b = H b) : Live H H1 := fun b z => by
 by_cases h : b = a
 ·rw [h, e] at z; cases z
 ·rw [← k b h]; exact z
noncomputable def rdNewD (H : Hp) (Q : VK) : Prop := ∀ p, H p = none → Q (.ref p) (upd H p (.dK []))
section
variable {K : PySem.W.Frag} {σ : L2.St} {H : Hp} {Q : VK} {l : Addr} {xs : List V} {y : V} {k : Nat} {i : Int}
theorem i_dnew (h : rdNewD H Q) : tDNewK σ H Q := h
theorem new_dct (h : ∀ p H1, H p = none → H1 p = some (.dK []) → Same H H1 → (∀ b, b ≠ p → H1 b = H b) → Q (.ref p) H1) : rdNewD H Q := fun p hp => h p _ hp upd_same (Same.upd hp) fun b hb => upd_ne hb
noncomputable def rdNewDT (H : Hp) (Q : VK) : Prop := ∀ p, H p = none → Q (.ref p) (upd H p (.dT []))
theorem i_dnT (h : rdNewDT H Q) : tDNewT σ H Q := h
theorem new_dctT (h : ∀ p H1, H p = none → H1 p = some (.dT []) → Same H H1 → (∀ b, b ≠ p → H1 b = H b) → Q (.ref p) H1) : rdNewDT H Q := fun p hp => h p _ hp upd_same (Same.upd hp) fun b hb => upd_ne hb
theorem do_pop (hl : H l = some (.lst xs)) (hy : xs[k]? = some y) (ei : i = (k : Int)) (hk : k < 1000000) (h : ∀ H1, H1 l = some (.lst (xs.eraseIdx k)) → (∀ b, b ≠ l → H1 b = H b) → Q y H1) : rPopAt (.ref l) [.int i] H Q := by
 have hlt : k < xs.length := (List.getElem?_eq_some_iff.mp hy).1
 refine ⟨l, xs, i, k, y, rfl, rfl, hl, by omega, by omega, ?_, hy, h _ upd_same fun b hb => upd_ne hb⟩
 have e : ixN xs.length i = some k := by
  unfold ixN
  rw [if_pos (by omega), if_pos (by omega)]
  congr 1
  omega
 exact (ixN_seq e).1
end
theorem code_eq (key : Nat) (ns : List Nat) : codeI (key : Int) (ns.map fun (n : Nat) => (n : Int)) = ((Vbpoac.codeOf key ns : Nat) : Int) := by
 unfold codeI Vbpoac.codeOf
 have g : ∀ (ns : List Nat) (c : Nat), (ns.map fun (n : Nat) => (n : Int)).foldl (fun c n => (31 * c + n) % 99991) (c : Int) = ((ns.foldl (fun c n => (c * 31 + n) % Vbpoac.PRIME) c : Nat) : Int) := fun ns => by
  induction ns with
  | nil => intro c; rfl
  | cons n r ih =>
   intro c
   rw [List.map_cons, List.foldl_cons, List.foldl_cons, ← ih]
   congr 1
   unfold Vbpoac.PRIME
   omega
 have e : (key : Int) % 99991 = ((key % Vbpoac.PRIME : Nat) : Int) := by unfold Vbpoac.PRIME; omega
 rw [e]; exact g ns _
noncomputable def msgRef (n : Nat) (i : Int) : Int := if ¬ (1 ≤ i ∧ i ≤ 16) then -1 else if (n : Int) < i then -4 else 0
section
variable (S : Vbpoac.State)
theorem step_lose (d i : Int) : Vbpoac.step S (.lose d i) = if Vbpoac.inside d 0 1 = false ∨ Vbpoac.inside i 1 16 = false then Vbpoac.no S 1
   else if (if d = 0 then S.asks.length else S.grants.length) < i.toNat then Vbpoac.no S 4
   else Vbpoac.yes (if d = 0 then { S with asks := S.asks.eraseIdx (i.toNat - 1) } else { S with grants := S.grants.eraseIdx (i.toNat - 1) }) 0 [] := rfl
theorem step_ask (m n : Int) : Vbpoac.step S (.ask m n) = if Vbpoac.inside n 1 90000 = false then Vbpoac.no S 1 else Vbpoac.onMeter S m fun k x => if x.on = false then Vbpoac.no S 3 else if Vbpoac.LINE ≤ S.asks.length then Vbpoac.no S 8 else
   Vbpoac.yes (Vbpoac.sendAsk S ⟨k, (Vbpoac.current x).refills + 1, n.toNat, (Vbpoac.current x).rising + (Vbpoac.current x).falling, Vbpoac.codeOf x.key [1, k, (Vbpoac.current x).refills + 1, n.toNat, (Vbpoac.current x).rising + (Vbpoac.current x).falling]⟩) ((Vbpoac.current x).refills + 1)
    [Vbpoac.askRow ⟨k, (Vbpoac.current x).refills + 1, n.toNat, (Vbpoac.current x).rising + (Vbpoac.current x).falling, Vbpoac.codeOf x.key [1, k, (Vbpoac.current x).refills + 1, n.toNat, (Vbpoac.current x).rising + (Vbpoac.current x).falling]⟩] := rfl
theorem step_toHouse (i : Int) : Vbpoac.step S (.toHouse i) = if Vbpoac.inside i 1 16 = false then Vbpoac.no S 1 else (match S.asks[i.toNat - 1]? with
   | none => Vbpoac.no S 4
   | some a => Vbpoac.yes (Vbpoac.asked { S with asks := S.asks.eraseIdx (i.toNat - 1) } a) ((Vbpoac.asked { S with asks := S.asks.eraseIdx (i.toNat - 1) } a).journal.length - S.journal.length) [Vbpoac.askRow a]) := rfl
theorem step_toMeter (i k : Int) : Vbpoac.step S (.toMeter i k) = if Vbpoac.inside i 1 16 = false ∨ Vbpoac.inside k 0 6 = false then Vbpoac.no S 1 else (match S.grants[i.toNat - 1]? with
   | none => Vbpoac.no S 4
   | some g => Vbpoac.yes (Vbpoac.refilled { S with grants := S.grants.eraseIdx (i.toNat - 1) } g k.toNat) 0 [Vbpoac.grantRow g]) := rfl
end
section
variable {P : Program} {w : World} {K : PySem.W.Frag} {mg : Str → Option Value} {base : Heap} {A : Adr}
noncomputable def bank0 : Vbpoac.Bank := ⟨1, 0, 0, 0, 0⟩
noncomputable def spx1m (A : Adr) : Sp := fun vs H Q _ => ∃ (p dx : Addr), vs = [.ref p] ∧ H p = some (.ins A.Me dx []) ∧ ∀ b1 b2 H', H b1 = none → H b2 = none → b1 ≠ b2 → H' b1 = some (.lst (bankV bank0)) → H' b2 = some (.lst (bankV Vbpoac.noBank)) →
 At H' p (.ins A.Me (fMe b1 b2)) → (∀ b u, H b = some u → b ≠ p → H' b = some u) → Q .non H'
theorem cx1m (P : Program) (w : World) (base : Heap) (T : Txt K mg A) : Mak P w K mg base 1 "Memory" A.Me ["self"] (spx1m A) := by
 obtain ⟨f, fd, F, hm, hf, b⟩ := T.fx1m
 refine ⟨f, fd, ⟨T.mkx1l, hm, hf, T.kcx1l⟩, F.ok (k := 0) scx1m (fun vs H Q E h => ?_) (fun cdv A' outer s H vs Q E hr h => ?_), T.mgx1l, b⟩
 ·obtain ⟨_, _, rfl, _⟩ := h
  rfl
 ·obtain ⟨p, dx, rfl, h⟩ := h
  refine ⟨_, (pss_cons (psf (pv 0) (pe_lst (pa_cons pe_int (pa_cons pe_int (pa_cons pe_int (pa_cons pe_int (pa_cons pe_int pa_nil)))))))
   (pss_one (psf (pv 0) (pe_lst (pa_cons pe_int (pa_cons pe_int (pa_cons pe_int (pa_cons pe_int (pa_cons pe_int pa_nil))))))))), ?_⟩
  obtain ⟨hp, q⟩ := h
  walk_at "p"
  refine nl (fun b1 H1 n1 e1 s1 _ => ?_)
  walk_at "p"
  refine wr_fl (s1 _ _ hp) T.clx1l (T.nx1l _ (by decide +kernel)) (by show 0 < 1000; decide) (fun H2 h2 k2 => ?_)
  have nb1 : b1 ≠ p := fun z => by rw [z, hp] at n1; cases n1
  walk_at "p"
  refine nl (fun b2 H3 n3 e3 s3 _ => ?_)
  walk_at "p"
  refine wr_fl (s3 _ _ h2) T.clx1l (T.nx1l _ (by decide +kernel)) (by show 1 < 1000; decide) (fun H4 h4 k4 => ?_)
  have g1 : H2 b1 = _ := (k2 b1 nb1).trans e1
  have n2 : H b2 = none := same_live s1 b2 (live_wr h2 k2 b2 n3)
  have nb2 : b2 ≠ p := fun z => by rw [z, hp] at n2; cases n2
  refine q b1 b2 H4 n1 n2 (fun z => by rw [z, n3] at g1; cases g1) ((k4 b1 nb1).trans (s3 _ _ g1)) ((k4 b2 nb2).trans e3) ⟨dx, h4⟩ fun b u hb hn => ?_
  rw [k4 b hn]; exact s3 _ _ ((k2 b hn).trans (s1 _ _ hb))
noncomputable def met0 (a k : Nat) : Vbpoac.Meter := ⟨a, k, bank0, Vbpoac.noBank, true, none, false⟩
noncomputable def spx1v (A : Adr) : Sp := fun vs H Q _ => ∃ (p dx : Addr) (n a k : Nat), vs = [.ref p, .int n, .int a, .int k] ∧ H p = some (.ins A.M dx []) ∧ ∀ mem b1 b2 H', H mem = none → H b1 = none → H b2 = none → b1 ≠ b2 → H' b1 = some (.lst (bankV bank0)) → H' b2 = some (.lst (bankV Vbpoac.noBank)) →
 At H' mem (.ins A.Me (fMe b1 b2)) → At H' p (.ins A.M (fM n mem (met0 a k))) → (∀ b u, H b = some u → b ≠ p → H' b = some u) → Q .non H'
theorem cx1v (P : Program) (w : World) (base : Heap) (T : Txt K mg A) : Mak P w K mg base 3 "Meter" A.M ["self", "number", "account", "key"] (spx1v A) := by
 have Mx1l := cx1m P w base T
 obtain ⟨f, fd, F, hm, hf, b⟩ := T.fx1v
 refine ⟨f, fd, ⟨T.mkx1u, hm, hf, T.kcx1u⟩, F.ok (k := 2) scx1v (fun vs H Q E h => ?_) (fun cdv A' outer s H vs Q E hr h => ?_), T.mgx1u, b⟩
 ·obtain ⟨_, _, _, _, _, rfl, _⟩ := h
  rfl
 ·obtain ⟨p, dx, n, a, k, rfl, h⟩ := h
  refine ⟨_, (pss_cons (psf (pv 0) (pv 1))
   (pss_cons (psf (pv 0) (pv 2))
   (pss_cons (psf (pv 0) (pv 3))
   (pss_cons (psf (pv 0) (pmk0 Mx1l hr rfl))
   (pss_cons (psf (pv 0) pe_bl)
   (pss_cons (psf (pv 0) pe_non)
   (pss_one (psf (pv 0) pe_bl)))))))), ?_⟩
  obtain ⟨hp, q⟩ := h
  walk_at "p"
  refine wr_fl hp T.clx1u (T.nx1u _ (by decide +kernel)) (by show 0 < 1000; decide) (fun H1 h1 k1 => ?_)
  walk_at "p"
  refine wr_fl h1 T.clx1u (T.nx1u _ (by decide +kernel)) (by show 1 < 1000; decide) (fun H2 h2 k2 => ?_)
  walk_at "p"
  refine wr_fl h2 T.clx1u (T.nx1u _ (by decide +kernel)) (by show 2 < 1000; decide) (fun H3 h3 k3 => ?_)
  walk_at "p"
  intro m dm nm nd ne
  refine ⟨m, dm, rfl, upd_same, fun b1 b2 H4 n1 n2 n12 e1 e2 a4 k4 => ⟨rfl, ?_⟩⟩
  have s4 : Same H3 H4 := Same.made nm nd k4
  have l3 : Live H H3 := ((live_wr h1 k1).trans (live_wr h2 k2)).trans (live_wr h3 k3)
  have fr : ∀ b, upd (upd H3 dm (.own m)) m (.ins A.Me dm []) b = none → H3 b = none := fun b z => by
   by_cases y : b = m
   ·rw [y, upd_same] at z; cases z
   ·rw [upd_ne y] at z
    by_cases y2 : b = dm
    ·rw [y2, upd_same] at z; cases z
    ·rw [upd_ne y2] at z; exact z
  have m1 := l3 b1 (fr b1 n1)
  have m2 := l3 b2 (fr b2 n2)
  have mm := l3 m nm
  have np : ∀ {c : Addr}, H c = none → c ≠ p := fun h z => by rw [z, hp] at h; cases h
  walk_at "p"
  refine wr_fl (s4 _ _ h3) T.clx1u (T.nx1u _ (by decide +kernel)) (by show 3 < 1000; decide) (fun H5 h5 k5 => ?_)
  walk_at "p"
  refine wr_fl h5 T.clx1u (T.nx1u _ (by decide +kernel)) (by show 4 < 1000; decide) (fun H6 h6 k6 => ?_)
  walk_at "p"
  refine wr_fl h6 T.clx1u (T.nx1u _ (by decide +kernel)) (by show 5 < 1000; decide) (fun H7 h7 k7 => ?_)
  walk_at "p"
  refine wr_fl h7 T.clx1u (T.nx1u _ (by decide +kernel)) (by show 6 < 1000; decide) (fun H8 h8 k8 => ?_)
  have kk : ∀ b, b ≠ p → H8 b = H4 b := fun b hb => by rw [k8 b hb, k7 b hb, k6 b hb, k5 b hb]
  refine q m b1 b2 H8 mm m1 m2 n12 ((kk _ (np m1)).trans e1) ((kk _ (np m2)).trans e2) (a4.keep fun u hu => (kk _ (np mm)).trans hu) ⟨dx, h8⟩ fun b u hb hn => ?_
  rw [kk b hn]; exact s4 _ _ (by rw [k3 b hn, k2 b hn, k1 b hn]; exact hb)
noncomputable abbrev spx49 (A : Adr) : Sp := spC2 A .meter
theorem cx49 (P : Program) (w : World) (base : Heap) (T : Txt K mg A) : Cal P w K mg base 5 "new_meter" ["world", "account", "key"] (spx49 A) := by
 have Mx1u := cx1v P w base T
 have Mx23 := cx23 P w base T
 obtain ⟨f, fd, F, hm, b⟩ := T.fx49
 refine ⟨f, fd, F.ok (k := 4) scx49 (fun vs H Q E h => ?_) (fun cdv A' outer s H vs Q E hr h => ?_), hm, F.kp, b⟩
 ·obtain ⟨_, _, _, _, rfl, _⟩ := h
  rfl
 ·obtain ⟨c, D, a, n, rfl, h⟩ := h
  refine ⟨_, (pss_cons (ps_if (pt_not (pt_chain op_le op_le pe_int (pv 2) (pgi T.gx46))) (pss_one (ps_ret (pe_lst (pa_cons (pgi T.gxd) pa_nil)))) pss_nil)
   (pss_cons (pst 3 scx49.nd (pmt (pv 0) T.clx1y Mx23 hr (pa_cons (pv 1) pa_nil)))
   (pss_cons (ps_if (pt_cmpR op_lt (pv 3) pe_int (nomark _)) (pss_one (ps_ret (pe_lst (pa_cons (pv 3) pa_nil)))) pss_nil)
   (pss_cons (ps_if (pt_cmpR op_eq (pe_callB call_len_seq (by rfl) T.b_len (by decide +kernel) (pa_cons (pfl (pv 0)) pa_nil)) (pgi T.gx1s) (nomark _)) (pss_one (ps_ret (pe_lst (pa_cons (pgi T.gxk) pa_nil)))) pss_nil)
   (pss_cons (pst 4 scx49.nd (pe_op op_add (pe_callB call_len_seq (by rfl) T.b_len (by decide +kernel) (pa_cons (pfl (pv 0)) pa_nil)) pe_int))
   (pss_cons (ps_expr (pe_bm PySem.F.plainAttrs_list PySem.F.slot_list_append PySem.F.type_list_append mt_append (pfl (pv 0)) (pa_cons (pmk Mx1u hr rfl (pa_cons (pv 4) (pa_cons (pv 1) (pa_cons (pv 2) pa_nil)))) pa_nil)))
   (pss_one (ps_ret (pe_lst (pa_cons (pv 4) pa_nil)))))))))), ?_⟩
  obtain ⟨hW, hG, hc, q⟩ := h
  obtain ⟨dw, hw⟩ := hW.wo
  have hml : D.meters.length ≤ 10 := by have := hG.met; have h2 : D.st.meters.length = D.meters.length := List.length_map _; omega
  walk_at "p"
  refine ite_out (fun no => ?_) (fun h1 h2 => ?_)
  ·walk_at "p"
   refine nl (fun p H1 hp e1 s1 k1 => q D H1 p ?_)
   exact (Ans.no hW hp e1 s1 k1).mk' ((step_meter _ _ _).trans (if_pos (inside_no no)))
  ·have e0 := (step_meter D.st a n).trans (if_neg (inside_yes ⟨h1, h2⟩))
   walk_at "p"
   refine rd_met hw rfl ?_
   walk_at "p"
   refine ⟨D, a, rfl, hW, ?_⟩
   walk_at "p"
   rcases accRef_cases D a with ⟨er, es⟩ | ⟨er, es⟩ | ⟨er, ha, es⟩
   ·refine ite_d (fun _ => ?_) (fun z => absurd (show accRef D a < 0 by omega) z)
    walk_at "p"
    refine nl (fun p H1 hp e1 s1 k1 => q D H1 p ?_)
    rw [er] at e1
    exact (Ans.no hW hp e1 s1 k1).mk' (e0.trans (es _))
   ·refine ite_d (fun _ => ?_) (fun z => absurd (show accRef D a < 0 by omega) z)
    walk_at "p"
    refine nl (fun p H1 hp e1 s1 k1 => q D H1 p ?_)
    rw [er] at e1
    exact (Ans.no hW hp e1 s1 k1).mk' (e0.trans (es _))
   ·refine ite_d (fun z => absurd z (show ¬ accRef D a < 0 by omega)) (fun _ => ?_)
    have e1 := e0.trans (es _)
    have el : D.st.meters.length = D.meters.length := List.length_map _
    walk_at "p"
    refine T.rWorld hw ?_
    walk_at "p"
    refine ⟨D.ml, _, rfl, .inl (SqL.of hW.mlo), ?_⟩
    walk_at "p"
    rw [List.length_map]
    refine ite_d (fun n8 => ?_) (fun n8 => ?_)
    ·walk_at "p"
     refine nl (fun p H1 hp e2 s1 k1 => q D H1 p ?_)
     exact (Ans.no hW hp e2 s1 k1).mk' (e1.trans (if_pos (by rw [el]; unfold Vbpoac.METERS; omega)))
    ·walk_at "p"
     refine T.rWorld hw ?_
     walk_at "p"
     refine ⟨D.ml, _, rfl, .inl (SqL.of hW.mlo), ?_⟩
     walk_at "p"
     refine T.rWorld hw ?_
     refine rd_bmL hW.mlo ?_
     walk_at "p"
     intro x dx nx nd ne
     rw [List.length_map]
     have ea : V.int a = V.int (a.toNat : Int) := by congr 1; omega
     have en : V.int n = V.int (n.toNat : Int) := by congr 1; omega
     refine ⟨x, dx, D.meters.length + 1, a.toNat, n.toNat, by rw [ea, en]; rfl, upd_same, fun mem b1 b2 H1 nm n1 n2 n12 g1 g2 gm gp k1 => ⟨rfl, ?_⟩⟩
     have s1 : Same H H1 := Same.made nx nd k1
     have fr : ∀ b, upd (upd H dx (.own x)) x (.ins A.M dx []) b = none → H b = none := fun b z => by
      by_cases y : b = x
      ·rw [y, upd_same] at z; cases z
      ·rw [upd_ne y] at z
       by_cases y2 : b = dx
       ·rw [y2, upd_same] at z; cases z
       ·rw [upd_ne y2] at z; exact z
     walk_at "p"
     refine do_append (s1 _ _ hW.mlo) (by rw [List.length_map]; exact Nat.lt_of_le_of_lt hml (by decide)) (fun H2 h2' k2 => ?_)
     have nml : ∀ {b : Addr}, H b = none → b ≠ D.ml := fun h z => by rw [z, hW.mlo] at h; cases h
     obtain ⟨w2, f2⟩ := hW.newMeter (H' := H2) (met0 a.toNat n.toNat) nx (fr _ nm) (fr _ n1) (fr _ n2) n12 h2' (gp.keep fun u hu => (k2 _ (nml nx)).trans hu) (gm.keep fun u hu => (k2 _ (nml (fr _ nm))).trans hu) ((k2 _ (nml (fr _ n1))).trans g1) ((k2 _ (nml (fr _ n2))).trans g2) fun b u hb hn => by rw [k2 b hn]; exact s1 b u hb
     walk_at "p"
     refine nl (fun p H3 hp e3 s3 k3 => q _ H3 p ((Ans.num (n := D.meters.length + 1) w2 f2 rfl hp (by rw [e3]; rfl) s3).mk' (e1.trans ?_)))
     rw [if_neg (by rw [el]; unfold Vbpoac.METERS; omega), el]
     congr 1
     simp [DS.st, met0, bank0]
noncomputable def spx8 (A : Adr) : Sp := fun vs H Q _ => ∃ (p dx : Addr), vs = [.ref p] ∧ H p = some (.ins A.J dx []) ∧ ∀ el H', H el = none → H' el = some (.lst []) → At H' p (.ins A.J (fJ el)) → (∀ b u, H b = some u → b ≠ p → H' b = some u) → Q .non H'
theorem cx8 (P : Program) (w : World) (base : Heap) (T : Txt K mg A) : Mak P w K mg base 1 "Journal" A.J ["self"] (spx8 A) := by
 obtain ⟨f, fd, F, hm, hf, b⟩ := T.fx8
 refine ⟨f, fd, ⟨T.mkx7, hm, hf, T.kcx7⟩, F.ok (k := 0) scx8 (fun vs H Q E h => ?_) (fun cdv A' outer s H vs Q E hr h => ?_), T.mgx7, b⟩
 ·obtain ⟨_, _, rfl, _⟩ := h
  rfl
 ·obtain ⟨p, dx, rfl, h⟩ := h
  refine ⟨_, (pss_one (psf (pv 0) (pe_lst pa_nil))), ?_⟩
  obtain ⟨hp, q⟩ := h
  walk_at "p"
  refine nl (fun b1 H1 n1 e1 s1 _ => ?_)
  walk_at "p"
  refine wr_fl (s1 _ _ hp) T.clx7 (T.nx7 _ (by decide +kernel)) (by show 0 < 1000; decide) (fun H2 h2 k2 => ?_)
  have nb1 : b1 ≠ p := fun z => by rw [z, hp] at n1; cases n1
  exact q b1 H2 n1 ((k2 b1 nb1).trans e1) ⟨dx, h2⟩ fun b u hb hn => by rw [k2 b hn]; exact s1 _ _ hb
noncomputable def spx1x (A : Adr) : Sp := fun vs H Q _ => ∃ (p dx : Addr) (n v : Nat), vs = [.ref p, .int v] ∧ H p = some (.ins A.Vo dx []) ∧ ∀ H', At H' p (.ins A.Vo (fV ⟨n, v, false⟩)) → (∀ b, b ≠ p → H' b = H b) → Q .non H'
theorem cx1x (P : Program) (w : World) (base : Heap) (T : Txt K mg A) : Mak P w K mg base 1 "Voucher" A.Vo ["self", "value"] (spx1x A) := by
 obtain ⟨f, fd, F, hm, hf, b⟩ := T.fx1x
 refine ⟨f, fd, ⟨T.mkx1w, hm, hf, T.kcx1w⟩, F.ok (k := 0) scx1x (fun vs H Q E h => ?_) (fun cdv A' outer s H vs Q E hr h => ?_), T.mgx1w, b⟩
 ·obtain ⟨_, _, _, _, rfl, _⟩ := h
  rfl
 ·obtain ⟨p, dx, n, v, rfl, h⟩ := h
  refine ⟨_, (pss_cons (psf (pv 0) (pv 1))
   (pss_one (psf (pv 0) pe_bl))), ?_⟩
  obtain ⟨hp, q⟩ := h
  walk_at "p"
  refine wr_fl hp T.clx1w (T.nx1w _ (by decide +kernel)) (by show 0 < 1000; decide) (fun H1 h1 k1 => ?_)
  walk_at "p"
  refine wr_fl h1 T.clx1w (T.nx1w _ (by decide +kernel)) (by show 1 < 1000; decide) (fun H2 h2 k2 => ?_)
  exact q H2 ⟨dx, h2⟩ fun b hb => by rw [k2 b hb, k1 b hb]
end
section
variable {P : Program} {w : World} {K : PySem.W.Frag} {mg : Str → Option Value} {base : Heap} {A : Adr}
theorem msgRef_cases (n : Nat) (i : Int) : (msgRef n i = -1 ∧ ¬ (1 ≤ i ∧ i ≤ 16)) ∨ (msgRef n i = -4 ∧ (1 ≤ i ∧ i ≤ 16) ∧ (n : Int) < i) ∨ (msgRef n i = 0 ∧ ∃ k : Nat, i = ((k + 1 : Nat) : Int) ∧ k < n ∧ k < 16) := by
 unfold msgRef
 by_cases h : 1 ≤ i ∧ i ≤ 16
 ·rw [if_neg (fun z => z h)]
  by_cases h2 : (n : Int) < i
  ·exact .inr (.inl ⟨if_pos h2, h, h2⟩)
  ·exact .inr (.inr ⟨if_neg h2, (i - 1).toNat, by omega, by omega, by omega⟩)
 ·exact .inl ⟨if_pos h, h⟩
noncomputable def spx3t (A : Adr) : Sp := fun vs H Q _ => ∃ (l : Addr) (xs : List V) (i : Int), vs = [.ref l, .int i] ∧ H l = some (.lst xs) ∧ Q (.int (msgRef xs.length i)) H
theorem cx3t (P : Program) (w : World) (base : Heap) (T : Txt K mg A) : Cal P w K mg base 1 "message_refusal" ["line", "place"] (spx3t A) := by
 obtain ⟨f, fd, F, hm, b⟩ := T.fx3t
 refine ⟨f, fd, F.ok (k := 0) scx3t (fun vs H Q E h => ?_) (fun cdv A' outer s H vs Q E hr h => ?_), hm, F.kp, b⟩
 ·obtain ⟨_, _, _, rfl, _⟩ := h
  rfl
 ·obtain ⟨l, xs, i, rfl, h⟩ := h
  refine ⟨_, (pss_cons (ps_if (pt_not (pt_chain op_le op_le pe_int (pv 1) (pgi T.gx3l))) (pss_one (ps_ret (pgi T.gxd))) pss_nil)
   (pss_one (ps_ret (pe_ifExp (pt_cmpR op_gt (pv 1) (pe_callB call_len_seq (by rfl) T.b_len (by decide +kernel) (pa_cons (pv 0) pa_nil)) (nomark _)) (pgi T.gxg) pe_int)))), ?_⟩
  obtain ⟨hl, q⟩ := h
  walk_at "p"
  refine ite_out (fun no => ?_) (fun h1 h2 => ?_)
  ·walk_at "p"
   have e : msgRef xs.length i = -1 := by unfold msgRef; rw [if_pos no]
   rw [e] at q; exact q
  ·walk_at "p"
   refine ⟨l, _, rfl, .inl (SqL.of hl), ?_⟩
   walk_at "p"
   have e : msgRef xs.length i = if (xs.length : Int) < i then -4 else 0 := by unfold msgRef; rw [if_neg (fun z => z ⟨h1, h2⟩)]
   rw [e] at q
   refine ite_d (fun z => ?_) (fun z => ?_)
   ·rw [if_pos z] at q
    walk_at "p"
    exact q
   ·rw [if_neg z] at q
    walk_at "p"
    exact q
noncomputable def lineA (D : DS) (d : Int) : Addr := if d = 0 then D.al else D.gl
noncomputable def lineN (D : DS) (d : Int) : Nat := if d = 0 then D.asks.length else D.grants.length
noncomputable def placeRef (D : DS) (d i : Int) : Int := if ¬ (0 ≤ d ∧ d ≤ 1) then -1 else msgRef (lineN D d) i
theorem lineN_st (D : DS) (d : Int) : (if d = 0 then D.st.asks.length else D.st.grants.length) = lineN D d := by
 have la : D.st.asks.length = D.asks.length := List.length_map _
 have lg : D.st.grants.length = D.grants.length := List.length_map _
 rw [la, lg]; rfl
theorem line_at {A : Adr} {H : Hp} {D : DS} (hW : WAt A H D) (d : Int) : ∃ xs, H (lineA D d) = some (.lst xs) ∧ xs.length = lineN D d := by
 unfold lineA lineN
 by_cases h : d = 0
 ·rw [if_pos h, if_pos h]; exact ⟨_, hW.alo, List.length_map _⟩
 ·rw [if_neg h, if_neg h]; exact ⟨_, hW.glo, List.length_map _⟩
theorem placeRef_cases (D : DS) (d i : Int) : (placeRef D d i = -1 ∧ ¬ ((0 ≤ d ∧ d ≤ 1) ∧ (1 ≤ i ∧ i ≤ 16))) ∨ (placeRef D d i = -4 ∧ (0 ≤ d ∧ d ≤ 1) ∧ (1 ≤ i ∧ i ≤ 16) ∧ (lineN D d : Int) < i) ∨
  (placeRef D d i = 0 ∧ (d = 0 ∨ d = 1) ∧ ∃ k : Nat, i = ((k + 1 : Nat) : Int) ∧ k < lineN D d ∧ k < 16) := by
 unfold placeRef
 by_cases h : 0 ≤ d ∧ d ≤ 1
 ·rw [if_neg (fun z => z h)]
  rcases msgRef_cases (lineN D d) i with ⟨e, n⟩ | ⟨e, n, m⟩ | ⟨e, k, z⟩
  ·exact .inl ⟨e, fun z => n z.2⟩
  ·exact .inr (.inl ⟨e, h, n, m⟩)
  ·exact .inr (.inr ⟨e, by omega, k, z⟩)
 ·exact .inl ⟨if_pos h, fun z => h z.1⟩
noncomputable def spx41 (A : Adr) : Sp := fun vs H Q _ => ∃ (D : DS) (d : Int), vs = [.ref D.w, .int d] ∧ WAt A H D ∧ Q (.ref (lineA D d)) H
theorem cx41 (P : Program) (w : World) (base : Heap) (T : Txt K mg A) : Cal P w K mg base 1 "messages_on" ["world", "line"] (spx41 A) := by
 obtain ⟨f, fd, F, hm, b⟩ := T.fx41
 refine ⟨f, fd, F.ok (k := 0) scx41 (fun vs H Q E h => ?_) (fun cdv A' outer s H vs Q E hr h => ?_), hm, F.kp, b⟩
 ·obtain ⟨_, _, rfl, _⟩ := h
  rfl
 ·obtain ⟨D, d, rfl, h⟩ := h
  refine ⟨_, (pss_one (ps_ret (pe_ifExp (pt_cmpR op_eq (pv 1) (pgi T.gx3n) (nomark _)) (pfl (pv 0)) (pfl (pv 0))))), ?_⟩
  obtain ⟨hW, q⟩ := h
  obtain ⟨dw, hw⟩ := hW.wo
  unfold lineA at q
  walk_at "p"
  refine ite_d (fun z => ?_) (fun z => ?_)
  ·rw [if_pos z] at q
   walk_at "p"
   exact T.rWorld hw q
  ·rw [if_neg z] at q
   walk_at "p"
   exact T.rWorld hw q
noncomputable def spx42 (A : Adr) : Sp := fun vs H Q _ => ∃ (D : DS) (d i : Int), vs = [.ref D.w, .int d, .int i] ∧ WAt A H D ∧ Q (.int (placeRef D d i)) H
theorem cx42 (P : Program) (w : World) (base : Heap) (T : Txt K mg A) : Cal P w K mg base 2 "place_refusal" ["world", "line", "place"] (spx42 A) := by
 have Cx3t := cx3t P w base T
 have Cx41 := cx41 P w base T
 obtain ⟨f, fd, F, hm, b⟩ := T.fx42
 refine ⟨f, fd, F.ok (k := 1) scx42 (fun vs H Q E h => ?_) (fun cdv A' outer s H vs Q E hr h => ?_), hm, F.kp, b⟩
 ·obtain ⟨_, _, _, rfl, _⟩ := h
  rfl
 ·obtain ⟨D, d, i, rfl, h⟩ := h
  refine ⟨_, (pss_cons (ps_if (pt_not (pt_chain op_le op_le (pgi T.gx3n) (pv 1) (pgi T.gx3o))) (pss_one (ps_ret (pgi T.gxd))) pss_nil)
   (pss_one (ps_ret (pcl Cx3t hr rfl (pa_cons (pcl Cx41 hr rfl (pa_cons (pv 0) (pa_cons (pv 1) pa_nil))) (pa_cons (pv 2) pa_nil)))))), ?_⟩
  obtain ⟨hW, q⟩ := h
  walk_at "p"
  refine ite_out (fun no => ?_) (fun h1 h2 => ?_)
  ·walk_at "p"
   have e : placeRef D d i = -1 := by unfold placeRef; rw [if_pos no]
   rw [e] at q; exact q
  ·obtain ⟨xs, hl, el⟩ := line_at hW d
   walk_at "p"
   refine ⟨D, d, rfl, hW, ?_⟩
   walk_at "p"
   refine ⟨lineA D d, xs, i, rfl, hl, ?_⟩
   have e : placeRef D d i = msgRef (lineN D d) i := by unfold placeRef; rw [if_neg (fun z => z ⟨h1, h2⟩)]
   rw [e] at q
   rw [el]
   exact q
noncomputable abbrev spx43 (A : Adr) : Sp := spC2 A .lose
theorem cx43 (P : Program) (w : World) (base : Heap) (T : Txt K mg A) : Cal P w K mg base 3 "lose" ["world", "line", "place"] (spx43 A) := by
 have Cx41 := cx41 P w base T
 have Cx42 := cx42 P w base T
 obtain ⟨f, fd, F, hm, b⟩ := T.fx43
 refine ⟨f, fd, F.ok (k := 2) scx43 (fun vs H Q E h => ?_) (fun cdv A' outer s H vs Q E hr h => ?_), hm, F.kp, b⟩
 ·obtain ⟨_, _, _, _, rfl, _⟩ := h
  rfl
 ·obtain ⟨c, D, d, i, rfl, h⟩ := h
  refine ⟨_, (pss_cons (pst 3 scx43.nd (pcl Cx42 hr rfl (pa_cons (pv 0) (pa_cons (pv 1) (pa_cons (pv 2) pa_nil)))))
   (pss_cons (ps_if (pt_cmpR op_lt (pv 3) pe_int (nomark _)) (pss_one (ps_ret (pe_lst (pa_cons (pv 3) pa_nil)))) pss_nil)
   (pss_cons (ps_expr (pe_bm PySem.F.plainAttrs_list PySem.F.slot_list_pop PySem.F.type_list_pop mt_popAt (pcl Cx41 hr rfl (pa_cons (pv 0) (pa_cons (pv 1) pa_nil))) (pa_cons (pe_op op_sub (pv 2) pe_int) pa_nil)))
   (pss_one (ps_ret (pe_lst (pa_cons pe_int pa_nil))))))), ?_⟩
  obtain ⟨hW, hG, hc, q⟩ := h
  have el := lineN_st D d
  walk_at "p"
  refine ⟨D, d, i, rfl, hW, ?_⟩
  walk_at "p"
  rcases placeRef_cases D d i with ⟨er, hi⟩ | ⟨er, hd, hi, hn⟩ | ⟨er, hd, k, rfl, hk, hk16⟩
  ·refine ite_d (fun _ => ?_) (fun z => absurd (show placeRef D d i < 0 by omega) z)
   walk_at "p"
   refine nl (fun p H1 hp e1 s1 k1 => q D H1 p ?_)
   rw [er] at e1
   exact (Ans.no hW hp e1 s1 k1).mk' ((step_lose _ _ _).trans (if_pos (by rw [inside_iff, inside_iff]; omega)))
  ·refine ite_d (fun _ => ?_) (fun z => absurd (show placeRef D d i < 0 by omega) z)
   walk_at "p"
   refine nl (fun p H1 hp e1 s1 k1 => q D H1 p ?_)
   rw [er] at e1
   refine (Ans.no hW hp e1 s1 k1).mk' ((step_lose _ _ _).trans ?_)
   rw [if_neg (by rw [inside_iff, inside_iff]; omega), if_pos (by rw [el]; omega)]
  ·refine ite_d (fun z => absurd z (show ¬ placeRef D d _ < 0 by omega)) (fun _ => ?_)
   have e0 := (step_lose D.st d ((k + 1 : Nat) : Int)).trans ((if_neg (by rw [inside_iff, inside_iff]; omega)).trans (if_neg (by rw [el]; omega)))
   have ek : (((k + 1 : Nat) : Int) - 1) = (k : Int) := by omega
   rcases hd with rfl | rfl
   ·have hk : k < D.asks.length := hk
    obtain ⟨x, hx⟩ : ∃ x, D.asks[k]? = some x := ⟨_, List.getElem?_eq_getElem hk⟩
    walk_at "p"
    refine ⟨D, 0, rfl, hW, ?_⟩
    refine rd_bmL (show H (lineA D 0) = _ from hW.alo) ?_
    walk_at "p"
    refine do_pop (show H (lineA D 0) = _ from hW.alo) (k := k) (y := .ref x.1) (by rw [List.getElem?_map, hx]; rfl) (by omega) (by omega) (fun H1 h1' k1 => ?_)
    obtain ⟨w1, f1, _⟩ := hW.popAsk (H' := H1) hx h1' fun b u hb hn => by rw [k1 b hn]; exact hb
    walk_at "p"
    refine nl (fun p H2 hp e2 s2 k2 => q _ H2 p ((Ans.num (n := 0) w1 f1 rfl hp e2 s2).mk' (e0.trans ?_)))
    congr 1
    simp [DS.st, map_erase]
   ·have hk : k < D.grants.length := hk
    obtain ⟨x, hx⟩ : ∃ x, D.grants[k]? = some x := ⟨_, List.getElem?_eq_getElem hk⟩
    walk_at "p"
    refine ⟨D, 1, rfl, hW, ?_⟩
    refine rd_bmL (show H (lineA D 1) = _ from hW.glo) ?_
    walk_at "p"
    refine do_pop (show H (lineA D 1) = _ from hW.glo) (k := k) (y := .ref x.1) (by rw [List.getElem?_map, hx]; rfl) (by omega) (by omega) (fun H1 h1' k1 => ?_)
    obtain ⟨w1, f1, _⟩ := hW.popGrant (H' := H1) hx h1' fun b u hb hn => by rw [k1 b hn]; exact hb
    walk_at "p"
    refine nl (fun p H2 hp e2 s2 k2 => q _ H2 p ((Ans.num (n := 0) w1 f1 rfl hp e2 s2).mk' (e0.trans ?_)))
    congr 1
    simp [DS.st, map_erase]
noncomputable def To (A : Adr) (D : DS) (H : Hp) (S : Vbpoac.State) (Q : Hp → Prop) : Prop := ∀ D' H', D'.st = S → D'.w = D.w → WAt A H' D' → Fr A D H D' H' → Q H'
noncomputable def spx3u (A : Adr) : Sp := fun vs H Q _ => ∃ (D : DS) (i : Nat) (x : DM) (n a : Nat), vs = [.ref D.w, .ref x.a, .int n, .int a] ∧ WAt A H D ∧ D.meters[i]? = some x ∧ D.grants.length < 1000 ∧ To A D H (Vbpoac.sendGrant D.st (Vbpoac.grantOf x.m (i + 1) n a)) (Q .non)
theorem cx3u (P : Program) (w : World) (base : Heap) (T : Txt K mg A) : Cal P w K mg base 3 "put_grant" ["world", "meter", "number", "amount"] (spx3u A) := by
 have Cx2p := cx2p P w base T
 obtain ⟨f, fd, F, hm, b⟩ := T.fx3u
 refine ⟨f, fd, F.ok (k := 2) scx3u (fun vs H Q E h => ?_) (fun cdv A' outer s H vs Q E hr h => ?_), hm, F.kp, b⟩
 ·obtain ⟨_, _, _, _, _, rfl, _⟩ := h
  rfl
 ·obtain ⟨D, i, x, n, a, rfl, h⟩ := h
  refine ⟨_, (pss_one (ps_if (pt_cmpR op_lt (pe_callB call_len_seq (by rfl) T.b_len (by decide +kernel) (pa_cons (pfl (pv 0)) pa_nil)) (pgi T.gx3l) (nomark _)) (pss_one (ps_expr (pe_bm PySem.F.plainAttrs_list PySem.F.slot_list_append PySem.F.type_list_append mt_append (pfl (pv 0)) (pa_cons (pcl Cx2p hr rfl (pa_cons (pgi T.gx2m) (pa_cons (pe_lst (pa_cons (pfl (pv 1)) (pa_cons (pv 2) (pa_cons (pv 3) pa_nil)))) (pa_cons (pfl (pv 1)) pa_nil)))) pa_nil)))) pss_nil)), ?_⟩
  obtain ⟨hW, hx, hz, q⟩ := h
  obtain ⟨dw, hw⟩ := hW.wo
  obtain ⟨⟨dx, hm⟩, _⟩ := hW.mo hx
  have lg : D.st.grants.length = D.grants.length := List.length_map _
  walk_at "p"
  refine T.rWorld hw ?_
  walk_at "p"
  refine ⟨D.gl, _, rfl, .inl (SqL.of hW.glo), ?_⟩
  rw [List.length_map]
  walk_at "p"
  refine ite_d (fun h16 => ?_) (fun h16 => ?_)
  ·walk_at "p"
   refine T.rWorld hw ?_
   refine rd_bmL hW.glo ?_
   walk_at "p"
   refine T.rMeter hm ?_
   walk_at "p"
   refine nl (fun l1 H1 n1 e1 s1 _ => ?_)
   walk_at "p"
   refine T.rMeter (s1 _ _ hm) ?_
   walk_at "p"
   refine ⟨2, l1, [((i + 1 : Nat) : Int), (n : Int), (a : Int)], (x.m.key : Int), rfl, e1, (by show 3 < 1000; decide), fun l2 H2 n2 e2 s2 => ?_⟩
   have ec : codeI (x.m.key : Int) [2, ((i + 1 : Nat) : Int), (n : Int), (a : Int)] = ((Vbpoac.codeOf x.m.key [2, i + 1, n, a] : Nat) : Int) := code_eq x.m.key [2, i + 1, n, a]
   have s02 := s1.trans s2
   walk_at "p"
   refine do_append (s02 _ _ hW.glo) (by rw [List.length_map]; exact Nat.lt_trans hz (by decide)) (fun H3 h3 k3 => ?_)
   have n02 : H l2 = none := s1.free n2
   have ngl : l2 ≠ D.gl := fun z => by rw [z, hW.glo] at n02; cases n02
   obtain ⟨w3, f3⟩ := hW.grant (H' := H3) (Vbpoac.grantOf x.m (i + 1) n a) n02 h3 ((k3 _ ngl).trans (by rw [e2]; show some (HO.lst [.int _, .int _, .int _, .int (codeI (x.m.key : Int) [2, ((i + 1 : Nat) : Int), (n : Int), (a : Int)])]) = _; rw [ec]; rfl)) fun b u hb hn => by rw [k3 b hn]; exact s02 b u hb
   refine q _ H3 ?_ (by rfl) w3 f3
   unfold Vbpoac.sendGrant
   rw [if_neg (by rw [lg]; unfold Vbpoac.LINE; omega)]
   simp [DS.st]
  ·walk_at "p"
   refine q D H ?_ rfl hW Fr.refl
   unfold Vbpoac.sendGrant
   rw [if_pos (by rw [lg]; unfold Vbpoac.LINE; omega)]
end
section
variable {P : Program} {w : World} {K : PySem.W.Frag} {mg : Str → Option Value} {base : Heap} {A : Adr}
theorem find_at (D : DS) (n : Nat) : (findM D (n : Int) = none ∧ (Vbpoac.meterAt D.st n = none ∨ ∃ m, Vbpoac.meterAt D.st n = some m ∧ m.gone = true)) ∨
  (∃ i x, n = i + 1 ∧ D.meters[i]? = some x ∧ x.m.gone = false ∧ findM D (n : Int) = some x ∧ Vbpoac.meterAt D.st n = some x.m) := by
 cases n with
 | zero => exact .inl ⟨by unfold findM; rw [if_neg (by omega)], .inl rfl⟩
 | succ i =>
  have e1 : Vbpoac.meterAt D.st (i + 1) = (D.meters[i]?).map (·.m) := by
   show (D.meters.map (·.m))[_]? = _
   rw [List.getElem?_map]; rfl
  have e2 : (((i + 1 : Nat) : Int) - 1).toNat = i := by omega
  cases hx : D.meters[i]? with
  | none =>
   refine .inl ⟨?_, .inl (by rw [e1, hx]; rfl)⟩
   unfold findM
   rw [e2, hx]
   simp
  | some x =>
   have hlt : i < D.meters.length := (List.getElem?_eq_some_iff.mp hx).1
   have ef : findM D ((i + 1 : Nat) : Int) = if x.m.gone = true then none else some x := by
    unfold findM
    rw [if_pos ⟨by omega, by omega⟩, e2, hx]
   cases hg : x.m.gone with
   | true =>
    rw [hg, if_pos rfl] at ef
    exact .inl ⟨ef, .inr ⟨x.m, by rw [e1, hx]; rfl, hg⟩⟩
   | false =>
    rw [hg, if_neg Bool.false_ne_true] at ef
    exact .inr ⟨i, x, rfl, hx, hg, ef, by rw [e1, hx]; rfl⟩
noncomputable def askRes (D : DS) (a : Vbpoac.Ask) (x : DM) : Vbpoac.State :=
 if a.sum ≠ Vbpoac.nsum (Vbpoac.granted D.st a.meter) ∨ Vbpoac.balance D.st x.m.account < (a.amount : Int) then D.st
 else Vbpoac.sendGrant (Vbpoac.wrote D.st x.m.account 3 a.amount a.meter) (Vbpoac.grantOf x.m a.meter a.number a.amount)
noncomputable def spx3v (A : Adr) : Sp := fun vs H Q _ => ∃ (D : DS) (i : Nat) (x : DM) (l : Addr) (a : Vbpoac.Ask), vs = [.ref D.w, .ref x.a, .ref l] ∧ WAt A H D ∧ D.meters[i]? = some x ∧ a.meter = i + 1 ∧ H l = some (.lst (askV a)) ∧ ¬ Foot A D l ∧ D.journal.length < 9000 ∧ D.grants.length < 1000 ∧
 To A D H (askRes D a x) (Q (.int (((askRes D a x).journal.length - D.st.journal.length : Nat) : Int)))
theorem cx3v (P : Program) (w : World) (base : Heap) (T : Txt K mg A) : Cal P w K mg base 5 "grant_refill" ["world", "meter", "message"] (spx3v A) := by
 have Mxb := cxb P w base T
 have Mxc := cxc P w base T
 have Mx26 := cx26 P w base T
 have Cx3u := cx3u P w base T
 obtain ⟨f, fd, F, hm, b⟩ := T.fx3v
 refine ⟨f, fd, F.ok (k := 4) scx3v (fun vs H Q E h => ?_) (fun cdv A' outer s H vs Q E hr h => ?_), hm, F.kp, b⟩
 ·obtain ⟨_, _, _, _, _, rfl, _⟩ := h
  rfl
 ·obtain ⟨D, i, x, l, a, rfl, h⟩ := h
  refine ⟨_, (pss_cons (pst 3 scx3v.nd (pe_ix ix_list (pv 2) (pgi T.gx3r) (fun _ _ => rfl)))
   (pss_cons (ps_if (pt_cmpR op_ne (pe_ix ix_list (pv 2) (pgi T.gx3s) (fun _ _ => rfl)) (pe_callB (cr_sum rfl) (by rfl) T.b_sum (by decide +kernel) (pa_cons (pmt (pfl (pv 0)) T.clx7 Mxc hr (pa_cons (pfl (pv 1)) pa_nil)) pa_nil)) (nomark _)) (pss_one (ps_ret pe_int)) pss_nil)
   (pss_cons (ps_if (pt_cmpR op_lt (pmt (pfl (pv 0)) T.clx7 Mxb hr (pa_cons (pfl (pv 1)) pa_nil)) (pv 3) (nomark _)) (pss_one (ps_ret pe_int)) pss_nil)
   (pss_cons (ps_expr (pmt (pv 0) T.clx1y Mx26 hr (pa_cons (pfl (pv 1)) (pa_cons (pgi T.gx2) (pa_cons (pv 3) (pa_cons (pfl (pv 1)) pa_nil))))))
   (pss_cons (ps_expr (pcl Cx3u hr rfl (pa_cons (pv 0) (pa_cons (pv 1) (pa_cons (pe_ix ix_list (pv 2) (pgi T.gx3q) (fun _ _ => rfl)) (pa_cons (pv 3) pa_nil))))))
   (pss_one (ps_ret pe_int))))))), ?_⟩
  obtain ⟨hW, hx, hi, hl, hnf, hz, hzg, q⟩ := h
  obtain ⟨dw, hw⟩ := hW.wo
  obtain ⟨dj, hj⟩ := hW.jo
  obtain ⟨⟨dx, hm⟩, _⟩ := hW.mo hx
  walk_at "p"
  refine rd_ix 2 hl ?_
  walk_at "p"
  refine rd_ix 3 hl ?_
  walk_at "p"
  refine T.rWorld hw ?_
  refine rd_met hj rfl ?_
  walk_at "p"
  refine T.rMeter hm ?_
  walk_at "p"
  refine ⟨D, ((i + 1 : Nat) : Int), rfl, hW, by omega, fun l1 H1 n1 e1 s1 => ?_⟩
  rw [gr_eq] at e1
  walk_at "p"
  refine ⟨l1, (Vbpoac.granted D.st (i + 1)).map fun (k : Nat) => (k : Int), rfl, SqL.of e1, ?_⟩
  rw [sum_nsum]
  walk_at "p"
  have hW1 := hW.same s1
  have nores : ∀ H', Same H H' → (a.sum ≠ Vbpoac.nsum (Vbpoac.granted D.st a.meter) ∨ Vbpoac.balance D.st x.m.account < (a.amount : Int)) → Q (.int 0) H' := fun H' s' z => by
   have e : askRes D a x = D.st := by unfold askRes; rw [if_pos z]
   have := q D H' e.symm rfl (hW.same s') (Fr.same s')
   rw [e, Nat.sub_self] at this; exact this
  refine ite_nd (fun hs => ?_) (fun hs => ?_)
  ·walk_at "p"
   exact nores H1 s1 (.inl (by rw [hi]; omega))
  ·obtain ⟨dw1, hw1⟩ := hW1.wo
   obtain ⟨dj1, hj1⟩ := hW1.jo
   walk_at "p"
   refine T.rWorld hw1 ?_
   refine rd_met hj1 rfl ?_
   walk_at "p"
   refine T.rMeter (s1 _ _ hm) ?_
   walk_at "p"
   refine ⟨D, (x.m.account : Int), rfl, hW1, by omega, fun H1b s1b => ?_⟩
   replace s1 := s1.trans s1b
   replace hW1 := hW.same s1
   clear hw1 hj1
   obtain ⟨dw1, hw1⟩ := hW1.wo
   rw [← bal_eq]
   walk_at "p"
   refine ite_d (fun hb => ?_) (fun hb => ?_)
   ·walk_at "p"
    exact nores _ s1 (.inr hb)
   ·have er : askRes D a x = Vbpoac.sendGrant (Vbpoac.wrote D.st x.m.account 3 a.amount a.meter) (Vbpoac.grantOf x.m a.meter a.number a.amount) := by
     unfold askRes
     rw [if_neg (fun z => z.elim (fun z => z (by rw [hi]; omega)) hb)]
    walk_at "p"
    refine rd_met hw1 rfl ?_
    walk_at "p"
    refine T.rMeter (s1 _ _ hm) ?_
    walk_at "p"
    refine T.rMeter (s1 _ _ hm) ?_
    walk_at "p"
    refine ⟨D, x.m.account, 3, a.amount, i + 1, rfl, hW1, by omega, fun p2 H2 w2 f2 => ?_⟩
    have hl2 : H2 l = some (.lst (askV a)) := f2.keep _ _ (s1 _ _ hl) hnf
    walk_at "p"
    refine rd_ix 1 hl2 ?_
    walk_at "p"
    refine ⟨_, i, x, a.number, a.amount, (by rfl), w2, hx, hzg, fun D3 H3 st3 ew3 w3 f3 => ?_⟩
    walk_at "p"
    have est : D3.st = askRes D a x := by
     rw [st3, er, hi]
     simp [DS.st, Vbpoac.wrote]
    have := q D3 H3 est ew3 w3 (((Fr.same s1).trans f2).trans f3)
    have ej : (askRes D a x).journal.length - D.st.journal.length = 1 := by
     rw [er]
     unfold Vbpoac.sendGrant Vbpoac.wrote
     by_cases z : Vbpoac.LINE ≤ D.st.grants.length
     ·simp [z]
     ·simp [z]
    rw [ej] at this
    exact this
noncomputable def spx3w (A : Adr) : Sp := fun vs H Q _ => ∃ (D : DS) (l : Addr) (a : Vbpoac.Ask), vs = [.ref D.w, .ref l] ∧ WAt A H D ∧ H l = some (.lst (askV a)) ∧ ¬ Foot A D l ∧ D.journal.length < 9000 ∧ D.grants.length < 1000 ∧
 To A D H (Vbpoac.asked D.st a) (Q (.int (((Vbpoac.asked D.st a).journal.length - D.st.journal.length : Nat) : Int)))
theorem cx3w (P : Program) (w : World) (base : Heap) (T : Txt K mg A) : Cal P w K mg base 6 "ask_arrives" ["world", "message"] (spx3w A) := by
 have Mxc := cxc P w base T
 have Mx22 := cx22 P w base T
 have Cx3v := cx3v P w base T
 have Cx2q := cx2q P w base T
 have Cx3u := cx3u P w base T
 obtain ⟨f, fd, F, hm, b⟩ := T.fx3w
 refine ⟨f, fd, F.ok (k := 5) scx3w (fun vs H Q E h => ?_) (fun cdv A' outer s H vs Q E hr h => ?_), hm, F.kp, b⟩
 ·obtain ⟨_, _, _, rfl, _⟩ := h
  rfl
 ·obtain ⟨D, l, a, rfl, h⟩ := h
  refine ⟨_, (pss_cons (pst 2 scx3w.nd (pmt (pv 0) T.clx1y Mx22 hr (pa_cons (pe_ix ix_list (pv 1) (pgi T.gx3p) (fun _ _ => rfl)) pa_nil)))
   (pss_cons (ps_if (PW.pt (pw_or (pt_cmp (pc_isN (pv 2))) (pw_or (pt_cmp (pc_notN (pfl (pv 2)))) (pw_or1 (pt_not (ptt (pcl Cx2q hr rfl (pa_cons (pgi T.gx2l) (pa_cons (pv 1) (pa_cons (pfl (pv 2)) pa_nil)))))))))) (pss_one (ps_ret pe_int)) pss_nil)
   (pss_cons (pst 3 scx3w.nd (pmt (pfl (pv 0)) T.clx7 Mxc hr (pa_cons (pfl (pv 2)) pa_nil)))
   (pss_cons (pst 4 scx3w.nd (pe_ix ix_list (pv 1) (pgi T.gx3q) (fun _ _ => rfl)))
   (pss_cons (ps_if (pt_cmpR op_eq (pv 4) (pe_op op_add (pe_callB call_len_seq (by rfl) T.b_len (by decide +kernel) (pa_cons (pv 3) pa_nil)) pe_int) (nomark _)) (pss_one (ps_ret (pcl Cx3v hr rfl (pa_cons (pv 0) (pa_cons (pv 2) (pa_cons (pv 1) pa_nil)))))) pss_nil)
   (pss_cons (ps_if (PW.pt (pw_and (pt_cmpR op_eq (pv 4) (pe_callB call_len_seq (by rfl) T.b_len (by decide +kernel) (pa_cons (pv 3) pa_nil)) (nomark _)) (pw_and1 (pt_cmpR op_ge (pv 4) pe_int (nomark _))))) (pss_one (ps_expr (pcl Cx3u hr rfl (pa_cons (pv 0) (pa_cons (pv 2) (pa_cons (pv 4) (pa_cons (pe_ix ix_list (pv 3) (pe_un un_neg pe_int) (fun _ _ => rfl)) pa_nil))))))) pss_nil)
   (pss_one (ps_ret pe_int)))))))), ?_⟩
  obtain ⟨hW, hl, hnf, hz, hzg, q⟩ := h
  obtain ⟨dw, hw⟩ := hW.wo
  obtain ⟨dj, hj⟩ := hW.jo
  have nores : ∀ H', Same H H' → Vbpoac.asked D.st a = D.st → Q (.int 0) H' := fun H' s' e => by
   have := q D H' e.symm rfl (hW.same s') (Fr.same s')
   rw [e, Nat.sub_self] at this; exact this
  walk_at "p"
  refine rd_met hw rfl ?_
  walk_at "p"
  refine rd_ix 0 hl ?_
  walk_at "p"
  refine ⟨D, (a.meter : Int), rfl, hW, ?_⟩
  walk_at "p"
  rcases find_at D a.meter with ⟨ef, hma⟩ | ⟨i, x, hi, hx, hg, ef, hma⟩
  ·rw [ef]
   refine ite_d (fun _ => ?_) (fun z => absurd rfl z)
   refine iteT ?_
   walk_at "p"
   refine nores H (Same.refl H) ?_
   unfold Vbpoac.asked
   rcases hma with e | ⟨m, e, g⟩
   ·rw [e]
   ·rw [e]; exact if_pos (.inl g)
  ·rw [ef]
   obtain ⟨⟨dx, hm⟩, _⟩ := hW.mo hx
   have ea : Vbpoac.asked D.st a = if x.m.gone = true ∨ x.m.stopped.isSome = true ∨ a.code ≠ Vbpoac.codeOf x.m.key [1, a.meter, a.number, a.amount, a.sum] then D.st
     else if a.number = (Vbpoac.granted D.st a.meter).length + 1 then askRes D a x
     else if a.number = (Vbpoac.granted D.st a.meter).length ∧ 0 < (Vbpoac.granted D.st a.meter).length then Vbpoac.sendGrant D.st (Vbpoac.grantOf x.m a.meter a.number ((Vbpoac.granted D.st a.meter).getLastD 0)) else D.st := by
    unfold Vbpoac.asked askRes
    rw [hma]
   refine ite_d (fun z => by cases z) (fun _ => ?_)
   walk_at "p"
   refine T.rMeter hm ?_
   walk_at "p"
   cases hs : x.m.stopped with
   | some d =>
    refine ite_nd (fun _ => ?_) (fun z => by cases z)
    refine iteT ?_
    walk_at "p"
    refine nores H (Same.refl H) ?_
    rw [ea, if_pos (.inr (.inl (by rw [hs]; rfl)))]
   | none =>
    refine ite_nd (fun z => absurd rfl z) (fun _ => ?_)
    walk_at "p"
    refine T.rMeter hm ?_
    walk_at "p"
    refine ⟨1, l, [(a.meter : Int), (a.number : Int), (a.amount : Int), (a.sum : Int)], (a.code : Int), (x.m.key : Int), rfl, hl, (by show 4 < 1000; decide), fun H1 s1 => ?_⟩
    have ec : codeI (x.m.key : Int) [1, (a.meter : Int), (a.number : Int), (a.amount : Int), (a.sum : Int)] = ((Vbpoac.codeOf x.m.key [1, a.meter, a.number, a.amount, a.sum] : Nat) : Int) := code_eq x.m.key [1, a.meter, a.number, a.amount, a.sum]
    rw [ec]
    have hW1 := hW.same s1
    obtain ⟨dw1, hw1⟩ := hW1.wo
    obtain ⟨dj1, hj1⟩ := hW1.jo
    walk_at "p"
    refine ite_nd (fun hcd => ?_) (fun hcd => ?_)
    ·walk_at "p"
     refine nores H1 s1 ?_
     rw [ea, if_pos (.inr (.inr (by omega)))]
    ·have ea1 := ea.trans (if_neg (by rw [hg, hs]; simp; omega))
     walk_at "p"
     refine T.rWorld hw1 ?_
     refine rd_met hj1 rfl ?_
     walk_at "p"
     refine T.rMeter (s1 _ _ hm) ?_
     walk_at "p"
     refine ⟨D, ((i + 1 : Nat) : Int), rfl, hW1, by omega, fun l2 H2 n2 e2 s2 => ?_⟩
     rw [gr_eq, List.map_map, ← hi] at e2
     have s02 := s1.trans s2
     have hW2 := hW.same s02
     walk_at "p"
     refine rd_ix 1 (s02 _ _ hl) ?_
     walk_at "p"
     refine ⟨l2, _, rfl, .inl (SqL.of e2), ?_⟩
     rw [List.length_map]
     walk_at "p"
     refine ite_d (fun hn => ?_) (fun hn => ?_)
     ·have ea2 := ea1.trans (if_pos (by omega))
      walk_at "p"
      refine ⟨D, i, x, l, a, rfl, hW2, hx, hi, s02 _ _ hl, hnf, hz, hzg, fun D3 H3 st3 ew3 w3 f3 => ?_⟩
      have := q D3 H3 (st3.trans ea2.symm) ew3 w3 ((Fr.same s02).trans f3)
      rw [ea2] at this; exact this
     ·have ea2 := ea1.trans (if_neg (by omega))
      walk_at "p"
      refine ⟨l2, _, rfl, .inl (SqL.of e2), ?_⟩
      rw [List.length_map]
      walk_at "p"
      refine ite_d (fun hn2 => ?_) (fun hn2 => ?_)
      ·walk_at "p"
       refine ite_d (fun hn3 => ?_) (fun hn3 => ?_)
       ·have hpos : 0 < (Vbpoac.granted D.st a.meter).length := by omega
        have ea3 := ea2.trans (if_pos ⟨by omega, hpos⟩)
        obtain ⟨pre, last, hpl⟩ : ∃ pre last, Vbpoac.granted D.st a.meter = pre ++ [last] := ⟨_, _, (List.dropLast_concat_getLast (List.ne_nil_of_length_pos hpos)).symm⟩
        walk_at "p"
        refine ⟨l2, _, _, .int (last : Int), rfl, rfl, SqL.of e2, ?_, ?_⟩
        ·rw [hpl, List.map_append]; exact atI_last _ _
        ·walk_at "p"
         refine ⟨D, i, x, a.number, last, rfl, hW2, hx, hzg, fun D3 H3 st3 ew3 w3 f3 => ?_⟩
         have est : Vbpoac.asked D.st a = Vbpoac.sendGrant D.st (Vbpoac.grantOf x.m (i + 1) a.number last) := by
          rw [ea3, hpl, hi]; simp
         have := q D3 H3 (st3.trans est.symm) ew3 w3 ((Fr.same s02).trans f3)
         have ej : (Vbpoac.asked D.st a).journal.length - D.st.journal.length = 0 := by
          rw [est]
          unfold Vbpoac.sendGrant
          by_cases z : Vbpoac.LINE ≤ D.st.grants.length
          ·simp [z]
          ·simp [z]
         rw [ej] at this
         walk_at "p"
         exact this
       ·walk_at "p"
        refine nores H2 s02 ?_
        rw [ea2, if_neg (by omega)]
      ·walk_at "p"
       refine nores H2 s02 ?_
       rw [ea2, if_neg (by omega)]
end
section
variable {P : Program} {w : World} {K : PySem.W.Frag} {mg : Str → Option Value} {base : Heap} {A : Adr}
theorem stored_stored (D : DS) (i : Nat) (x : DM) (m m' : Vbpoac.Meter) : (stored (stored D i x m) i { x with m := m } m').st = Vbpoac.setMeter D.st (i + 1) m' := by
 rw [stored_st, stored_st]
 unfold Vbpoac.setMeter
 simp [List.set_set]
noncomputable def spx3x (A : Adr) : Sp := fun vs H Q _ => ∃ (D : DS) (l : Addr) (g : Vbpoac.Grant) (k : Int), vs = [.ref D.w, .ref l, .int k] ∧ WAt A H D ∧ H l = some (.lst (grantV g)) ∧ (0 ≤ k ∧ k ≤ 6) ∧ To A D H (Vbpoac.refilled D.st g k.toNat) (Q .non)
theorem cx3x (P : Program) (w : World) (base : Heap) (T : Txt K mg A) : Cal P w K mg base 4 "grant_arrives" ["world", "message", "k"] (spx3x A) := by
 have Mx1o := cx1o P w base T
 have Mx1q := cx1q P w base T
 have Mx22 := cx22 P w base T
 have Cx2q := cx2q P w base T
 obtain ⟨f, fd, F, hm, b⟩ := T.fx3x
 refine ⟨f, fd, F.ok (k := 3) scx3x (fun vs H Q E h => ?_) (fun cdv A' outer s H vs Q E hr h => ?_), hm, F.kp, b⟩
 ·obtain ⟨_, _, _, _, rfl, _⟩ := h
  rfl
 ·obtain ⟨D, l, g, k, rfl, h⟩ := h
  refine ⟨_, (pss_cons (pst 3 scx3x.nd (pmt (pv 0) T.clx1y Mx22 hr (pa_cons (pe_ix ix_list (pv 1) (pgi T.gx3p) (fun _ _ => rfl)) pa_nil)))
   (pss_cons (ps_if (PW.pt (pw_or (pt_cmp (pc_isN (pv 3))) (pw_or (pt_not (ptt (pfl (pv 3)))) (pw_or1 (pt_not (ptt (pcl Cx2q hr rfl (pa_cons (pgi T.gx2m) (pa_cons (pv 1) (pa_cons (pfl (pv 3)) pa_nil)))))))))) (pss_one ps_retN) pss_nil)
   (pss_cons (pst 4 scx3x.nd (pmt0 (pfl (pv 3)) T.clx1l Mx1o hr))
   (pss_cons (ps_if (pt_cmpR op_ne (pe_ix ix_list (pv 1) (pgi T.gx3q) (fun _ _ => rfl)) (pe_op op_add (pe_ix ix_list (pv 4) (pgi T.gx1j) (fun _ _ => rfl)) pe_int) (nomark _)) (pss_one ps_retN) pss_nil)
   (pss_cons (pst 5 scx3x.nd (pe_op op_add (pe_ix ix_list (pv 4) (pgi T.gx1h) (fun _ _ => rfl)) (pe_ix ix_list (pv 1) (pgi T.gx3r) (fun _ _ => rfl))))
   (pss_cons (ps_expr (pmt (pfl (pv 3)) T.clx1l Mx1q hr (pa_cons (pe_ix ix_list (pv 4) (pgi T.gx1g) (fun _ _ => rfl)) (pa_cons (pv 5) (pa_cons (pe_ix ix_list (pv 4) (pgi T.gx1i) (fun _ _ => rfl)) (pa_cons (pe_op op_add (pe_ix ix_list (pv 4) (pgi T.gx1j) (fun _ _ => rfl)) pe_int) (pa_cons (pv 2) pa_nil)))))))
   (pss_one (psf (pv 3) (pe_cmpR op_eq (pv 2) (pgi T.gx1k) (nomark _)))))))))), ?_⟩
  obtain ⟨hW, hl, hk, q⟩ := h
  obtain ⟨dw, hw⟩ := hW.wo
  have nores : ∀ H', Same H H' → Vbpoac.refilled D.st g k.toNat = D.st → Q .non H' := fun H' s' e => q D H' e.symm rfl (hW.same s') (Fr.same s')
  walk_at "p"
  refine rd_met hw rfl ?_
  walk_at "p"
  refine rd_ix 0 hl ?_
  walk_at "p"
  refine ⟨D, (g.meter : Int), rfl, hW, ?_⟩
  walk_at "p"
  rcases find_at D g.meter with ⟨ef, hma⟩ | ⟨i, x, hi, hx, hg, ef, hma⟩
  ·rw [ef]
   refine ite_d (fun _ => ?_) (fun z => absurd rfl z)
   refine iteT ?_
   walk_at "p"
   refine nores H (Same.refl H) ?_
   unfold Vbpoac.refilled
   rcases hma with e | ⟨m, e, gg⟩
   ·rw [e]
   ·rw [e]; exact if_pos (.inl gg)
  ·rw [ef]
   obtain ⟨⟨dx, hm⟩, ⟨de, he⟩, _⟩ := hW.mo hx
   have ea : Vbpoac.refilled D.st g k.toNat = if x.m.gone = true ∨ x.m.on = false ∨ g.code ≠ Vbpoac.codeOf x.m.key [2, g.meter, g.number, g.amount] ∨ g.number ≠ (Vbpoac.current x.m).refills + 1 then D.st
     else Vbpoac.setMeter D.st g.meter { Vbpoac.store x.m { Vbpoac.current x.m with falling := (Vbpoac.current x.m).falling + g.amount, refills := (Vbpoac.current x.m).refills + 1 } k.toNat with on := decide (Vbpoac.WORDS ≤ k.toNat) } := by
    unfold Vbpoac.refilled
    rw [hma]
   refine ite_d (fun z => by cases z) (fun _ => ?_)
   walk_at "p"
   refine T.rMeter hm ?_
   walk_at "p"
   refine ite_nb (fun hon => ?_) (fun hon => ?_)
   ·refine iteT ?_
    walk_at "p"
    refine nores H (Same.refl H) ?_
    rw [ea, if_pos (.inr (.inl hon))]
   ·walk_at "p"
    refine T.rMeter hm ?_
    walk_at "p"
    refine ⟨2, l, [(g.meter : Int), (g.number : Int), (g.amount : Int)], (g.code : Int), (x.m.key : Int), rfl, hl, (by show 3 < 1000; decide), fun H1 s1 => ?_⟩
    have ec : codeI (x.m.key : Int) [2, (g.meter : Int), (g.number : Int), (g.amount : Int)] = ((Vbpoac.codeOf x.m.key [2, g.meter, g.number, g.amount] : Nat) : Int) := code_eq x.m.key [2, g.meter, g.number, g.amount]
    rw [ec]
    have hW1 := hW.same s1
    walk_at "p"
    refine ite_nd (fun hcd => ?_) (fun hcd => ?_)
    ·walk_at "p"
     refine nores H1 s1 ?_
     rw [ea, if_pos (.inr (.inr (.inl (by omega))))]
    ·have hcur := cur_at hW1 hx
     walk_at "p"
     refine T.rMeter (s1 _ _ hm) ?_
     refine rd_met (s1 _ _ he) rfl ?_
     walk_at "p"
     refine ⟨D, i, x, rfl, hW1, hx, ?_⟩
     walk_at "p"
     refine rd_ix 1 (s1 _ _ hl) ?_
     walk_at "p"
     refine rd_ix 4 hcur ?_
     walk_at "p"
     refine ite_nd (fun hn => ?_) (fun hn => ?_)
     ·walk_at "p"
      refine nores H1 s1 ?_
      rw [ea, if_pos (.inr (.inr (.inr (by omega))))]
     ·have ea1 := ea.trans (if_neg (by rw [hg, hon]; simp; omega))
      walk_at "p"
      refine rd_ix 2 hcur ?_
      walk_at "p"
      refine rd_ix 2 (s1 _ _ hl) ?_
      walk_at "p"
      refine T.rMeter (s1 _ _ hm) ?_
      refine rd_met (s1 _ _ he) rfl ?_
      walk_at "p"
      refine rd_ix 1 hcur ?_
      walk_at "p"
      refine rd_ix 3 hcur ?_
      walk_at "p"
      refine rd_ix 4 hcur ?_
      walk_at "p"
      refine ⟨D, i, x, { Vbpoac.current x.m with falling := (Vbpoac.current x.m).falling + g.amount, refills := (Vbpoac.current x.m).refills + 1 }, k, rfl, hW1, hx, hk.1, fun H2 w2 f2 => ?_⟩
      have hx2 : (stored D i x (Vbpoac.store x.m { Vbpoac.current x.m with falling := (Vbpoac.current x.m).falling + g.amount, refills := (Vbpoac.current x.m).refills + 1 } (min 6 k.toNat))).meters[i]? =
       some { x with m := Vbpoac.store x.m { Vbpoac.current x.m with falling := (Vbpoac.current x.m).falling + g.amount, refills := (Vbpoac.current x.m).refills + 1 } (min 6 k.toNat) } := List.getElem?_set_self (List.getElem?_eq_some_iff.mp hx).1
      obtain ⟨⟨dx2, hm2⟩, _⟩ := w2.mo hx2
      walk_at "p"
      refine wr_fl hm2 T.clx1u (T.nx1u _ (by decide +kernel)) (by show 7 < 1000; decide) (fun H3 h3 k3 => ?_)
      obtain ⟨w3, f3⟩ := w2.meter (H' := H3) hx2 { Vbpoac.store x.m { Vbpoac.current x.m with falling := (Vbpoac.current x.m).falling + g.amount, refills := (Vbpoac.current x.m).refills + 1 } (min 6 k.toNat) with on := decide (k = 6) } rfl rfl ⟨dx2, h3⟩ fun b u hb hn => by rw [k3 b hn]; exact hb
      refine q _ H3 ?_ (by rfl) w3 (((Fr.same s1).trans f2).trans f3)
      have ed : decide (k = 6) = decide (Vbpoac.WORDS ≤ k.toNat) := by
       unfold Vbpoac.WORDS
       by_cases z : k = 6
       ·rw [decide_eq_true z, decide_eq_true (by omega)]
       ·rw [decide_eq_false z, decide_eq_false (by omega)]
      have e6 : min 6 k.toNat = k.toNat := by omega
      have := stored_stored D i x (Vbpoac.store x.m { Vbpoac.current x.m with falling := (Vbpoac.current x.m).falling + g.amount, refills := (Vbpoac.current x.m).refills + 1 } (min 6 k.toNat)) { Vbpoac.store x.m { Vbpoac.current x.m with falling := (Vbpoac.current x.m).falling + g.amount, refills := (Vbpoac.current x.m).refills + 1 } (min 6 k.toNat) with on := decide (k = 6) }
      refine Eq.trans (show _ = _ from this) ?_
      rw [ea1, hi, ed, e6]
noncomputable abbrev spx3y (A : Adr) : Sp := spC2 A .ask
theorem cx3y (P : Program) (w : World) (base : Heap) (T : Txt K mg A) : Cal P w K mg base 4 "ask" ["world", "number", "amount"] (spx3y A) := by
 have Mx1o := cx1o P w base T
 have Mx22 := cx22 P w base T
 have Mx24 := cx24 P w base T
 have Cx2p := cx2p P w base T
 have Cxl := cxl P w base T
 obtain ⟨f, fd, F, hm, b⟩ := T.fx3y
 refine ⟨f, fd, F.ok (k := 3) scx3y (fun vs H Q E h => ?_) (fun cdv A' outer s H vs Q E hr h => ?_), hm, F.kp, b⟩
 ·obtain ⟨_, _, _, _, rfl, _⟩ := h
  rfl
 ·obtain ⟨c, D, m, n, rfl, h⟩ := h
  refine ⟨_, (pss_cons (ps_if (pt_not (pt_chain op_le op_le pe_int (pv 2) (pgi T.gx3m))) (pss_one (ps_ret (pe_lst (pa_cons (pgi T.gxd) pa_nil)))) pss_nil)
   (pss_cons (pst 3 scx3y.nd (pmt (pv 0) T.clx1y Mx24 hr (pa_cons (pv 1) pa_nil)))
   (pss_cons (ps_if (pt_cmpR op_lt (pv 3) pe_int (nomark _)) (pss_one (ps_ret (pe_lst (pa_cons (pv 3) pa_nil)))) pss_nil)
   (pss_cons (pst 4 scx3y.nd (pmt (pv 0) T.clx1y Mx22 hr (pa_cons (pv 1) pa_nil)))
   (pss_cons (ps_if (pt_not (ptt (pfl (pv 4)))) (pss_one (ps_ret (pe_lst (pa_cons (pgi T.gxf) pa_nil)))) pss_nil)
   (pss_cons (ps_if (pt_cmpR op_eq (pe_callB call_len_seq (by rfl) T.b_len (by decide +kernel) (pa_cons (pfl (pv 0)) pa_nil)) (pgi T.gx3l) (nomark _)) (pss_one (ps_ret (pe_lst (pa_cons (pgi T.gxk) pa_nil)))) pss_nil)
   (pss_cons (pst 5 scx3y.nd (pmt0 (pfl (pv 4)) T.clx1l Mx1o hr))
   (pss_cons (pst 6 scx3y.nd (pe_op op_add (pe_ix ix_list (pv 5) (pgi T.gx1g) (fun _ _ => rfl)) (pe_ix ix_list (pv 5) (pgi T.gx1h) (fun _ _ => rfl))))
   (pss_cons (pst 7 scx3y.nd (pcl Cx2p hr rfl (pa_cons (pgi T.gx2l) (pa_cons (pe_lst (pa_cons (pv 1) (pa_cons (pe_op op_add (pe_ix ix_list (pv 5) (pgi T.gx1j) (fun _ _ => rfl)) pe_int) (pa_cons (pv 2) (pa_cons (pv 6) pa_nil))))) (pa_cons (pfl (pv 4)) pa_nil)))))
   (pss_cons (ps_expr (pe_bm PySem.F.plainAttrs_list PySem.F.slot_list_append PySem.F.type_list_append mt_append (pfl (pv 0)) (pa_cons (pv 7) pa_nil)))
   (pss_one (ps_ret (pcl Cxl hr rfl (pa_cons (pe_ix ix_list (pv 7) (pgi T.gx3q) (fun _ _ => rfl)) (pa_cons (pe_lst (pa_cons (pv 7) pa_nil)) pa_nil))))))))))))))), ?_⟩
  obtain ⟨hW, hG, hc, q⟩ := h
  obtain ⟨dw, hw⟩ := hW.wo
  have la : D.st.asks.length = D.asks.length := List.length_map _
  have hla : D.asks.length ≤ 16 := by have := hG.asks; omega
  walk_at "p"
  refine ite_out (fun no => ?_) (fun h1 h2 => ?_)
  ·walk_at "p"
   refine nl (fun p H1 hp e1 s1 k1 => q D H1 p ?_)
   exact (Ans.no hW hp e1 s1 k1).mk' ((step_ask _ _ _).trans (if_pos (inside_no no)))
  ·have e0 := (step_ask D.st m n).trans (if_neg (inside_yes ⟨h1, h2⟩))
   walk_at "p"
   refine rd_met hw rfl ?_
   walk_at "p"
   refine ⟨D, m, rfl, hW, ?_⟩
   walk_at "p"
   rcases metRef_cases D m with ⟨er, es⟩ | ⟨er, es⟩ | ⟨er, i, x, rfl, hx, hg, ef, es⟩
   ·refine ite_d (fun _ => ?_) (fun z => absurd (show metRef D m < 0 by omega) z)
    walk_at "p"
    refine nl (fun p H1 hp e1 s1 k1 => q D H1 p ?_)
    rw [er] at e1
    exact (Ans.no hW hp e1 s1 k1).mk' (e0.trans (es _))
   ·refine ite_d (fun _ => ?_) (fun z => absurd (show metRef D m < 0 by omega) z)
    walk_at "p"
    refine nl (fun p H1 hp e1 s1 k1 => q D H1 p ?_)
    rw [er] at e1
    exact (Ans.no hW hp e1 s1 k1).mk' (e0.trans (es _))
   ·refine ite_d (fun z => absurd z (show ¬ metRef D _ < 0 by omega)) (fun _ => ?_)
    have e1 := e0.trans (es _)
    obtain ⟨⟨dx, hm⟩, ⟨de, he⟩, _⟩ := hW.mo hx
    have hcur := cur_at hW hx
    walk_at "p"
    refine rd_met hw rfl ?_
    walk_at "p"
    refine ⟨D, _, rfl, hW, ?_⟩
    rw [ef]
    walk_at "p"
    refine T.rMeter hm ?_
    walk_at "p"
    refine ite_nb (fun hon => ?_) (fun hon => ?_)
    ·walk_at "p"
     refine nl (fun p H1 hp e2 s1 k1 => q D H1 p ?_)
     exact (Ans.no hW hp e2 s1 k1).mk' (e1.trans (if_pos hon))
    ·have e2 := e1.trans (if_neg (by rw [hon]; simp))
     walk_at "p"
     refine T.rWorld hw ?_
     walk_at "p"
     refine ⟨D.al, _, rfl, .inl (SqL.of hW.alo), ?_⟩
     rw [List.length_map]
     walk_at "p"
     refine ite_d (fun n8 => ?_) (fun n8 => ?_)
     ·walk_at "p"
      refine nl (fun p H1 hp e3 s1 k1 => q D H1 p ?_)
      exact (Ans.no hW hp e3 s1 k1).mk' (e2.trans (if_pos (by rw [la]; unfold Vbpoac.LINE; omega)))
     ·have e3 := e2.trans (if_neg (by rw [la]; unfold Vbpoac.LINE; omega))
      walk_at "p"
      refine T.rMeter hm ?_
      refine rd_met he rfl ?_
      walk_at "p"
      refine ⟨D, i, x, rfl, hW, hx, ?_⟩
      walk_at "p"
      refine rd_ix 1 hcur ?_
      walk_at "p"
      refine rd_ix 2 hcur ?_
      walk_at "p"
      refine rd_ix 4 hcur ?_
      walk_at "p"
      refine nl (fun l1 H1 n1 g1 s1 _ => ?_)
      walk_at "p"
      refine T.rMeter (s1 _ _ hm) ?_
      walk_at "p"
      have en : n = (n.toNat : Int) := by omega
      refine ⟨1, l1, [((i + 1 : Nat) : Int), (((Vbpoac.current x.m).refills + 1 : Nat) : Int), (n.toNat : Int), (((Vbpoac.current x.m).rising + (Vbpoac.current x.m).falling : Nat) : Int)], (x.m.key : Int), rfl, by rw [g1, ← en]; rfl, (by show 4 < 1000; decide), fun l2 H2 n2 g2 s2 => ?_⟩
      have ec : codeI (x.m.key : Int) [1, ((i + 1 : Nat) : Int), (((Vbpoac.current x.m).refills + 1 : Nat) : Int), (n.toNat : Int), (((Vbpoac.current x.m).rising + (Vbpoac.current x.m).falling : Nat) : Int)] = ((Vbpoac.codeOf x.m.key [1, i + 1, (Vbpoac.current x.m).refills + 1, n.toNat, (Vbpoac.current x.m).rising + (Vbpoac.current x.m).falling] : Nat) : Int) := code_eq x.m.key [1, i + 1, (Vbpoac.current x.m).refills + 1, n.toNat, (Vbpoac.current x.m).rising + (Vbpoac.current x.m).falling]
      have g2' : H2 l2 = some (.lst (askV ⟨i + 1, (Vbpoac.current x.m).refills + 1, n.toNat, (Vbpoac.current x.m).rising + (Vbpoac.current x.m).falling, Vbpoac.codeOf x.m.key [1, i + 1, (Vbpoac.current x.m).refills + 1, n.toNat, (Vbpoac.current x.m).rising + (Vbpoac.current x.m).falling]⟩)) := by
       rw [g2, ec]; rfl
      have s02 := s1.trans s2
      have n02 : H l2 = none := s1.free n2
      walk_at "p"
      refine T.rWorld (s02 _ _ hw) ?_
      refine rd_bmL (s02 _ _ hW.alo) ?_
      walk_at "p"
      refine do_append (s02 _ _ hW.alo) (by rw [List.length_map]; exact Nat.lt_of_le_of_lt hla (by decide)) (fun H3 h3 k3 => ?_)
      have nal : l2 ≠ D.al := fun z => by rw [z, hW.alo] at n02; cases n02
      have g3 := (k3 _ nal).trans g2'
      obtain ⟨w3, f3⟩ := hW.ask (H' := H3) ⟨i + 1, (Vbpoac.current x.m).refills + 1, n.toNat, (Vbpoac.current x.m).rising + (Vbpoac.current x.m).falling, Vbpoac.codeOf x.m.key [1, i + 1, (Vbpoac.current x.m).refills + 1, n.toNat, (Vbpoac.current x.m).rising + (Vbpoac.current x.m).falling]⟩ n02 h3 g3 fun b u hb hn => by rw [k3 b hn]; exact s02 b u hb
      walk_at "p"
      refine rd_ix 1 g3 ?_
      walk_at "p"
      refine nl (fun l4 H4 n4 g4 s4 _ => ?_)
      walk_at "p"
      refine ⟨_, l4, [(l2, Vbpoac.askRow ⟨i + 1, (Vbpoac.current x.m).refills + 1, n.toNat, (Vbpoac.current x.m).rising + (Vbpoac.current x.m).falling, Vbpoac.codeOf x.m.key [1, i + 1, (Vbpoac.current x.m).refills + 1, n.toNat, (Vbpoac.current x.m).rising + (Vbpoac.current x.m).falling]⟩)], rfl, g4, fun r hr' => ?_, (by show 6 < 1000000; decide), fun p H5 hp e5 s5 => ?_⟩
      ·simp only [List.mem_singleton] at hr'
       subst hr'
       exact s4 _ _ g3
      ·refine q _ H5 p ((Ans.rows (n := (Vbpoac.current x.m).refills + 1) (H1 := H4) (w3.same s4) (f3.trans (Fr.same s4)) rfl hp e5 s5 rfl).mk' (e3.trans ?_))
       unfold Vbpoac.sendAsk
       rw [if_neg (by rw [la]; unfold Vbpoac.LINE; omega)]
       congr 1
       simp [DS.st]
noncomputable abbrev spx3z (A : Adr) : Sp := spC1 A .toHouse
theorem cx3z (P : Program) (w : World) (base : Heap) (T : Txt K mg A) : Cal P w K mg base 7 "deliver_to_house" ["world", "place"] (spx3z A) := by
 have Cx3w := cx3w P w base T
 have Cx3t := cx3t P w base T
 have Cxl := cxl P w base T
 obtain ⟨f, fd, F, hm, b⟩ := T.fx3z
 refine ⟨f, fd, F.ok (k := 6) scx3z (fun vs H Q E h => ?_) (fun cdv A' outer s H vs Q E hr h => ?_), hm, F.kp, b⟩
 ·obtain ⟨_, _, _, rfl, _⟩ := h
  rfl
 ·obtain ⟨c, D, i, rfl, h⟩ := h
  refine ⟨_, (pss_cons (pst 2 scx3z.nd (pcl Cx3t hr rfl (pa_cons (pfl (pv 0)) (pa_cons (pv 1) pa_nil))))
   (pss_cons (ps_if (pt_cmpR op_lt (pv 2) pe_int (nomark _)) (pss_one (ps_ret (pe_lst (pa_cons (pv 2) pa_nil)))) pss_nil)
   (pss_cons (pst 3 scx3z.nd (pe_bm PySem.F.plainAttrs_list PySem.F.slot_list_pop PySem.F.type_list_pop mt_popAt (pfl (pv 0)) (pa_cons (pe_op op_sub (pv 1) pe_int) pa_nil)))
   (pss_one (ps_ret (pcl Cxl hr rfl (pa_cons (pcl Cx3w hr rfl (pa_cons (pv 0) (pa_cons (pv 3) pa_nil))) (pa_cons (pe_lst (pa_cons (pv 3) pa_nil)) pa_nil)))))))), ?_⟩
  obtain ⟨hW, hG, hc, q⟩ := h
  obtain ⟨dw, hw⟩ := hW.wo
  have hz := jlen hG hc
  have hz9 : D.journal.length < 9000 := by have := hG.jl; have h2 : D.st.journal.length = D.journal.length := List.length_map _; omega
  have hzg : D.grants.length < 1000 := by have := hG.grants; have h2 : D.st.grants.length = D.grants.length := List.length_map _; omega
  walk_at "p"
  refine T.rWorld hw ?_
  walk_at "p"
  refine ⟨D.al, _, i, rfl, hW.alo, ?_⟩
  rw [List.length_map]
  walk_at "p"
  rcases msgRef_cases D.asks.length i with ⟨er, hi⟩ | ⟨er, hi, hn⟩ | ⟨er, k, rfl, hk, hk16⟩
  ·refine ite_d (fun _ => ?_) (fun z => absurd (show msgRef D.asks.length i < 0 by omega) z)
   walk_at "p"
   refine nl (fun p H1 hp e1 s1 k1 => q D H1 p ?_)
   rw [er] at e1
   exact (Ans.no hW hp e1 s1 k1).mk' ((step_toHouse _ _).trans (if_pos (inside_no hi)))
  ·refine ite_d (fun _ => ?_) (fun z => absurd (show msgRef D.asks.length i < 0 by omega) z)
   walk_at "p"
   refine nl (fun p H1 hp e1 s1 k1 => q D H1 p ?_)
   rw [er] at e1
   refine (Ans.no hW hp e1 s1 k1).mk' ((step_toHouse _ _).trans ?_)
   have en : D.st.asks[i.toNat - 1]? = none := List.getElem?_eq_none (by show (D.asks.map (·.2)).length ≤ _; rw [List.length_map]; omega)
   rw [if_neg (inside_yes hi), en]
  ·refine ite_d (fun z => absurd z (show ¬ msgRef D.asks.length _ < 0 by omega)) (fun _ => ?_)
   obtain ⟨x, hx⟩ : ∃ x, D.asks[k]? = some x := ⟨_, List.getElem?_eq_getElem hk⟩
   have e0 : Vbpoac.step D.st (.toHouse ((k + 1 : Nat) : Int)) = Vbpoac.yes (Vbpoac.asked { D.st with asks := D.st.asks.eraseIdx k } x.2) ((Vbpoac.asked { D.st with asks := D.st.asks.eraseIdx k } x.2).journal.length - D.st.journal.length) [Vbpoac.askRow x.2] := by
    have ek : ((k + 1 : Nat) : Int).toNat - 1 = k := by omega
    have en : D.st.asks[k]? = some x.2 := by show (D.asks.map (·.2))[k]? = _; rw [List.getElem?_map, hx]; rfl
    rw [step_toHouse, if_neg (inside_yes (by omega)), ek, en]
   have hl := hW.ao hx
   walk_at "p"
   refine T.rWorld hw ?_
   refine rd_bmL hW.alo ?_
   walk_at "p"
   refine do_pop hW.alo (k := k) (y := .ref x.1) (by rw [List.getElem?_map, hx]; rfl) (by omega) (by omega) (fun H1 h1' k1 => ?_)
   have nal : x.1 ≠ D.al := fun z => by
    have := hW.inj (.a k) .al (x.1, .lst (askV x.2)) _ (by simp [DS.at_, hx]) rfl z
    cases this
   have hl1 : H1 x.1 = some (.lst (askV x.2)) := (k1 _ nal).trans hl
   obtain ⟨w1, f1, o1⟩ := hW.popAsk (H' := H1) hx h1' fun b u hb hn => by rw [k1 b hn]; exact hb
   have est : ({ D with asks := D.asks.eraseIdx k } : DS).st = { D.st with asks := D.st.asks.eraseIdx k } := by simp [DS.st, map_erase]
   walk_at "p"
   refine ⟨{ D with asks := D.asks.eraseIdx k }, x.1, x.2, rfl, w1, hl1, o1, hz9, hzg, fun D2 H2 st2 ew2 w2 f2 => ?_⟩
   have hl2 : H2 x.1 = some (.lst (askV x.2)) := f2.keep _ _ hl1 o1
   walk_at "p"
   refine nl (fun l4 H4 n4 g4 s4 _ => ?_)
   walk_at "p"
   refine ⟨_, l4, [(x.1, Vbpoac.askRow x.2)], rfl, g4, fun r hr' => ?_, (by show 6 < 1000000; decide), fun p H5 hp e5 s5 => ?_⟩
   ·simp only [List.mem_singleton] at hr'
    subst hr'
    exact s4 _ _ hl2
   ·refine q _ H5 p ((Ans.rows (D' := D2) (H1 := H4) (rows := [Vbpoac.askRow x.2]) (w2.same s4) ((f1.trans f2).trans (Fr.same s4)) ew2 hp e5 s5 rfl).mk' (e0.trans ?_))
    rw [st2, est]
noncomputable abbrev spx40 (A : Adr) : Sp := spC2 A .toMeter
theorem cx40 (P : Program) (w : World) (base : Heap) (T : Txt K mg A) : Cal P w K mg base 5 "deliver_to_meter" ["world", "place", "k"] (spx40 A) := by
 have Cx3x := cx3x P w base T
 have Cx3t := cx3t P w base T
 have Cxl := cxl P w base T
 obtain ⟨f, fd, F, hm, b⟩ := T.fx40
 refine ⟨f, fd, F.ok (k := 4) scx40 (fun vs H Q E h => ?_) (fun cdv A' outer s H vs Q E hr h => ?_), hm, F.kp, b⟩
 ·obtain ⟨_, _, _, _, rfl, _⟩ := h
  rfl
 ·obtain ⟨c, D, i, kk, rfl, h⟩ := h
  refine ⟨_, (pss_cons (ps_if (pt_not (pt_chain op_le op_le pe_int (pv 2) (pgi T.gx1k))) (pss_one (ps_ret (pe_lst (pa_cons (pgi T.gxd) pa_nil)))) pss_nil)
   (pss_cons (pst 3 scx40.nd (pcl Cx3t hr rfl (pa_cons (pfl (pv 0)) (pa_cons (pv 1) pa_nil))))
   (pss_cons (ps_if (pt_cmpR op_lt (pv 3) pe_int (nomark _)) (pss_one (ps_ret (pe_lst (pa_cons (pv 3) pa_nil)))) pss_nil)
   (pss_cons (pst 4 scx40.nd (pe_bm PySem.F.plainAttrs_list PySem.F.slot_list_pop PySem.F.type_list_pop mt_popAt (pfl (pv 0)) (pa_cons (pe_op op_sub (pv 1) pe_int) pa_nil)))
   (pss_cons (ps_expr (pcl Cx3x hr rfl (pa_cons (pv 0) (pa_cons (pv 4) (pa_cons (pv 2) pa_nil)))))
   (pss_one (ps_ret (pcl Cxl hr rfl (pa_cons pe_int (pa_cons (pe_lst (pa_cons (pv 4) pa_nil)) pa_nil)))))))))), ?_⟩
  obtain ⟨hW, hG, hc, q⟩ := h
  obtain ⟨dw, hw⟩ := hW.wo
  walk_at "p"
  refine ite_out (fun no => ?_) (fun h1 h2 => ?_)
  ·walk_at "p"
   refine nl (fun p H1 hp e1 s1 k1 => q D H1 p ?_)
   exact (Ans.no hW hp e1 s1 k1).mk' ((step_toMeter _ _ _).trans (if_pos (.inr (inside_no no))))
  ·walk_at "p"
   refine T.rWorld hw ?_
   walk_at "p"
   refine ⟨D.gl, _, i, rfl, hW.glo, ?_⟩
   rw [List.length_map]
   walk_at "p"
   rcases msgRef_cases D.grants.length i with ⟨er, hi⟩ | ⟨er, hi, hn⟩ | ⟨er, k, rfl, hk, hk16⟩
   ·refine ite_d (fun _ => ?_) (fun z => absurd (show msgRef D.grants.length i < 0 by omega) z)
    walk_at "p"
    refine nl (fun p H1 hp e1 s1 k1 => q D H1 p ?_)
    rw [er] at e1
    exact (Ans.no hW hp e1 s1 k1).mk' ((step_toMeter _ _ _).trans (if_pos (.inl (inside_no hi))))
   ·refine ite_d (fun _ => ?_) (fun z => absurd (show msgRef D.grants.length i < 0 by omega) z)
    walk_at "p"
    refine nl (fun p H1 hp e1 s1 k1 => q D H1 p ?_)
    rw [er] at e1
    refine (Ans.no hW hp e1 s1 k1).mk' ((step_toMeter _ _ _).trans ?_)
    have en : D.st.grants[i.toNat - 1]? = none := List.getElem?_eq_none (by show (D.grants.map (·.2)).length ≤ _; rw [List.length_map]; omega)
    rw [if_neg (by rw [inside_iff, inside_iff]; omega), en]
   ·refine ite_d (fun z => absurd z (show ¬ msgRef D.grants.length _ < 0 by omega)) (fun _ => ?_)
    obtain ⟨x, hx⟩ : ∃ x, D.grants[k]? = some x := ⟨_, List.getElem?_eq_getElem hk⟩
    have e0 : Vbpoac.step D.st (.toMeter ((k + 1 : Nat) : Int) kk) = Vbpoac.yes (Vbpoac.refilled { D.st with grants := D.st.grants.eraseIdx k } x.2 kk.toNat) 0 [Vbpoac.grantRow x.2] := by
     have ek : ((k + 1 : Nat) : Int).toNat - 1 = k := by omega
     have en : D.st.grants[k]? = some x.2 := by show (D.grants.map (·.2))[k]? = _; rw [List.getElem?_map, hx]; rfl
     rw [step_toMeter, if_neg (by rw [inside_iff, inside_iff]; omega), ek, en]
    have hl := hW.go hx
    walk_at "p"
    refine T.rWorld hw ?_
    refine rd_bmL hW.glo ?_
    walk_at "p"
    refine do_pop hW.glo (k := k) (y := .ref x.1) (by rw [List.getElem?_map, hx]; rfl) (by omega) (by omega) (fun H1 h1' k1 => ?_)
    have nal : x.1 ≠ D.gl := fun z => by
     have := hW.inj (.g k) .gl (x.1, .lst (grantV x.2)) _ (by simp [DS.at_, hx]) rfl z
     cases this
    have hl1 : H1 x.1 = some (.lst (grantV x.2)) := (k1 _ nal).trans hl
    obtain ⟨w1, f1, o1⟩ := hW.popGrant (H' := H1) hx h1' fun b u hb hn => by rw [k1 b hn]; exact hb
    have est : ({ D with grants := D.grants.eraseIdx k } : DS).st = { D.st with grants := D.st.grants.eraseIdx k } := by simp [DS.st, map_erase]
    walk_at "p"
    refine ⟨{ D with grants := D.grants.eraseIdx k }, x.1, x.2, kk, rfl, w1, hl1, ⟨h1, h2⟩, fun D2 H2 st2 ew2 w2 f2 => ?_⟩
    have hl2 : H2 x.1 = some (.lst (grantV x.2)) := f2.keep _ _ hl1 o1
    walk_at "p"
    refine nl (fun l4 H4 n4 g4 s4 _ => ?_)
    walk_at "p"
    refine ⟨0, l4, [(x.1, Vbpoac.grantRow x.2)], rfl, g4, fun r hr' => ?_, (by show 5 < 1000000; decide), fun p H5 hp e5 s5 => ?_⟩
    ·simp only [List.mem_singleton] at hr'
     subst hr'
     exact s4 _ _ hl2
    ·refine q _ H5 p ((Ans.rows (n := 0) (D' := D2) (H1 := H4) (rows := [Vbpoac.grantRow x.2]) (w2.same s4) ((f1.trans f2).trans (Fr.same s4)) ew2 hp e5 s5 rfl).mk' (e0.trans ?_))
     rw [st2, est]
end
section
variable {X : Cx}
theorem mt_zfill : MtR X "str.zfill" (fun x xs H Q => ∃ (z : Str) (k : Int), x = .str z ∧ xs = [.int k] ∧ PadOk k = true ∧ Q (.str (Txt.zfill z k)) H) := by
 intro pins s σ H x xs v us Q I rx rs h
 obtain ⟨z, k, rfl, rfl, hk, h⟩ := h
 obtain ⟨t, rfl⟩ := rx
 cases rs with
 | cons r1 rs =>
  cases rs
  obtain ⟨u, rfl⟩ := r1
  exact PySem.SC.zfill hk fun t' n => ⟨.str (Txt.zfill z k), H, I.tok n, ⟨t', rfl⟩, h⟩
noncomputable abbrev TJ := L2.St → Hp → (Str → Hp → Prop) → Prop
noncomputable def PJ (X : Cx) (es : List Expr) (t : TJ) : Prop :=
 ∀ (pins : List (Addr × Obj)) (s : Shared) (σ : L2.St) (H : Hp) (out : Str) (Q : VK), Inv X pins σ H s → out.length + 1000 * es.length ≤ sizeLine → t σ H (fun z H' => Q (.str (out ++ z)) H') →
  wpAny (model X.prog X.w) X.A (joinParts out (evalEach es X.env)) (EP X pins σ Q) X.xe s
theorem app_empty (x : Str) : x ++ Str.empty = x := TL.ext_tl (by rw [TL.tl_append]; show TL.tl x ++ [] = _; rw [List.append_nil])
theorem empty_app (x : Str) : Str.empty ++ x = x := TL.ext_tl (by rw [TL.tl_append]; rfl)
theorem app_assoc (x y z : Str) : x ++ y ++ z = x ++ (y ++ z) := TL.ext_tl (by rw [TL.tl_append, TL.tl_append, TL.tl_append, TL.tl_append, List.append_assoc])
theorem len_app (x y : Str) : (x ++ y).length = x.length + y.length := by rw [TL.len_tl, TL.tl_append, List.length_append, ← TL.len_tl, ← TL.len_tl]
noncomputable def tjNil : TJ := fun _ H R => R Str.empty H
noncomputable def tjStr (x : Str) (t : TJ) : TJ := fun σ H R => t σ H fun z H' => R (x ++ z) H'
noncomputable def rdJT (x : V) (H : Hp) (R : Str → Prop) : Prop := ∃ y : Str, x = .str y ∧ y.length ≤ 1000 ∧ R y
noncomputable def rdJI (x : V) (H : Hp) (R : Str → Prop) : Prop := ∃ i : Int, x = .int i ∧ i.natAbs.log2 < 1920 ∧ (Str.ofString (toString i)).length ≤ 1000 ∧ R (Str.ofString (toString i))
noncomputable def tjTxt (te : TE) (t : TJ) : TJ := fun σ H R => te σ H fun x H1 => rdJT x H1 fun y => t σ H1 fun z H2 => R (y ++ z) H2
noncomputable def tjInt (te : TE) (t : TJ) : TJ := fun σ H R => te σ H fun x H1 => rdJI x H1 fun y => t σ H1 fun z H2 => R (y ++ z) H2
theorem pj_nil : PJ X [] tjNil := fun pins s σ H out Q I hz h => by
 refine joinParts_nil ⟨.str out, H, I.tok _, ⟨_, rfl⟩, ?_⟩ (by omega)
 have h' : Q (.str (out ++ Str.empty)) H := h
 rw [app_empty] at h'
 exact h'
theorem pj_str {x : Str} {j pos} {es : List Expr} {t : TJ} (hr : PJ X es t) (hx : x.length ≤ 1000 := by decide) : PJ X (.Constant (.str x) j pos :: es) (tjStr x t) := fun pins s σ H out Q I hz h => by
 rw [List.length_cons] at hz
 show wpAny _ _ (joinParts out (eval (.Constant (.str x) j pos) X.env :: evalEach es X.env)) _ _ s
 refine joinParts_cons (thn (pe_str (X := X) pins s σ H (fun v H' => v = .str x ∧ H' = H) I ⟨rfl, rfl⟩) fun v s1 q => ?_)
 obtain ⟨v', H1, I1, r, rfl, rfl⟩ := q
 obtain ⟨u, rfl⟩ := r
 refine ⟨by rw [len_app]; omega, hr pins s1 σ H1 (out ++ x) Q I1 (by rw [len_app]; omega) ?_⟩
 have h' : t σ H1 fun z H' => Q (.str (out ++ (x ++ z))) H' := h
 have e : (fun (z : Str) H' => Q (.str (out ++ x ++ z)) H') = fun z H' => Q (.str (out ++ (x ++ z))) H' := by funext z H'; rw [app_assoc]
 rw [e]; exact h'
theorem pj_txt {e : Expr} {te : TE} {pos : Pos} {es : List Expr} {t : TJ} (he : PE X e te) (hr : PJ X es t) : PJ X (.FormattedValue e (-1) none pos :: es) (tjTxt te t) := fun pins s σ H out Q I hz h => by
 rw [List.length_cons] at hz
 show wpAny _ _ (joinParts out (eval (.FormattedValue e (-1) none pos) X.env :: evalEach es X.env)) _ _ s
 refine joinParts_cons (FormattedValue_plain (thn (he pins s σ H _ I h) fun v s1 q => ?_))
 obtain ⟨x, H1, I1, r, y, rfl, hy, q⟩ := q
 obtain ⟨u, rfl⟩ := r
 refine formatField_str (fun t' tk => ?_) (by show y.length ≤ 2 ^ 24; omega)
 refine ⟨by rw [len_app]; omega, hr pins _ σ H1 (out ++ y) Q (I1.tok tk) (by rw [len_app]; omega) ?_⟩
 have e : (fun (z : Str) H' => Q (.str (out ++ y ++ z)) H') = fun z H' => Q (.str (out ++ (y ++ z))) H' := by funext z H'; rw [app_assoc]
 rw [e]; exact q
theorem pj_int {e : Expr} {te : TE} {pos : Pos} {es : List Expr} {t : TJ} (he : PE X e te) (hr : PJ X es t) : PJ X (.FormattedValue e (-1) none pos :: es) (tjInt te t) := fun pins s σ H out Q I hz h => by
 rw [List.length_cons] at hz
 show wpAny _ _ (joinParts out (eval (.FormattedValue e (-1) none pos) X.env :: evalEach es X.env)) _ _ s
 refine joinParts_cons (FormattedValue_plain (thn (he pins s σ H _ I h) fun v s1 q => ?_))
 obtain ⟨x, H1, I1, r, i, rfl, hl, hy, q⟩ := q
 obtain ⟨u, rfl⟩ := r
 refine formatField_int_small hl ?_
 refine ⟨by rw [len_app]; omega, hr pins _ σ H1 (out ++ Str.ofString (toString i)) Q (I1.tok _) (by rw [len_app]; omega) ?_⟩
 have e : (fun (z : Str) H' => Q (.str (out ++ Str.ofString (toString i) ++ z)) H') = fun z H' => Q (.str (out ++ (Str.ofString (toString i) ++ z))) H' := by funext z H'; rw [app_assoc]
 rw [e]; exact q
noncomputable def tJoin (t : TJ) : TE := fun σ H Q => t σ H fun z H' => Q (.str z) H'
theorem pe_join_parts {v1 v2 : Expr} {rest : List Expr} {pos : Pos} {t : TJ} (h : PJ X (v1 :: v2 :: rest) t) (hn : rest.length ≤ 1000 := by decide) : PE X (.JoinedStr (v1 :: v2 :: rest) pos) (tJoin t) := fun pins s σ H Q I q => by
 refine JoinedStr_many ?_
 refine h pins s σ H Str.empty Q I (by rw [List.length_cons, List.length_cons]; show 0 + _ ≤ 2 ^ 24; omega) ?_
 have e : (fun (z : Str) H' => Q (.str (Str.empty ++ z)) H') = fun z H' => Q (.str z) H' := by funext z H'; rw [empty_app]
 rw [e]; exact q
end
section
variable {K : PySem.W.Frag} {σ : L2.St} {H : Hp} {Q : VK} {R : Str → Hp → Prop} {t : TJ} {te : TE} {x : Str}
theorem i_join (h : t σ H fun z H' => Q (.str z) H') : tJoin t σ H Q := h
theorem i_jnil (h : R Str.empty H) : tjNil σ H R := h
theorem i_jstr (h : t σ H fun z H' => R (x ++ z) H') : tjStr x t σ H R := h
theorem i_jtxt (h : te σ H fun x H1 => rdJT x H1 fun y => t σ H1 fun z H2 => R (y ++ z) H2) : tjTxt te t σ H R := h
theorem i_jint (h : te σ H fun x H1 => rdJI x H1 fun y => t σ H1 fun z H2 => R (y ++ z) H2) : tjInt te t σ H R := h
theorem rd_jt {y : Str} {P : Str → Prop} (hy : y.length ≤ 1000) (h : P y) : rdJT (.str y) H P := ⟨y, rfl, hy, h⟩
theorem rd_ji {i : Int} {P : Str → Prop} (hl : i.natAbs.log2 < 1920) (hy : (Str.ofString (toString i)).length ≤ 1000) (h : P (Str.ofString (toString i))) : rdJI (.int i) H P := ⟨i, rfl, hl, hy, h⟩
end
section
open TL (tl numL)
noncomputable def natsB (b : Vbpoac.Bytes) : List Nat := b.map UInt8.toNat
theorem bytes_eq (b : Vbpoac.Bytes) : Vbpoac.bytes b = (natsB b).map fun (n : Nat) => (n : Int) := by unfold Vbpoac.bytes natsB; rw [List.map_map]; rfl
theorem natsB_app (a b : Vbpoac.Bytes) : natsB (a ++ b) = natsB a ++ natsB b := List.map_append ..
theorem toDigits_lt : ∀ (n : Nat), ∀ c ∈ Nat.toDigits 10 n, c.toNat < 256 := fun n c hc => by
 have h : c.toNat ∈ numL n := List.mem_map.mpr ⟨c, hc, rfl⟩
 have := TL.numL_digits n c.toNat h
 omega
theorem dec_eq (n : Nat) : natsB (Vbpoac.decimal n) = numL n := by
 unfold natsB Vbpoac.decimal numL
 have e : (toString n).toList = Nat.toDigits 10 n := by
  show (Nat.repr n).toList = _
  unfold Nat.repr
  simp
 rw [e, List.map_map]
 refine List.map_congr_left fun c hc => ?_
 have := toDigits_lt n c hc
 show (UInt8.ofNat c.toNat).toNat = c.toNat
 simp
 omega
noncomputable def padL (k n : Nat) : List Nat := List.replicate (k - (numL n).length) 48 ++ numL n
theorem pad0 : ∀ k, natsB (Vbpoac.padded k 0) = List.replicate k 48
 | 0 => rfl
 | k + 1 => by
  show natsB (Vbpoac.padded k (0 / 10) ++ [UInt8.ofNat (48 + 0 % 10)]) = _
  rw [natsB_app, Nat.zero_div, pad0 k]
  show List.replicate k 48 ++ [48] = _
  rw [← List.replicate_succ']
theorem pad_eq : ∀ (k n : Nat), 0 < k → n < 10 ^ k → natsB (Vbpoac.padded k n) = padL k n
 | 0, _, h, _ => absurd h (by decide)
 | k + 1, n, _, hn => by
  have hd : natsB [UInt8.ofNat (48 + n % 10)] = [48 + n % 10] := by
   have : n % 10 < 10 := Nat.mod_lt n (by decide)
   simp [natsB]; omega
  show natsB (Vbpoac.padded k (n / 10) ++ [UInt8.ofNat (48 + n % 10)]) = _
  rw [natsB_app, hd]
  by_cases h10 : n < 10
  ·have e : n / 10 = 0 := Nat.div_eq_of_lt h10
   rw [e, pad0]
   unfold padL
   rw [TL.numL_lt h10, Nat.mod_eq_of_lt h10]
   rfl
  ·have hk : 0 < k := by
    rcases Nat.eq_zero_or_pos k with z | z
    ·subst z; simp at hn; omega
    ·exact z
   have hlt : n / 10 < 10 ^ k := by
    rw [Nat.pow_succ] at hn
    exact Nat.div_lt_of_lt_mul (by omega)
   rw [pad_eq k (n / 10) hk hlt]
   unfold padL
   have e := TL.numL_step (n := n) (by omega)
   rw [e, List.length_append, List.append_assoc]
   show List.replicate (k - _) 48 ++ _ = List.replicate (k + 1 - (_ + 1)) 48 ++ _
   rw [Nat.add_sub_add_right]
theorem tl_num (n : Nat) : tl (Str.ofString (toString (n : Int))) = numL n := TL.tl_num n
theorem log_small {n : Nat} (h : n < 10 ^ 20) : ((n : Int)).natAbs.log2 < 1920 := by
 rw [Int.natAbs_natCast]
 by_cases z : n = 0
 ·subst z; decide
 ·rw [Nat.log2_lt z]
  exact Nat.lt_of_lt_of_le h (by decide +kernel)
theorem numL_small {n : Nat} (h : n < 10 ^ 20) : (numL n).length ≤ 20 := by
 have g : ∀ (k n : Nat), 0 < k → n < 10 ^ k → (numL n).length ≤ k := fun k => by
  induction k with
  | zero => intro n h; exact absurd h (by decide)
  | succ k ih =>
   intro n _ hn
   by_cases h10 : n < 10
   ·rw [TL.numL_lt h10]; simp
   ·rw [TL.numL_step (by omega), List.length_append]
    have hk : 0 < k := by
     rcases Nat.eq_zero_or_pos k with z | z
     ·subst z; simp at hn; omega
     ·exact z
    have hlt : n / 10 < 10 ^ k := by
     rw [Nat.pow_succ] at hn
     exact Nat.div_lt_of_lt_mul (by omega)
    have := ih (n / 10) hk hlt
    simp; omega
 exact g 20 n (by decide) h
theorem len_num {n : Nat} (h : n < 10 ^ 20) : (Str.ofString (toString (n : Int))).length ≤ 1000 := by
 rw [TL.len_tl, tl_num]
 exact Nat.le_trans (numL_small h) (by decide)
theorem zfill_num (n k : Nat) : tl (Txt.zfill (Str.ofString (toString (n : Int))) (k : Int)) = padL k n := by
 have hl : (Str.ofString (toString (n : Int))).length = (numL n).length := by rw [TL.len_tl, tl_num]
 unfold Txt.zfill padL
 by_cases h : (k : Int) ≤ ((Str.ofString (toString (n : Int))).length : Int)
 ·rw [if_pos h, tl_num, show k - (numL n).length = 0 by omega]; rfl
 ·rw [if_neg h]
  have hne := TL.numL_ne n
  obtain ⟨c, r, hc⟩ : ∃ c r, numL n = c :: r := by
   cases e : numL n with
   | nil => exact absurd e hne
   | cons c r => exact ⟨c, r, rfl⟩
  have hcd : 48 ≤ c ∧ c ≤ 57 := TL.numL_digits n c (by rw [hc]; exact List.mem_cons_self)
  have hget : (Str.ofString (toString (n : Int))).cps[0]? = some c := by
   have : tl (Str.ofString (toString (n : Int))) = c :: r := by rw [tl_num, hc]
   rw [← Array.getElem?_toList]
   show (tl _)[0]? = _
   rw [this]; rfl
  have ez : PySem.zfilled (Str.ofString (toString (n : Int))) ((k : Int).toNat - (Str.ofString (toString (n : Int))).length) = Builtin.Str.padded (Str.ofString (toString (n : Int))) ((k : Int).toNat - (Str.ofString (toString (n : Int))).length) 0 48 := by
   unfold PySem.zfilled
   rw [hget]
   split
   ·rename_i z; injection z with z; omega
   ·rename_i z; injection z with z; omega
   ·rfl
  rw [ez]
  show (Array.replicate _ 48 ++ (Str.ofString (toString (n : Int))).cps ++ Array.replicate 0 48).toList = _
  rw [Array.toList_append, Array.toList_append]
  show (Array.replicate _ 48).toList ++ tl _ ++ [] = _
  rw [tl_num, List.append_nil, hl]
  simp
end
local macro_rules | `(tactic| walk_at "pm") => `(tactic| first | with_reducible refine i_dnew ?_ | with_reducible refine i_dnT ?_ | with_reducible refine i_join ?_ | with_reducible refine i_jnil ?_ | with_reducible refine i_jstr ?_ | with_reducible refine i_jtxt ?_ | with_reducible refine i_jint ?_)
section
section
variable {P : Program} {w : World} {K : PySem.W.Frag} {mg : Str → Option Value} {base : Heap} {A : Adr}
open TL (tl numL)
noncomputable def intsV (l : List Nat) : List V := l.map fun (n : Nat) => V.int (n : Int)
noncomputable def spx11 (A : Adr) : Sp := fun vs H Q _ => ∃ z : Str, vs = [.str z] ∧ z.cps.size < 100000 ∧ ∀ p H', H p = none → H' p = some (.lst (intsV (tl z))) → Same H H' → Q (.ref p) H'
theorem cx11 (P : Program) (w : World) (base : Heap) (T : Txt K mg A) : Cal P w K mg base 1 "row_of" ["text"] (spx11 A) := by
 obtain ⟨f, fd, F, hm, b⟩ := T.fx11
 refine ⟨f, fd, F.ok (k := 0) scx11 (fun vs H Q E h => ?_) (fun cdv A' outer s H vs Q E hr h => ?_), hm, F.kp, b⟩
 ·obtain ⟨_, rfl, _⟩ := h
  rfl
 ·obtain ⟨z, rfl, h⟩ := h
  refine ⟨_, (pss_one (ps_ret (plc (x := "sign") (n := 1) rfl scx11.nd (pi_str (pv 0)) (blkOk_by (by rfl)) (fun _ _ _ _ _ => by exact (pgn 1 scx11.nd)) (fun _ _ _ _ _ => by exact pts_nil) (fun _ _ _ _ _ => by exact (pe_callB call_ord (by rfl) T.b_ord (by decide +kernel) (pa_cons (pv 1) pa_nil)))))), ?_⟩
  obtain ⟨hz, q⟩ := h
  walk_at "p"
  refine rd_lcS (Nat.lt_trans hz (by decide)) (fun c => V.int (c : Int)) (fun c hc H1 s1 R hR => ?_) (fun p H1 hp e1 s1 _ => ?_)
  ·walk_at "p"
   exact ⟨_, rfl, rfl, hR⟩
  ·exact q p H1 hp e1 s1
noncomputable def spx12 (A : Adr) : Sp := fun vs H Q _ => ∃ (n k : Nat), vs = [.int n, .int k] ∧ n < 10 ^ 20 ∧ k ≤ 1000 ∧ ∀ z, tl z = padL k n → Q (.str z) H
theorem padOk_k {k : Nat} (h : k ≤ 1000) : PadOk (k : Int) = true := padOk_of (by omega) (by omega)
theorem cx12 (P : Program) (w : World) (base : Heap) (T : Txt K mg A) : Cal P w K mg base 1 "padded" ["number", "digits"] (spx12 A) := by
 obtain ⟨f, fd, F, hm, b⟩ := T.fx12
 refine ⟨f, fd, F.ok (k := 0) scx12 (fun vs H Q E h => ?_) (fun cdv A' outer s H vs Q E hr h => ?_), hm, F.kp, b⟩
 ·obtain ⟨_, _, rfl, _⟩ := h
  rfl
 ·obtain ⟨n, k, rfl, h⟩ := h
  refine ⟨_, (pss_one (ps_ret (pe_bm PySem.F.plainAttrs_str PySem.F.slot_str_zfill PySem.F.type_str_zfill mt_zfill (pe_callTy call_str_int (by rfl) T.b_str (by decide +kernel) (pa_cons (pv 0) pa_nil)) (pa_cons (pv 1) pa_nil)))), ?_⟩
  obtain ⟨hn, hk, q⟩ := h
  walk_at "p"
  refine ⟨_, rfl, log_small hn, ?_⟩
  refine ⟨rfl, ?_⟩
  walk_at "p"
  exact ⟨_, _, rfl, rfl, padOk_k hk, q _ (zfill_num n k)⟩
theorem len_tl_small {z : Str} {k n : Nat} (h : tl z = padL k n) (hn : n < 10 ^ 20) (hk : k ≤ 900) : z.length ≤ 1000 := by
 rw [TL.len_tl, h]
 unfold padL
 have := numL_small hn
 rw [List.length_append, List.length_replicate]; omega
noncomputable def moneyL (v : Nat) : List Nat := numL (v / 100) ++ 46 :: padL 2 (v % 100)
noncomputable def spx13 (A : Adr) : Sp := fun vs H Q _ => ∃ v : Nat, vs = [.int v] ∧ v < 10 ^ 20 ∧ ∀ z, tl z = moneyL v → z.length ≤ 1000 → Q (.str z) H
theorem cx13 (P : Program) (w : World) (base : Heap) (T : Txt K mg A) : Cal P w K mg base 2 "money" ["value"] (spx13 A) := by
 have Cx12 := cx12 P w base T
 obtain ⟨f, fd, F, hm, b⟩ := T.fx13
 refine ⟨f, fd, F.ok (k := 1) scx13 (fun vs H Q E h => ?_) (fun cdv A' outer s H vs Q E hr h => ?_), hm, F.kp, b⟩
 ·obtain ⟨_, rfl, _⟩ := h
  rfl
 ·obtain ⟨v, rfl, h⟩ := h
  refine ⟨_, (pss_cons (pst 1 scx13.nd (pe_callTy call_str_int (by rfl) T.b_str (by decide +kernel) (pa_cons (pe_op op_fdiv (pv 0) pe_int) pa_nil)))
   (pss_cons (pst 2 scx13.nd (pcl Cx12 hr rfl (pa_cons (pe_op op_mod (pv 0) pe_int) (pa_cons (pgi T.gxs) pa_nil))))
   (pss_one (ps_ret (pe_join_parts (pj_txt (pv 1) (pj_str (pj_txt (pv 2) pj_nil)))))))), ?_⟩
  obtain ⟨hv, q⟩ := h
  have e1 : (v : Int) / 100 = ((v / 100 : Nat) : Int) := by omega
  have e2 : (v : Int) % 100 = ((v % 100 : Nat) : Int) := by omega
  have h1 : v / 100 < 10 ^ 20 := Nat.lt_of_le_of_lt (Nat.div_le_self _ _) hv
  have h2 : v % 100 < 10 ^ 20 := Nat.lt_of_le_of_lt (Nat.mod_le _ _) hv
  walk_at "p"
  refine i_rI ⟨by decide, by decide⟩ ?_
  rw [e1]
  walk_at "p"
  refine ⟨_, rfl, log_small h1, ?_⟩
  walk_at "p"
  refine i_rI (show (0 : Int) < 100 by decide) ?_
  rw [e2]
  walk_at "p"
  refine ⟨v % 100, 2, rfl, h2, by decide, fun z hz => ?_⟩
  walk_at "p"
  refine rd_jt (len_num h1) ?_
  walk_at "p"
  refine rd_jt (len_tl_small hz h2 (by decide)) ?_
  walk_at "p"
  refine q _ ?_ ?_
  ·rw [TL.tl_append, TL.tl_append, TL.tl_append, tl_num, hz]
   unfold moneyL
   show numL (v / 100) ++ ([46] ++ (padL 2 (v % 100) ++ [])) = _
   rw [List.append_nil]; rfl
  ·rw [TL.len_tl, TL.tl_append, TL.tl_append, TL.tl_append, tl_num, hz]
   have a := numL_small h1
   have b := numL_small h2
   unfold padL
   simp only [List.length_append, List.length_replicate]
   show (numL (v / 100)).length + (1 + (2 - (numL (v % 100)).length + (numL (v % 100)).length + 0)) ≤ 1000
   omega
noncomputable def impL (m p v d c : Nat) : List Nat := 77 :: (numL m ++ 46 :: numL p) ++ 32 :: 86 :: moneyL v ++ 32 :: 68 :: numL d ++ 32 :: 67 :: padL 5 c
theorem money_eq (v : Nat) : natsB (Vbpoac.money v) = moneyL v := by
 unfold Vbpoac.money moneyL
 rw [natsB_app, dec_eq]
 show _ ++ 46 :: natsB (Vbpoac.padded 2 (v % 100)) = _
 rw [pad_eq 2 (v % 100) (by decide) (by omega)]
theorem imp_eq (m p v d c : Nat) (hc : c < 100000) : natsB (Vbpoac.imprintText ⟨m, p, v, d, c⟩) = impL m p v d c := by
 unfold Vbpoac.imprintText impL
 show natsB ((77 :: (Vbpoac.decimal m ++ 46 :: Vbpoac.decimal p)) ++ 32 :: ((86 :: Vbpoac.money v) ++ 32 :: ((68 :: Vbpoac.decimal d) ++ 32 :: (67 :: Vbpoac.padded 5 c)))) = _
 have e5 := pad_eq 5 c (by decide) (by omega)
 simp only [natsB, List.map_cons, List.map_append] at *
 have d1 := dec_eq m
 have d2 := dec_eq p
 have d3 := money_eq v
 have d4 := dec_eq d
 simp only [natsB] at d1 d2 d3 d4
 rw [d1, d2, d3, d4, e5]
 simp
noncomputable def spx14 (A : Adr) : Sp := fun vs H Q _ => ∃ (l : Addr) (m p v d c : Nat), vs = [.ref l] ∧ H l = some (.lst (intsV [m, p, v, d, c])) ∧ (m < 10 ^ 20 ∧ p < 10 ^ 20 ∧ v < 10 ^ 20 ∧ d < 10 ^ 20 ∧ c < 10 ^ 20) ∧
 ∀ q H', H q = none → H' q = some (.lst (intsV (impL m p v d c))) → Same H H' → Q (.ref q) H'
theorem cx14 (P : Program) (w : World) (base : Heap) (T : Txt K mg A) : Cal P w K mg base 3 "imprint_text" ["imprint"] (spx14 A) := by
 have Cx13 := cx13 P w base T
 have Cx12 := cx12 P w base T
 have Cx11 := cx11 P w base T
 obtain ⟨f, fd, F, hm, b⟩ := T.fx14
 refine ⟨f, fd, F.ok (k := 2) scx14 (fun vs H Q E h => ?_) (fun cdv A' outer s H vs Q E hr h => ?_), hm, F.kp, b⟩
 ·obtain ⟨_, _, _, _, _, _, rfl, _⟩ := h
  rfl
 ·obtain ⟨l, m, p, v, d, c, rfl, h⟩ := h
  refine ⟨_, (pss_cons (pst 1 scx14.nd (pe_ix ix_list (pv 0) pe_int (fun _ _ => rfl)))
   (pss_cons (pst 2 scx14.nd (pe_ix ix_list (pv 0) pe_int (fun _ _ => rfl)))
   (pss_cons (pst 3 scx14.nd (pcl Cx13 hr rfl (pa_cons (pe_ix ix_list (pv 0) pe_int (fun _ _ => rfl)) pa_nil)))
   (pss_cons (pst 4 scx14.nd (pe_ix ix_list (pv 0) pe_int (fun _ _ => rfl)))
   (pss_cons (pst 5 scx14.nd (pcl Cx12 hr rfl (pa_cons (pe_ix ix_list (pv 0) pe_int (fun _ _ => rfl)) (pa_cons (pgi T.gxt) pa_nil))))
   (pss_one (ps_ret (pcl Cx11 hr rfl (pa_cons (pe_join_parts (pj_str (pj_int (pv 1) (pj_str (pj_int (pv 2) (pj_str (pj_txt (pv 3) (pj_str (pj_int (pv 4) (pj_str (pj_txt (pv 5) pj_nil))))))))))) pa_nil))))))))), ?_⟩
  obtain ⟨hl, ⟨hm', hp, hv, hd, hc⟩, q⟩ := h
  walk_at "p"
  refine rd_ix 0 hl ?_
  walk_at "p"
  refine rd_ix 1 hl ?_
  walk_at "p"
  refine rd_ix 2 hl ?_
  walk_at "p"
  refine ⟨v, rfl, hv, fun z2 hz2 hz2l => ?_⟩
  walk_at "p"
  refine rd_ix 3 hl ?_
  walk_at "p"
  refine rd_ix 4 hl ?_
  walk_at "p"
  refine ⟨c, 5, rfl, hc, by decide, fun z4 hz4 => ?_⟩
  walk_at "p"
  refine rd_ji (log_small hm') (len_num hm') ?_
  walk_at "p"
  refine rd_ji (log_small hp) (len_num hp) ?_
  walk_at "p"
  refine rd_jt hz2l ?_
  walk_at "p"
  refine rd_ji (log_small hd) (len_num hd) ?_
  walk_at "p"
  refine rd_jt (len_tl_small hz4 hc (by decide)) ?_
  walk_at "p"
  have et : ∀ z : Str, z = Str.ofString "M" ++ (Str.ofString (toString (m : Int)) ++ (Str.ofString "." ++ (Str.ofString (toString (p : Int)) ++ (Str.ofString " V" ++ (z2 ++ (Str.ofString " D" ++ (Str.ofString (toString (d : Int)) ++ (Str.ofString " C" ++ (z4 ++ Str.empty))))))))) → tl z = impL m p v d c := fun z e => by
   rw [e]
   simp only [TL.tl_append, tl_num, hz2, hz4]
   unfold impL
   show [77] ++ (numL m ++ ([46] ++ (numL p ++ ([32, 86] ++ (moneyL v ++ ([32, 68] ++ (numL d ++ ([32, 67] ++ (padL 5 c ++ []))))))))) = _
   simp
  refine ⟨_, rfl, ?_, fun q1 H1 n1 e1 s1 => ?_⟩
  ·have := et _ rfl
   rw [← Array.length_toList]
   show (tl _).length < _
   rw [this]
   have a1 := numL_small hm'
   have a2 := numL_small hp
   have a3 := numL_small hd
   have a4 := numL_small hc
   have a5 : (moneyL v).length ≤ 1000 := by rw [← hz2, ← TL.len_tl]; exact hz2l
   unfold impL padL
   simp only [List.length_append, List.length_cons, List.length_replicate]
   omega
  ·rw [et _ rfl] at e1
   exact q q1 H1 n1 e1 s1
end
end
section
variable {P : Program} {w : World} {K : PySem.W.Frag} {mg : Str → Option Value} {base : Heap} {A : Adr}
noncomputable def impBank (b : Vbpoac.Bank) (v : Nat) : Vbpoac.Bank := { b with rising := b.rising + v, falling := b.falling - v, piece := b.piece + 1 }
noncomputable def spx4d (A : Adr) : Sp := fun vs H Q _ => ∃ (D : DS) (i : Nat) (x : DM) (v : Nat) (k : Int), vs = [.ref x.a, .int v, .int k] ∧ WAt A H D ∧ D.meters[i]? = some x ∧ v ≤ (Vbpoac.current x.m).falling ∧ 0 ≤ k ∧
 ∀ H', WAt A H' (stored D i x (Vbpoac.store x.m (impBank (Vbpoac.current x.m) v) (min 6 k.toNat))) → Fr A D H (stored D i x (Vbpoac.store x.m (impBank (Vbpoac.current x.m) v) (min 6 k.toNat))) H' → Q .non H'
theorem cx4d (P : Program) (w : World) (base : Heap) (T : Txt K mg A) : Cal P w K mg base 4 "write_imprint" ["meter", "value", "k"] (spx4d A) := by
 have Mx1o := cx1o P w base T
 have Mx1q := cx1q P w base T
 obtain ⟨f, fd, F, hm, b⟩ := T.fx4d
 refine ⟨f, fd, F.ok (k := 3) scx4d (fun vs H Q E h => ?_) (fun cdv A' outer s H vs Q E hr h => ?_), hm, F.kp, b⟩
 ·obtain ⟨_, _, _, _, _, rfl, _⟩ := h
  rfl
 ·obtain ⟨D, i, x, v, k, rfl, h⟩ := h
  refine ⟨_, (pss_cons (pst 3 scx4d.nd (pmt0 (pfl (pv 0)) T.clx1l Mx1o hr))
   (pss_one (ps_expr (pmt (pfl (pv 0)) T.clx1l Mx1q hr (pa_cons (pe_op op_add (pe_ix ix_list (pv 3) (pgi T.gx1g) (fun _ _ => rfl)) (pv 1)) (pa_cons (pe_op op_sub (pe_ix ix_list (pv 3) (pgi T.gx1h) (fun _ _ => rfl)) (pv 1)) (pa_cons (pe_op op_add (pe_ix ix_list (pv 3) (pgi T.gx1i) (fun _ _ => rfl)) pe_int) (pa_cons (pe_ix ix_list (pv 3) (pgi T.gx1j) (fun _ _ => rfl)) (pa_cons (pv 2) pa_nil))))))))), ?_⟩
  obtain ⟨hW, hx, hv, hk, q⟩ := h
  obtain ⟨⟨dx, hm⟩, ⟨de, he⟩, _⟩ := hW.mo hx
  have hcur := cur_at hW hx
  walk_at "p"
  refine T.rMeter hm ?_
  refine rd_met he rfl ?_
  walk_at "p"
  refine ⟨D, i, x, rfl, hW, hx, ?_⟩
  walk_at "p"
  refine T.rMeter hm ?_
  refine rd_met he rfl ?_
  walk_at "p"
  refine rd_ix 1 hcur ?_
  walk_at "p"
  refine rd_ix 2 hcur ?_
  walk_at "p"
  refine rd_ix 3 hcur ?_
  walk_at "p"
  refine rd_ix 4 hcur ?_
  walk_at "p"
  have ef : ((Vbpoac.current x.m).falling : Int) - (v : Int) = (((Vbpoac.current x.m).falling - v : Nat) : Int) := by omega
  refine ⟨D, i, x, impBank (Vbpoac.current x.m) v, k, by rw [ef]; rfl, hW, hx, hk, fun H' w' f' => ?_⟩
  walk_at "p"
  exact q H' w' f'
theorem code_lt (key : Nat) (l : List Nat) : Vbpoac.codeOf key l < 99991 := by
 unfold Vbpoac.codeOf
 have g : ∀ (l : List Nat) (c : Nat), c < 99991 → l.foldl (fun c n => (c * 31 + n) % Vbpoac.PRIME) c < 99991 := fun l => by
  induction l with
  | nil => intro c h; exact h
  | cons a r ih =>
   intro c h
   rw [List.foldl_cons]
   exact ih _ (Nat.mod_lt _ (by decide))
 exact g l _ (Nat.mod_lt _ (by decide))
noncomputable def spx35 (A : Adr) : Sp := fun vs H Q _ => ∃ (D : DS) (i : Nat) (x : DM) (p v d : Nat), vs = [.ref x.a, .int p, .int v, .int d] ∧ WAt A H D ∧ D.meters[i]? = some x ∧ (i < 1000 ∧ p < 10 ^ 20 ∧ v < 10 ^ 20 ∧ d < 10 ^ 20) ∧
 ∀ l H', H l = none → H' l = some (.lst (intsV (impL (i + 1) p v d (Vbpoac.codeOf x.m.key [3, i + 1, p, v, d])))) → Same H H' → Q (.ref l) H'
theorem cx35 (P : Program) (w : World) (base : Heap) (T : Txt K mg A) : Cal P w K mg base 4 "right_text" ["meter", "piece", "value", "day"] (spx35 A) := by
 have Cx14 := cx14 P w base T
 have Cx2p := cx2p P w base T
 obtain ⟨f, fd, F, hm, b⟩ := T.fx35
 refine ⟨f, fd, F.ok (k := 3) scx35 (fun vs H Q E h => ?_) (fun cdv A' outer s H vs Q E hr h => ?_), hm, F.kp, b⟩
 ·obtain ⟨_, _, _, _, _, _, rfl, _⟩ := h
  rfl
 ·obtain ⟨D, i, x, pc, v, d, rfl, h⟩ := h
  refine ⟨_, (pss_one (ps_ret (pcl Cx14 hr rfl (pa_cons (pcl Cx2p hr rfl (pa_cons (pgi T.gx2n) (pa_cons (pe_lst (pa_cons (pfl (pv 0)) (pa_cons (pv 1) (pa_cons (pv 2) (pa_cons (pv 3) pa_nil))))) (pa_cons (pfl (pv 0)) pa_nil)))) pa_nil)))), ?_⟩
  obtain ⟨hW, hx, ⟨hi, hpc, hv, hd⟩, q⟩ := h
  obtain ⟨⟨dx, hm⟩, _⟩ := hW.mo hx
  walk_at "p"
  refine T.rMeter hm ?_
  walk_at "p"
  refine nl (fun l1 H1 n1 e1 s1 _ => ?_)
  walk_at "p"
  refine T.rMeter (s1 _ _ hm) ?_
  walk_at "p"
  refine ⟨3, l1, [((i + 1 : Nat) : Int), (pc : Int), (v : Int), (d : Int)], (x.m.key : Int), rfl, e1, (by show 4 < 1000; decide), fun l2 H2 n2 e2 s2 => ?_⟩
  have ec : codeI (x.m.key : Int) [3, ((i + 1 : Nat) : Int), (pc : Int), (v : Int), (d : Int)] = ((Vbpoac.codeOf x.m.key [3, i + 1, pc, v, d] : Nat) : Int) := code_eq x.m.key [3, i + 1, pc, v, d]
  rw [ec] at e2
  have hcl := code_lt x.m.key [3, i + 1, pc, v, d]
  walk_at "p"
  refine ⟨l2, i + 1, pc, v, d, Vbpoac.codeOf x.m.key [3, i + 1, pc, v, d], rfl, e2, ⟨by omega, hpc, hv, hd, by omega⟩, fun p H3 n3 e3 s3 => ?_⟩
  exact q p H3 ((s1.trans s2).free n3) e3 ((s1.trans s2).trans s3)
theorem cur_store (m : Vbpoac.Meter) (n : Vbpoac.Bank) : Vbpoac.current (Vbpoac.store m n 6) = { n with gen := (Vbpoac.current m).gen + 1 } := by
 unfold Vbpoac.store Vbpoac.current
 by_cases z : m.first.gen < m.second.gen
 ·simp only [z, if_true]
  rw [if_neg (by show ¬ m.second.gen + 1 < m.second.gen; omega)]
  rfl
 ·simp only [z, if_false]
  rw [if_pos (by show m.first.gen < m.first.gen + 1; omega)]
  rfl
theorem store_on (m : Vbpoac.Meter) (n : Vbpoac.Bank) (k : Nat) : (Vbpoac.store m n k).on = m.on ∧ (Vbpoac.store m n k).key = m.key := by
 unfold Vbpoac.store
 by_cases z : m.first.gen < m.second.gen
 ·simp [z]
 ·simp [z]
theorem step_imprint (S : Vbpoac.State) (m v k : Int) : Vbpoac.step S (.imprint m v k) = if Vbpoac.inside v 1 1000000 = false ∨ Vbpoac.inside k 0 7 = false then Vbpoac.no S 1
 else Vbpoac.onMeter S m fun n x =>
  if x.on = false then Vbpoac.no S 3
  else if ((Vbpoac.current x).falling : Int) < v then Vbpoac.no S 7
  else if k = 7 then Vbpoac.yes (Vbpoac.setMeter S n { Vbpoac.store x (impBank (Vbpoac.current x) v.toNat) (min 6 k.toNat) with on := decide (k = 7) }) 1 [Vbpoac.bytes (Vbpoac.imprintText ⟨n, (Vbpoac.current x).piece + 1, v.toNat, S.day, Vbpoac.codeOf x.key [3, n, (Vbpoac.current x).piece + 1, v.toNat, S.day]⟩)]
   else Vbpoac.yes (Vbpoac.setMeter S n { Vbpoac.store x (impBank (Vbpoac.current x) v.toNat) (min 6 k.toNat) with on := decide (k = 7) }) 0 [[]] := rfl
theorem intsV_map (l : List Nat) : intsV l = (l.map fun (n : Nat) => (n : Int)).map V.int := by unfold intsV; rw [List.map_map]; rfl
noncomputable abbrev spx4e (A : Adr) : Sp := spC3 A .imprint
theorem cx4e (P : Program) (w : World) (base : Heap) (T : Txt K mg A) : Cal P w K mg base 5 "print_imprint" ["world", "number", "value", "k"] (spx4e A) := by
 have Mx1o := cx1o P w base T
 have Mx22 := cx22 P w base T
 have Mx24 := cx24 P w base T
 have Cx35 := cx35 P w base T
 have Cxl := cxl P w base T
 have Cx4d := cx4d P w base T
 obtain ⟨f, fd, F, hm, b⟩ := T.fx4e
 refine ⟨f, fd, F.ok (k := 4) scx4e (fun vs H Q E h => ?_) (fun cdv A' outer s H vs Q E hr h => ?_), hm, F.kp, b⟩
 ·obtain ⟨_, _, _, _, _, rfl, _⟩ := h
  rfl
 ·obtain ⟨c, D, m, v, k, rfl, h⟩ := h
  refine ⟨_, (pss_cons (ps_if (PW.pt (pw_or (pt_not (pt_chain op_le op_le pe_int (pv 2) (pgi T.gx47))) (pw_or1 (pt_not (pt_chain op_le op_le pe_int (pv 3) (pgi T.gx48)))))) (pss_one (ps_ret (pe_lst (pa_cons (pgi T.gxd) pa_nil)))) pss_nil)
   (pss_cons (pst 4 scx4e.nd (pmt (pv 0) T.clx1y Mx24 hr (pa_cons (pv 1) pa_nil)))
   (pss_cons (ps_if (pt_cmpR op_lt (pv 4) pe_int (nomark _)) (pss_one (ps_ret (pe_lst (pa_cons (pv 4) pa_nil)))) pss_nil)
   (pss_cons (pst 5 scx4e.nd (pmt (pv 0) T.clx1y Mx22 hr (pa_cons (pv 1) pa_nil)))
   (pss_cons (ps_if (pt_not (ptt (pfl (pv 5)))) (pss_one (ps_ret (pe_lst (pa_cons (pgi T.gxf) pa_nil)))) pss_nil)
   (pss_cons (ps_if (pt_cmpR op_lt (pe_ix ix_list (pmt0 (pfl (pv 5)) T.clx1l Mx1o hr) (pgi T.gx1h) (fun _ _ => rfl)) (pv 2) (nomark _)) (pss_one (ps_ret (pe_lst (pa_cons (pgi T.gxj) pa_nil)))) pss_nil)
   (pss_cons (ps_expr (pcl Cx4d hr rfl (pa_cons (pv 5) (pa_cons (pv 2) (pa_cons (pv 3) pa_nil)))))
   (pss_cons (ps_if (pt_cmpR op_lt (pv 3) (pgi T.gx48) (nomark _)) (pss_cons (psf (pv 5) pe_bl)
   (pss_one (ps_ret (pcl Cxl hr rfl (pa_cons pe_int (pa_cons (pe_lst (pa_cons (pe_lst pa_nil) pa_nil)) pa_nil)))))) pss_nil)
   (pss_cons (pst 6 scx4e.nd (pe_ix ix_list (pmt0 (pfl (pv 5)) T.clx1l Mx1o hr) (pgi T.gx1i) (fun _ _ => rfl)))
   (pss_one (ps_ret (pcl Cxl hr rfl (pa_cons pe_int (pa_cons (pe_lst (pa_cons (pcl Cx35 hr rfl (pa_cons (pv 5) (pa_cons (pv 6) (pa_cons (pv 2) (pa_cons (pfl (pv 0)) pa_nil))))) pa_nil)) pa_nil)))))))))))))), ?_⟩
  obtain ⟨hW, hG, hc, q⟩ := h
  obtain ⟨dw, hw⟩ := hW.wo
  have no1 : ¬ ((1 ≤ v ∧ v ≤ 1000000) ∧ (0 ≤ k ∧ k ≤ 7)) → ∀ p H1, H p = none → H1 p = some (.lst [.int (-1)]) → Same H H1 → (∀ b, b ≠ p → H1 b = H b) → Q (.ref p) H1 := fun z p H1 hp e1 s1 k1 => by
   refine q D H1 p ((Ans.no (n := 1) hW hp e1 s1 k1).mk' ((step_imprint _ _ _ _).trans (if_pos ?_)))
   by_cases y : 1 ≤ v ∧ v ≤ 1000000
   ·exact .inr (inside_no fun w => z ⟨y, w⟩)
   ·exact .inl (inside_no y)
  walk_at "p"
  refine ite_out (fun no => ?_) (fun h1 h2 => ?_)
  ·refine iteT ?_
   walk_at "p"
   exact nl (no1 fun z => no z.1)
  ·walk_at "p"
   refine ite_out (fun no => ?_) (fun h3 h4 => ?_)
   ·walk_at "p"
    exact nl (no1 fun z => no z.2)
   ·have e0 := (step_imprint D.st m v k).trans (if_neg (by rw [inside_iff, inside_iff]; omega))
    walk_at "p"
    refine rd_met hw rfl ?_
    walk_at "p"
    refine ⟨D, m, rfl, hW, ?_⟩
    walk_at "p"
    rcases metRef_cases D m with ⟨er, es⟩ | ⟨er, es⟩ | ⟨er, i, x, rfl, hx, hg, ef, es⟩
    ·refine ite_d (fun _ => ?_) (fun z => absurd (show metRef D m < 0 by omega) z)
     walk_at "p"
     refine nl (fun p H1 hp e1 s1 k1 => q D H1 p ?_)
     rw [er] at e1
     exact (Ans.no hW hp e1 s1 k1).mk' (e0.trans (es _))
    ·refine ite_d (fun _ => ?_) (fun z => absurd (show metRef D m < 0 by omega) z)
     walk_at "p"
     refine nl (fun p H1 hp e1 s1 k1 => q D H1 p ?_)
     rw [er] at e1
     exact (Ans.no hW hp e1 s1 k1).mk' (e0.trans (es _))
    ·refine ite_d (fun z => absurd z (show ¬ metRef D _ < 0 by omega)) (fun _ => ?_)
     have e1 := e0.trans (es _)
     obtain ⟨⟨dx, hm⟩, ⟨de, he⟩, _⟩ := hW.mo hx
     have hcur := cur_at hW hx
     walk_at "p"
     refine rd_met hw rfl ?_
     walk_at "p"
     refine ⟨D, _, rfl, hW, ?_⟩
     rw [ef]
     walk_at "p"
     refine T.rMeter hm ?_
     walk_at "p"
     refine ite_nb (fun hon => ?_) (fun hon => ?_)
     ·walk_at "p"
      refine nl (fun p H1 hp e2 s1 k1 => q D H1 p ?_)
      exact (Ans.no hW hp e2 s1 k1).mk' (e1.trans (if_pos hon))
     ·have e2 := e1.trans (if_neg (by rw [hon]; simp))
      walk_at "p"
      refine T.rMeter hm ?_
      refine rd_met he rfl ?_
      walk_at "p"
      refine ⟨D, i, x, rfl, hW, hx, ?_⟩
      walk_at "p"
      refine rd_ix 2 hcur ?_
      walk_at "p"
      refine ite_d (fun hf => ?_) (fun hf => ?_)
      ·walk_at "p"
       refine nl (fun p H1 hp e3 s1 k1 => q D H1 p ?_)
       exact (Ans.no hW hp e3 s1 k1).mk' (e2.trans (if_pos hf))
      ·have e3 := e2.trans (if_neg hf)
       walk_at "p"
       have ev : V.int v = V.int (v.toNat : Int) := by congr 1; omega
       refine ⟨D, i, x, v.toNat, k, by show [V.ref x.a, V.int v, V.int k] = _; rw [ev], hW, hx, by omega, h3, fun H1 w1 f1 => ?_⟩
       have hx1 : (stored D i x (Vbpoac.store x.m (impBank (Vbpoac.current x.m) v.toNat) (min 6 k.toNat))).meters[i]? = some { x with m := Vbpoac.store x.m (impBank (Vbpoac.current x.m) v.toNat) (min 6 k.toNat) } := List.getElem?_set_self (List.getElem?_eq_some_iff.mp hx).1
       obtain ⟨⟨dx1, hm1⟩, ⟨de1, he1⟩, _⟩ := w1.mo hx1
       walk_at "p"
       refine ite_d (fun hk7 => ?_) (fun hk7 => ?_)
       ·have e4 := e3.trans (if_neg (by omega))
        walk_at "p"
        refine wr_fl hm1 T.clx1u (T.nx1u _ (by decide +kernel)) (by show 7 < 1000; decide) (fun H2 h2' k2 => ?_)
        obtain ⟨w2, f2⟩ := w1.meter (H' := H2) hx1 { Vbpoac.store x.m (impBank (Vbpoac.current x.m) v.toNat) (min 6 k.toNat) with on := false } rfl rfl ⟨dx1, h2'⟩ fun b u hb hn => by rw [k2 b hn]; exact hb
        walk_at "p"
        refine nl (fun l3 H3 n3 g3 s3 _ => ?_)
        walk_at "p"
        refine nl (fun l4 H4 n4 g4 s4 _ => ?_)
        walk_at "p"
        refine ⟨0, l4, [(l3, [])], rfl, g4, fun r hr' => ?_, (by show 1 < 1000000; decide), fun p H5 hp e5 s5 => ?_⟩
        ·simp only [List.mem_singleton] at hr'
         subst hr'
         exact s4 _ _ g3
        ·have s34 := s3.trans s4
         refine q _ H5 p ((Ans.rows (n := 0) (H1 := H4) (rows := [[]]) (w2.same s34) ((f1.trans f2).trans (Fr.same s34)) rfl hp e5 s5 rfl).mk' (e4.trans ?_))
         have := stored_stored D i x (Vbpoac.store x.m (impBank (Vbpoac.current x.m) v.toNat) (min 6 k.toNat)) { Vbpoac.store x.m (impBank (Vbpoac.current x.m) v.toNat) (min 6 k.toNat) with on := false }
         have ed : decide (k = 7) = false := decide_eq_false (by omega)
         rw [ed]
         congr 1
         exact this.symm
       ·have k7 : k = 7 := by omega
        subst k7
        have e4 := e3.trans (if_pos rfl)
        have e6 : min 6 (7 : Int).toNat = 6 := rfl
        rw [e6] at w1 f1 hx1 hm1 he1 e4
        have hcur1 := cur_at w1 hx1
        obtain ⟨dw1, hw1⟩ := w1.wo
        have hcs := cur_store x.m (impBank (Vbpoac.current x.m) v.toNat)
        have hpc : (Vbpoac.current x.m).piece ≤ c := by
         have hmem : x.m ∈ D.st.meters := List.mem_map.mpr ⟨x, List.mem_of_getElem? hx, rfl⟩
         have := hG.pcs x.m hmem
         unfold Vbpoac.current
         by_cases z : x.m.first.gen < x.m.second.gen
         ·rw [if_pos z]; exact this.2
         ·rw [if_neg z]; exact this.1
        have hi10 : i < 10 := by
         have := hG.met
         have h2 : D.st.meters.length = D.meters.length := List.length_map _
         have h3 := (List.getElem?_eq_some_iff.mp hx).1
         omega
        have hday : D.day ≤ 100000 := hG.day
        walk_at "p"
        refine T.rMeter hm1 ?_
        refine rd_met he1 rfl ?_
        walk_at "p"
        refine ⟨_, i, { x with m := Vbpoac.store x.m (impBank (Vbpoac.current x.m) v.toNat) 6 }, rfl, w1, hx1, ?_⟩
        walk_at "p"
        refine ⟨curA { x with m := Vbpoac.store x.m (impBank (Vbpoac.current x.m) v.toNat) 6 }, _, _, _, rfl, rfl, SqL.of hcur1, at_of (j := 3) rfl rfl, ?_⟩
        walk_at "p"
        refine T.rWorld hw1 ?_
        walk_at "p"
        refine ⟨_, i, { x with m := Vbpoac.store x.m (impBank (Vbpoac.current x.m) v.toNat) 6 }, (Vbpoac.current (Vbpoac.store x.m (impBank (Vbpoac.current x.m) v.toNat) 6)).piece, v.toNat, D.day, by rw [ev]; rfl, w1, hx1, ⟨by omega, by rw [hcs]; show (Vbpoac.current x.m).piece + 1 < _; omega, by omega, by omega⟩, fun l3 H3 n3 g3 s3 => ?_⟩
        walk_at "p"
        refine nl (fun l4 H4 n4 g4 s4 _ => ?_)
        walk_at "p"
        have hkey : (Vbpoac.store x.m (impBank (Vbpoac.current x.m) v.toNat) 6).key = x.m.key := (store_on _ _ _).2
        have hpiece : (Vbpoac.current (Vbpoac.store x.m (impBank (Vbpoac.current x.m) v.toNat) 6)).piece = (Vbpoac.current x.m).piece + 1 := by rw [hcs]; rfl
        have hrow : Vbpoac.bytes (Vbpoac.imprintText ⟨i + 1, (Vbpoac.current x.m).piece + 1, v.toNat, D.day, Vbpoac.codeOf x.m.key [3, i + 1, (Vbpoac.current x.m).piece + 1, v.toNat, D.day]⟩) = (impL (i + 1) ((Vbpoac.current x.m).piece + 1) v.toNat D.day (Vbpoac.codeOf x.m.key [3, i + 1, (Vbpoac.current x.m).piece + 1, v.toNat, D.day])).map fun (n : Nat) => (n : Int) := by
         rw [bytes_eq, imp_eq _ _ _ _ _ (by have := code_lt x.m.key [3, i + 1, (Vbpoac.current x.m).piece + 1, v.toNat, D.day]; omega)]
        have g3' : H3 l3 = some (.lst ((Vbpoac.bytes (Vbpoac.imprintText ⟨i + 1, (Vbpoac.current x.m).piece + 1, v.toNat, D.day, Vbpoac.codeOf x.m.key [3, i + 1, (Vbpoac.current x.m).piece + 1, v.toNat, D.day]⟩)).map V.int)) := by
         rw [hrow, ← intsV_map, ← hpiece, ← hkey]; exact g3
        have hlen : (Vbpoac.bytes (Vbpoac.imprintText ⟨i + 1, (Vbpoac.current x.m).piece + 1, v.toNat, D.day, Vbpoac.codeOf x.m.key [3, i + 1, (Vbpoac.current x.m).piece + 1, v.toNat, D.day]⟩)).length < 1000 := by
         rw [hrow, List.length_map]
         have a1 := numL_small (n := i + 1) (by omega)
         have a2 := numL_small (n := (Vbpoac.current x.m).piece + 1) (by omega)
         have a3 := numL_small (n := D.day) (by omega)
         have a4 := numL_small (n := Vbpoac.codeOf x.m.key [3, i + 1, (Vbpoac.current x.m).piece + 1, v.toNat, D.day]) (by have := code_lt x.m.key [3, i + 1, (Vbpoac.current x.m).piece + 1, v.toNat, D.day]; omega)
         have a5 := numL_small (n := v.toNat / 100) (by omega)
         have a6 := numL_small (n := v.toNat % 100) (by omega)
         unfold impL moneyL padL
         simp only [List.length_append, List.length_cons, List.length_replicate]
         omega
        refine ⟨1, l4, [(l3, Vbpoac.bytes (Vbpoac.imprintText ⟨i + 1, (Vbpoac.current x.m).piece + 1, v.toNat, D.day, Vbpoac.codeOf x.m.key [3, i + 1, (Vbpoac.current x.m).piece + 1, v.toNat, D.day]⟩))], rfl, g4, fun r hr' => ?_, ?_, fun p H5 hp e5 s5 => ?_⟩
        ·simp only [List.mem_singleton] at hr'
         subst hr'
         exact s4 _ _ g3'
        ·unfold rowsI
         simp only [List.flatMap_cons, List.flatMap_nil, List.append_nil, List.length_cons]
         omega
        ·have s34 := s3.trans s4
         refine q _ H5 p ((Ans.rows (n := 1) (H1 := H4) (w1.same s34) (f1.trans (Fr.same s34)) rfl hp e5 s5 rfl).mk' (e4.trans ?_))
         rw [stored_st]
         have eon : ({ Vbpoac.store x.m (impBank (Vbpoac.current x.m) v.toNat) 6 with on := decide ((7 : Int) = 7) } : Vbpoac.Meter) = Vbpoac.store x.m (impBank (Vbpoac.current x.m) v.toNat) 6 := by
          have := (store_on x.m (impBank (Vbpoac.current x.m) v.toNat) 6).1
          rw [hon] at this
          generalize Vbpoac.store x.m (impBank (Vbpoac.current x.m) v.toNat) 6 = y at *
          cases y
          simp only at this
          subst this
          rfl
         rw [eon]
         rfl
end
section
open TL (tl numL)
noncomputable def rdDIn (y x : V) (H : Hp) (Q : VK) : Prop := ∃ a o, x = .ref a ∧ DGet H a y o ∧ Q (.bl o.isSome) H
noncomputable def rdGet1 (ty : TE) (σ : L2.St) (x : V) (H : Hp) (Q : VK) : Prop := ∃ a, x = .ref a ∧ IsD H a ∧ ty σ H fun y H2 => ∃ o, DGet H2 a y o ∧ Q (o.getD .non) H2
noncomputable def rdDPut (x y v : V) (H : Hp) (R : Hp → Prop) : Prop := ∃ a H4, x = .ref a ∧ DPut H a y v H4 ∧ R H4
section
variable {σ : L2.St} {H : Hp} {Q : VK} {td ty tv : TE} {D : L2.Ends} {a : Addr} {kvs : List (Key × V)} {i : Int} {n : Nat} {v : V}
theorem i_din (h : ty σ H fun y H1 => td σ H1 fun x H2 => rdDIn y x H2 Q) : tDIn ty td σ H Q := h
theorem rd_din (h : H a = some (.dK kvs)) (q : Q (.bl (valV kvs (Sum.inl i)).isSome) H) : rdDIn (.int i) (.ref a) H Q := ⟨a, _, rfl, DGet.k (k := Sum.inl i) h, q⟩
theorem i_get1 (h : td σ H fun x H1 => rdGet1 ty σ x H1 Q) : tDGet1 td ty σ H Q := h
theorem rd_get1 (h : H a = some (.dK kvs)) (e : σ[n]? = some (some (.int i))) (q : Q ((valV kvs (Sum.inl i)).getD .non) H) : rdGet1 (tVar n) σ (.ref a) H Q := ⟨a, rfl, .inl ⟨kvs, .inl h⟩, _, e, _, DGet.k (k := Sum.inl i) h, q⟩
theorem i_dput (h : tv σ H fun v H1 => td σ H1 fun x H2 => ty σ H2 fun y H3 => rdDPut x y v H3 fun H4 => D.nx σ H4) : sDPut td ty tv D σ H := h
theorem rd_dput {R : Hp → Prop} (h : H a = some (.dK kvs)) (hl : kvs.length < sizeLine) (q : ∀ H1, H1 a = some (.dK (putK kvs (Sum.inl i) v)) → (∀ b, b ≠ a → H1 b = H b) → R H1) : rdDPut (.ref a) (.int i) v H R :=
 ⟨a, _, rfl, DPut.k (k := Sum.inl i) h hl, q _ upd_same fun b hb => upd_ne hb⟩
end
theorem val_vd (l : List (Addr × Vbpoac.Voucher)) (n : Nat) : valV (vdV l) (Sum.inl (n : Int)) = (l.find? fun p => p.2.number == n).map fun p => V.ref p.1 := by
 induction l with
 | nil => rfl
 | cons p r ih =>
  by_cases h : p.2.number = n
  ·have e : ((Sum.inl (p.2.number : Int) : Key)) = Sum.inl (n : Int) := by rw [h]
   show valV ((Sum.inl (p.2.number : Int), V.ref p.1) :: vdV r) _ = _
   rw [valV_pos e, List.find?_cons_of_pos (by simp [h])]; rfl
  ·have e : ¬ ((Sum.inl (p.2.number : Int) : Key)) = Sum.inl (n : Int) := fun z => h (by injection z with z; omega)
   show valV ((Sum.inl (p.2.number : Int), V.ref p.1) :: vdV r) _ = _
   rw [valV_neg e, List.find?_cons_of_neg (by simp [h])]; exact ih
noncomputable def alt (k : Nat) : List Nat → Nat
 | [] => 0
 | d :: r => (if k % 2 = 1 then d else Vbpoac.twice d) + alt (k + 1) r
theorem alt_snoc : ∀ (l : List Nat) (k d : Nat), alt k (l ++ [d]) = alt k l + (if (k + l.length) % 2 = 1 then d else Vbpoac.twice d)
 | [], k, d => by simp [alt]
 | a :: l, k, d => by
  show (if k % 2 = 1 then a else Vbpoac.twice a) + alt (k + 1) (l ++ [d]) = (if k % 2 = 1 then a else Vbpoac.twice a) + alt (k + 1) l + _
  rw [alt_snoc l (k + 1) d]
  have e : k + 1 + l.length = k + (a :: l).length := by rw [List.length_cons]; omega
  rw [e]; omega
theorem nine {l : List Nat} (h : l.length = 9) : ∃ a b c d e f g i j, l = [a, b, c, d, e, f, g, i, j] := by
 match l, h with
 | [a, b, c, d, e, f, g, i, j], _ => exact ⟨a, b, c, d, e, f, g, i, j, rfl⟩
theorem luhn9 {l : List Nat} (h : l.length = 9) : Vbpoac.luhn true l.reverse = alt 0 l := by
 obtain ⟨a, b, c, d, e, f, g, i, j, rfl⟩ := nine h
 simp [Vbpoac.luhn, alt]
 omega
theorem luhn10 {l : List Nat} (h : l.length = 9) (k : Nat) : Vbpoac.luhn false (l ++ [k]).reverse = k + alt 0 l := by
 rw [List.reverse_append]
 show (if false = true then _ else k) + Vbpoac.luhn true l.reverse = _
 rw [luhn9 h]; rfl
noncomputable def chk (l : List Nat) : Nat := (10 - alt 0 l % 10) % 10
theorem natsB_len (b : Vbpoac.Bytes) : (natsB b).length = b.length := List.length_map _
theorem padded_len : ∀ k n, (Vbpoac.padded k n).length = k
 | 0, _ => rfl
 | k + 1, n => by
  show (Vbpoac.padded k (n / 10) ++ [_]).length = _
  rw [List.length_append, padded_len k]; rfl
theorem digitsOf_eq (b : Vbpoac.Bytes) : Vbpoac.digitsOf b = (natsB b).map (· - 48) := by unfold Vbpoac.digitsOf natsB; rw [List.map_map]; rfl
theorem vou_eq (n : Nat) (h : n < 10 ^ 9) : natsB (Vbpoac.voucherText n) = 86 :: (padL 9 n ++ [48 + chk ((padL 9 n).map (· - 48))]) := by
 have hp := pad_eq 9 n (by decide) h
 have hl : ((padL 9 n).map (· - 48)).length = 9 := by rw [List.length_map, ← hp, natsB_len, padded_len]
 have ec : Vbpoac.checkDigit (Vbpoac.digitsOf (Vbpoac.padded 9 n)) = chk ((padL 9 n).map (· - 48)) := by
  unfold Vbpoac.checkDigit chk
  rw [digitsOf_eq, hp, luhn9 hl]
 have hc : chk ((padL 9 n).map (· - 48)) < 10 := Nat.mod_lt _ (by decide)
 unfold Vbpoac.voucherText
 show natsB (86 :: (Vbpoac.padded 9 n ++ [UInt8.ofNat (48 + Vbpoac.checkDigit (Vbpoac.digitsOf (Vbpoac.padded 9 n)))])) = _
 rw [ec]
 show 86 :: natsB (_ ++ _) = _
 rw [natsB_app, hp]
 congr 2
 show [(UInt8.ofNat (48 + chk _)).toNat] = _
 simp
 omega
noncomputable def isD (n : Nat) : Bool := decide (48 ≤ n) && decide (n ≤ 57)
noncomputable def readN (b : List Nat) : Option Nat :=
 if b.length = 11 ∧ b[0]? = some 86 ∧ ((b.drop 1).all isD) = true ∧ chk (((b.drop 1).take 9).map (· - 48)) = ((b.drop 1).getD 9 0) - 48 then some (((b.drop 1).take 9).foldl (fun n c => 10 * n + (c - 48)) 0) else none
theorem readV_eq (b : Vbpoac.Bytes) : Vbpoac.readVoucher b = readN (natsB b) := by
 unfold Vbpoac.readVoucher
 cases b with
 | nil => rfl
 | cons c r =>
  have hlen : (natsB (c :: r)).length = r.length + 1 := by rw [natsB_len]; rfl
  have hd : (natsB (c :: r)).drop 1 = natsB r := rfl
  have h0 : (natsB (c :: r))[0]? = some c.toNat := rfl
  unfold readN
  rw [hlen, hd, h0]
  by_cases hc : c = 86
  ·subst hc
   have hall : r.all Vbpoac.isDigit = (natsB r).all isD := by
    unfold natsB Vbpoac.isDigit isD
    rw [List.all_map]; rfl
   show (if (decide (r.length = 10) && r.all Vbpoac.isDigit) = true then _ else none) = _
   by_cases h10 : r.length = 10
   ·rw [decide_eq_true h10, Bool.true_and, hall]
    cases hA : (natsB r).all isD with
    | false => rw [if_neg Bool.false_ne_true, if_neg (by intro z; exact absurd z.2.2.1 Bool.false_ne_true)]
    | true =>
     rw [if_pos rfl]
     have hn : (natsB r).length = 10 := by rw [natsB_len]; exact h10
     obtain ⟨last, hlast⟩ : ∃ k, (natsB r)[9]? = some k := ⟨_, List.getElem?_eq_getElem (by omega)⟩
     have hsplit : natsB r = (natsB r).take 9 ++ [last] := by
      have := take_snoc hlast
      rw [← this]
      exact (List.take_of_length_le (by omega)).symm
     have hlb : 48 ≤ last ∧ last ≤ 57 := by
      have hm : last ∈ natsB r := List.mem_of_getElem? hlast
      have := List.all_eq_true.mp hA last hm
      unfold isD at this
      rw [Bool.and_eq_true, decide_eq_true_eq, decide_eq_true_eq] at this
      exact this
     have hl9 : (((natsB r).take 9).map (· - 48)).length = 9 := by rw [List.length_map, List.length_take]; omega
     have hlu : Vbpoac.luhn false (Vbpoac.digitsOf r).reverse = (last - 48) + alt 0 (((natsB r).take 9).map (· - 48)) := by
      rw [digitsOf_eq]
      have : (natsB r).map (· - 48) = ((natsB r).take 9).map (· - 48) ++ [last - 48] := by
       conv => lhs; rw [hsplit]
       rw [List.map_append]; rfl
      rw [this, luhn10 hl9]
     have hgd : (natsB r).getD 9 0 = last := by rw [List.getD_eq_getElem?_getD, hlast]; rfl
     have hval : Vbpoac.valueOf (r.take 9) = ((natsB r).take 9).foldl (fun n c => 10 * n + (c - 48)) 0 := by
      unfold Vbpoac.valueOf natsB
      rw [← List.map_take, List.foldl_map]; rfl
     rw [hlu, hgd, hval]
     by_cases hz : (last - 48 + alt 0 (((natsB r).take 9).map (· - 48))) % 10 = 0
     ·rw [if_pos hz, if_pos ⟨by omega, rfl, rfl, by unfold chk; omega⟩]
     ·rw [if_neg hz, if_neg (by intro z; have := z.2.2.2; unfold chk at this; omega)]
   ·rw [decide_eq_false h10, Bool.false_and, if_neg Bool.false_ne_true, if_neg (by intro z; omega)]
  ·have hn : ¬ c.toNat = 86 := fun z => hc (UInt8.toNat_inj.mp (by rw [z]; rfl))
   show (if c = 86 then some r else none).bind _ = _
   rw [if_neg hc, if_neg (by intro z; have := z.2.1; injection this with this; exact hn this)]
   rfl
end
noncomputable def numN (ns : List Nat) : Nat := ns.foldl (fun n c => 10 * n + (c - 48)) 0
noncomputable def hdCons (c : Nat) : List (List Nat) → List (List Nat)
 | [] => [[c]]
 | p :: l => (c :: p) :: l
noncomputable def partsN (sep : Nat) : List Nat → List (List Nat)
 | [] => [[]]
 | c :: r => if c = sep then [] :: partsN sep r else hdCons c (partsN sep r)
theorem partsN_ne (sep : Nat) : ∀ l, partsN sep l ≠ []
 | [] => by simp [partsN]
 | c :: r => by
  unfold partsN
  by_cases h : c = sep
  ·rw [if_pos h]; simp
  ·rw [if_neg h]
   cases e : partsN sep r with
   | nil => simp [hdCons]
   | cons p l => simp [hdCons]
theorem snoc_of {α : Type} {l : List α} (h : l ≠ []) : ∃ a x, l = a ++ [x] := ⟨_, _, (List.dropLast_concat_getLast h).symm⟩
theorem parts_snoc (sep c : Nat) : ∀ (l : List Nat) (a : List (List Nat)) (cur : List Nat), partsN sep l = a ++ [cur] → partsN sep (l ++ [c]) = if c = sep then a ++ [cur] ++ [[]] else a ++ [cur ++ [c]]
 | [], a, cur, h => by
  have h' : ([] : List (List Nat)) ++ [[]] = a ++ [cur] := h
  have e := List.append_inj' h' rfl
  have e1 : a = [] := e.1.symm
  have e2 : cur = [] := (List.cons.inj e.2).1.symm
  subst e1 e2
  show partsN sep [c] = _
  unfold partsN
  by_cases z : c = sep
  ·rw [if_pos z, if_pos z]; rfl
  ·rw [if_neg z, if_neg z]; rfl
 | d :: l, a, cur, h => by
  obtain ⟨a', cur', e'⟩ := snoc_of (partsN_ne sep l)
  have ih := parts_snoc sep c l a' cur' e'
  show (if d = sep then [] :: partsN sep (l ++ [c]) else hdCons d (partsN sep (l ++ [c]))) = _
  have h0 : (if d = sep then [] :: partsN sep l else hdCons d (partsN sep l)) = a ++ [cur] := h
  by_cases z : d = sep
  ·rw [if_pos z] at h0
   rw [if_pos z, ih]
   rw [e'] at h0
   have h1 : ([] :: a') ++ [cur'] = a ++ [cur] := h0
   have e := List.append_inj' h1 rfl
   have e2 : cur' = cur := (List.cons.inj e.2).1
   rw [← e.1, ← e2]
   by_cases y : c = sep
   ·rw [if_pos y, if_pos y]; rfl
   ·rw [if_neg y, if_neg y]; rfl
  ·rw [if_neg z] at h0
   rw [if_neg z, ih]
   rw [e'] at h0
   cases a' with
   | nil =>
    have h1 : ([] : List (List Nat)) ++ [d :: cur'] = a ++ [cur] := h0
    have e := List.append_inj' h1 rfl
    have e2 : d :: cur' = cur := (List.cons.inj e.2).1
    rw [← e.1, ← e2]
    by_cases y : c = sep
    ·rw [if_pos y, if_pos y]; rfl
    ·rw [if_neg y, if_neg y]; rfl
   | cons p t =>
    have h1 : ((d :: p) :: t) ++ [cur'] = a ++ [cur] := h0
    have e := List.append_inj' h1 rfl
    have e2 : cur' = cur := (List.cons.inj e.2).1
    rw [← e.1, ← e2]
    by_cases y : c = sep
    ·rw [if_pos y, if_pos y]; rfl
    ·rw [if_neg y, if_neg y]; rfl
theorem parts_eq (sep : UInt8) : ∀ b : Vbpoac.Bytes, (Vbpoac.partsOf sep b).map natsB = partsN sep.toNat (natsB b)
 | [] => rfl
 | c :: r => by
  have ih := parts_eq sep r
  show (if c = sep then [] :: Vbpoac.partsOf sep r else match Vbpoac.partsOf sep r with
   | [] => [[c]]
   | p :: l => (c :: p) :: l).map natsB = if c.toNat = sep.toNat then [] :: partsN sep.toNat (natsB r) else hdCons c.toNat (partsN sep.toNat (natsB r))
  rw [← ih]
  by_cases h : c = sep
  ·rw [if_pos h, if_pos (by rw [h])]; rfl
  ·rw [if_neg h, if_neg (fun z => h (UInt8.toNat_inj.mp z))]
   cases Vbpoac.partsOf sep r with
   | nil => rfl
   | cons p l => rfl
noncomputable def oneWay (ns : List Nat) : Bool := decide (1 ≤ ns.length ∧ ns.length ≤ 9) && (ns.all isD && (decide (ns.length = 1) || decide (¬ ns[0]? = some 48)))
noncomputable def isPad (k : Nat) (ns : List Nat) : Bool := decide (ns.length = k) && ns.all isD
theorem all_eq (b : Vbpoac.Bytes) : b.all Vbpoac.isDigit = (natsB b).all isD := by
 unfold natsB Vbpoac.isDigit isD
 rw [List.all_map]; rfl
theorem val_eq (b : Vbpoac.Bytes) : Vbpoac.valueOf b = numN (natsB b) := by
 unfold Vbpoac.valueOf numN natsB
 rw [List.foldl_map]; rfl
theorem num_eq (b : Vbpoac.Bytes) : Vbpoac.number b = if oneWay (natsB b) = true then some (numN (natsB b)) else none := by
 cases b with
 | nil => rfl
 | cons c r =>
  show (if ((c :: r).all Vbpoac.isDigit && decide ((c :: r).length ≤ 9) && (c != 48 || r.isEmpty)) = true then some (Vbpoac.valueOf (c :: r)) else none) = _
  rw [val_eq]
  have e : ((c :: r).all Vbpoac.isDigit && decide ((c :: r).length ≤ 9) && (c != 48 || r.isEmpty)) = oneWay (natsB (c :: r)) := by
   unfold oneWay
   rw [all_eq, natsB_len]
   have h0 : (natsB (c :: r))[0]? = some c.toNat := rfl
   rw [h0]
   have h1 : (c != 48) = decide (¬ some c.toNat = some 48) := by
    by_cases z : c = 48
    ·subst z; rfl
    ·have z' : ¬ c.toNat = 48 := fun y => z (UInt8.toNat_inj.mp (by rw [y]; rfl))
     rw [decide_eq_true (by intro y; exact z' (Option.some.inj y))]
     exact bne_iff_ne.mpr z
   have h2 : r.isEmpty = decide ((c :: r).length = 1) := by
    cases r with
    | nil => rfl
    | cons d t => simp
   rw [h1, h2]
   have h3 : decide (1 ≤ (c :: r).length ∧ (c :: r).length ≤ 9) = decide ((c :: r).length ≤ 9) := by
    by_cases z : (c :: r).length ≤ 9
    ·rw [decide_eq_true z, decide_eq_true ⟨by simp, z⟩]
    ·rw [decide_eq_false z, decide_eq_false (fun y => z y.2)]
   rw [h3]
   cases (natsB (c :: r)).all isD <;> cases decide ((c :: r).length ≤ 9) <;> cases decide ((c :: r).length = 1) <;> cases decide (¬ some c.toNat = some 48) <;> rfl
  rw [e]
theorem pado_eq (k : Nat) (b : Vbpoac.Bytes) : Vbpoac.paddedOf k b = if isPad k (natsB b) = true then some (numN (natsB b)) else none := by
 unfold Vbpoac.paddedOf isPad
 rw [all_eq, natsB_len, val_eq]
theorem beh_eq (c : UInt8) (n : Nat) (hc : c.toNat = n) (x : Vbpoac.Bytes) : Vbpoac.behind c x = if (natsB x).take 1 = [n] then some (x.drop 1) else none := by
 subst hc
 cases x with
 | nil => rfl
 | cons d r =>
  show (if d = c then some r else none) = if [d.toNat] = [c.toNat] then some r else none
  by_cases h : d = c
  ·rw [if_pos h, if_pos (by rw [h])]
  ·rw [if_neg h, if_neg (fun z => h (UInt8.toNat_inj.mp (List.cons.inj z).1))]
theorem natsB_drop (k : Nat) (x : Vbpoac.Bytes) : natsB (x.drop k) = (natsB x).drop k := by unfold natsB; rw [List.map_drop]
noncomputable def fiveOf (i : Vbpoac.Imprint) : List Nat := [i.meter, i.piece, i.value, i.day, i.code]
noncomputable def readP (z w : List Nat) : List (List Nat) → List (List Nat) → Option (List Nat)
 | [m, p], [v, h] => if (oneWay m && (oneWay p && (oneWay v && oneWay z)) && (isPad 2 h && isPad 5 w)) = true then some [numN m, numN p, numN (v ++ h), numN z, numN w] else none
 | _, _ => none
noncomputable def readW : List (List Nat) → Option (List Nat)
 | [x, y, z, w] => if [x.take 1, y.take 1, z.take 1, w.take 1] = [[77], [86], [68], [67]] then readP (z.drop 1) (w.drop 1) (partsN 46 (x.drop 1)) (partsN 46 (y.drop 1)) else none
 | _ => none
noncomputable def readI (ns : List Nat) : Option (List Nat) := readW (partsN 32 ns)
theorem num_app {v h : List Nat} (hh : h.length = 2) : numN (v ++ h) = 100 * numN v + numN h := by
 match h, hh with
 | [a, b], _ =>
  unfold numN
  rw [List.foldl_append]
  show 10 * (10 * _ + (a - 48)) + (b - 48) = 100 * _ + (10 * (10 * 0 + (a - 48)) + (b - 48))
  omega
theorem four {α : Type} {a b c d a' b' c' d' : α} (h : [a, b, c, d] = [a', b', c', d']) : a = a' ∧ b = b' ∧ c = c' ∧ d = d' := by
 have h1 := List.cons.inj h
 have h2 := List.cons.inj h1.2
 have h3 := List.cons.inj h2.2
 have h4 := List.cons.inj h3.2
 exact ⟨h1.1, h2.1, h3.1, h4.1⟩
theorem readI_eq (b : Vbpoac.Bytes) : (Vbpoac.readImprint b).map fiveOf = readI (natsB b) := by
  unfold Vbpoac.readImprint readI
  have hP := parts_eq 32 b
  have e32 : (32 : UInt8).toNat = 32 := rfl
  rw [e32] at hP
  rw [← hP]
  generalize Vbpoac.partsOf 32 b = P
  rcases P with _ | ⟨x, _ | ⟨y, _ | ⟨z, _ | ⟨w, _ | ⟨u, r⟩⟩⟩⟩⟩
  · rfl
  · rfl
  · rfl
  · rfl
  · show Option.map fiveOf ((Vbpoac.behind 77 x).bind fun x => (Vbpoac.behind 86 y).bind fun y => (Vbpoac.behind 68 z).bind fun z => (Vbpoac.behind 67 w).bind fun w =>
      match Vbpoac.partsOf 46 x with
      | [m, p] => (Vbpoac.number m).bind fun m => (Vbpoac.number p).bind fun p => (Vbpoac.moneyOf y).bind fun v => (Vbpoac.number z).bind fun d => (Vbpoac.paddedOf 5 w).map fun c => ⟨m, p, v, d, c⟩
      | _ => none) = if [(natsB x).take 1, (natsB y).take 1, (natsB z).take 1, (natsB w).take 1] = [[77], [86], [68], [67]] then readP ((natsB z).drop 1) ((natsB w).drop 1) (partsN 46 ((natsB x).drop 1)) (partsN 46 ((natsB y).drop 1)) else none
    rw [beh_eq 77 77 rfl x, beh_eq 86 86 rfl y, beh_eq 68 68 rfl z, beh_eq 67 67 rfl w]
    by_cases hx : (natsB x).take 1 = [77]
    · by_cases hy : (natsB y).take 1 = [86]
      · by_cases hz : (natsB z).take 1 = [68]
        · by_cases hw : (natsB w).take 1 = [67]
          · rw [if_pos hx, if_pos hy, if_pos hz, if_pos hw, if_pos (by rw [hx, hy, hz, hw])]
            show Option.map fiveOf (match Vbpoac.partsOf 46 (x.drop 1) with
              | [m, p] => (Vbpoac.number m).bind fun m => (Vbpoac.number p).bind fun p => (Vbpoac.moneyOf (y.drop 1)).bind fun v => (Vbpoac.number (z.drop 1)).bind fun d => (Vbpoac.paddedOf 5 (w.drop 1)).map fun c => ⟨m, p, v, d, c⟩
              | _ => none) = _
            have h1 := parts_eq 46 (x.drop 1)
            have h2 := parts_eq 46 (y.drop 1)
            have e46 : (46 : UInt8).toNat = 46 := rfl
            rw [e46, natsB_drop] at h1 h2
            rw [← h1, ← h2, ← natsB_drop, ← natsB_drop]
            unfold Vbpoac.moneyOf
            generalize Vbpoac.partsOf 46 (x.drop 1) = X
            generalize Vbpoac.partsOf 46 (y.drop 1) = Y
            generalize z.drop 1 = z'
            generalize w.drop 1 = w'
            rcases X with _ | ⟨m, _ | ⟨p, _ | ⟨u, r⟩⟩⟩
            · rfl
            · rfl
            · have hno : ∀ Y : List (List Nat), (∀ v h, Y ≠ [v, h]) → readP (natsB z') (natsB w') [natsB m, natsB p] Y = none := fun Y hY => by
                rcases Y with _ | ⟨v, _ | ⟨h, _ | ⟨u, r⟩⟩⟩
                · rfl
                · rfl
                · exact absurd rfl (hY v h)
                · rfl
              rcases Y with _ | ⟨v, _ | ⟨h, _ | ⟨u, r⟩⟩⟩
              · show Option.map fiveOf ((Vbpoac.number m).bind fun m => (Vbpoac.number p).bind fun p => none) = none
                cases Vbpoac.number m <;> cases Vbpoac.number p <;> rfl
              · show Option.map fiveOf ((Vbpoac.number m).bind fun m => (Vbpoac.number p).bind fun p => none) = none
                cases Vbpoac.number m <;> cases Vbpoac.number p <;> rfl
              · show Option.map fiveOf ((Vbpoac.number m).bind fun m => (Vbpoac.number p).bind fun p => ((Vbpoac.number v).bind fun a => (Vbpoac.paddedOf 2 h).map fun c => 100 * a + c).bind fun v => (Vbpoac.number z').bind fun d => (Vbpoac.paddedOf 5 w').map fun c => ⟨m, p, v, d, c⟩) =
                  if (oneWay (natsB m) && (oneWay (natsB p) && (oneWay (natsB v) && oneWay (natsB z'))) && (isPad 2 (natsB h) && isPad 5 (natsB w'))) = true then some [numN (natsB m), numN (natsB p), numN (natsB v ++ natsB h), numN (natsB z'), numN (natsB w')] else none
                rw [num_eq m, num_eq p, num_eq v, num_eq z', pado_eq 2 h, pado_eq 5 w']
                cases em : oneWay (natsB m) <;> cases ep : oneWay (natsB p) <;> cases ev : oneWay (natsB v) <;> cases ez : oneWay (natsB z') <;> cases eh : isPad 2 (natsB h) <;> cases ew : isPad 5 (natsB w') <;> first
                  | rfl
                  | (have h2 : (natsB h).length = 2 := by
                       unfold isPad at eh
                       rw [Bool.and_eq_true] at eh
                       exact of_decide_eq_true eh.1
                     rw [num_app h2]; rfl)
              · show Option.map fiveOf ((Vbpoac.number m).bind fun m => (Vbpoac.number p).bind fun p => none) = none
                cases Vbpoac.number m <;> cases Vbpoac.number p <;> rfl
            · rfl
          · rw [if_pos hx, if_pos hy, if_pos hz, if_neg hw, if_neg (fun q => hw (four q).2.2.2)]
            rfl
        · rw [if_pos hx, if_pos hy, if_neg hz, if_neg (fun q => hz (four q).2.2.1)]
          rfl
      · rw [if_pos hx, if_neg hy, if_neg (fun q => hy (four q).2.1)]
        rfl
    · rw [if_neg hx, if_neg (fun q => hx (four q).1)]
      rfl
  · rfl
local macro_rules | `(tactic| walk_at "pm") => `(tactic| first | with_reducible refine i_din ?_ | with_reducible refine i_get1 ?_ | with_reducible refine i_dput ?_)
section
section
variable {P : Program} {w : World} {K : PySem.W.Frag} {mg : Str → Option Value} {base : Heap} {A : Adr}
open TL (tl numL)
noncomputable def spx16 (A : Adr) : Sp := fun vs H Q _ => ∃ (l : Addr) (ns : List Nat), vs = [.ref l] ∧ H l = some (.lst (intsV ns)) ∧ (∀ n ∈ ns, 48 ≤ n) ∧ ns.length < 10000 ∧ ∀ p H', H p = none → H' p = some (.lst (intsV (ns.map (· - 48)))) → Same H H' → Q (.ref p) H'
theorem cx16 (P : Program) (w : World) (base : Heap) (T : Txt K mg A) : Cal P w K mg base 1 "digits_of" ["row"] (spx16 A) := by
 obtain ⟨f, fd, F, hm, b⟩ := T.fx16
 refine ⟨f, fd, F.ok (k := 0) scx16 (fun vs H Q E h => ?_) (fun cdv A' outer s H vs Q E hr h => ?_), hm, F.kp, b⟩
 ·obtain ⟨_, _, rfl, _⟩ := h
  rfl
 ·obtain ⟨l, ns, rfl, h⟩ := h
  refine ⟨_, (pss_one (ps_ret (plc (x := "byte") (n := 1) rfl scx16.nd (pi_list (pv 0)) (blkOk_by (by rfl)) (fun _ _ _ _ _ => by exact (pgn 1 scx16.nd)) (fun _ _ _ _ _ => by exact pts_nil) (fun _ _ _ _ _ => by exact (pe_op op_sub (pv 1) (pgi T.gxp)))))), ?_⟩
  obtain ⟨hl, hb, hz, q⟩ := h
  walk_at "p"
  refine rd_lc (ys := ns) (fun n => V.int (n : Int)) (SqL.of hl) (Nat.lt_trans hz (by decide)) (fun _ => true) (fun n => V.int ((n - 48 : Nat) : Int)) (fun y hy H1 s1 R hR => ?_) (fun y hy _ H1 s1 R hR => ?_) (fun p H1 hp e1 s1 _ => ?_)
  ·walk_at "p"
   exact hR
  ·walk_at "p"
   have := hb y hy
   rw [show (y : Int) - 48 = ((y - 48 : Nat) : Int) by omega]
   exact hR
  ·refine q p H1 hp ?_ s1
   rw [e1, List.filter_eq_self.mpr (fun _ _ => rfl)]
   unfold intsV
   rw [List.map_map]; rfl
noncomputable def spx15 (A : Adr) : Sp := fun vs H Q _ => ∃ (l : Addr) (ns : List Nat), vs = [.ref l] ∧ H l = some (.lst (intsV ns)) ∧ ns.length < 10000 ∧ ∀ H', Same H H' → Q (.bl (ns.all isD)) H'
theorem cx15 (P : Program) (w : World) (base : Heap) (T : Txt K mg A) : Cal P w K mg base 1 "all_digits" ["row"] (spx15 A) := by
 obtain ⟨f, fd, F, hm, b⟩ := T.fx15
 refine ⟨f, fd, F.ok (k := 0) scx15 (fun vs H Q E h => ?_) (fun cdv A' outer s H vs Q E hr h => ?_), hm, F.kp, b⟩
 ·obtain ⟨_, _, rfl, _⟩ := h
  rfl
 ·obtain ⟨l, ns, rfl, h⟩ := h
  refine ⟨_, (pss_one (ps_ret (pe_callB (cr_all rfl) (by rfl) T.b_all (by decide +kernel) (pa_cons (plc (x := "byte") (n := 1) rfl scx15.nd (pi_list (pv 0)) (blkOk_by (by rfl)) (fun _ _ _ _ _ => by exact (pgn 1 scx15.nd)) (fun _ _ _ _ _ => by exact pts_nil) (fun _ _ _ _ _ => by exact (pe_chain op_le op_le (pgi T.gxp) (pv 1) (pgi T.gxq)))) pa_nil)))), ?_⟩
  obtain ⟨hl, hz, q⟩ := h
  walk_at "p"
  refine rd_lc (ys := ns) (fun n => V.int (n : Int)) (SqL.of hl) (Nat.lt_trans hz (by decide)) (fun _ => true) (fun n => V.bl (isD n)) (fun y hy H1 s1 R hR => ?_) (fun y hy _ H1 s1 R hR => ?_) (fun p H1 hp e1 s1 _ => ?_)
  ·walk_at "p"
   exact hR
  ·walk_at "p"
   have e : (decide ((48 : Int) ≤ (y : Int)) && decide ((y : Int) ≤ 57)) = isD y := by
    unfold isD
    have a : decide ((48 : Int) ≤ (y : Int)) = decide (48 ≤ y) := by
     by_cases z : 48 ≤ y
     ·rw [decide_eq_true z, decide_eq_true (by omega)]
     ·rw [decide_eq_false z, decide_eq_false (by omega)]
    have b : decide ((y : Int) ≤ 57) = decide (y ≤ 57) := by
     by_cases z : y ≤ 57
     ·rw [decide_eq_true z, decide_eq_true (by omega)]
     ·rw [decide_eq_false z, decide_eq_false (by omega)]
    rw [a, b]
   rw [e]; exact hR
  ·rw [List.filter_eq_self.mpr (fun _ _ => rfl)] at e1
   walk_at "p"
   refine ⟨p, ns.map isD, rfl, SqL.of (by rw [e1, List.map_map]; rfl), ?_⟩
   rw [List.all_map]
   exact q H1 s1
noncomputable def spx17 (A : Adr) : Sp := fun vs H Q _ => ∃ (l : Addr) (ns : List Nat), vs = [.ref l] ∧ H l = some (.lst (intsV ns)) ∧ (∀ n ∈ ns, 48 ≤ n) ∧ ns.length < 10000 ∧ ∀ H', Same H H' → Q (.int ((numN ns : Nat) : Int)) H'
theorem cx17 (P : Program) (w : World) (base : Heap) (T : Txt K mg A) : Cal P w K mg base 2 "number_of" ["row"] (spx17 A) := by
 have Cx16 := cx16 P w base T
 obtain ⟨f, fd, F, hm, b⟩ := T.fx17
 refine ⟨f, fd, F.ok (k := 1) scx17 (fun vs H Q E h => ?_) (fun cdv A' outer s H vs Q E hr h => ?_), hm, F.kp, b⟩
 ·obtain ⟨_, _, rfl, _⟩ := h
  rfl
 ·obtain ⟨l, ns, rfl, h⟩ := h
  refine ⟨_, (pss_cons (pst 1 scx17.nd pe_int)
   (pss_cons (ps_for PassesOwn.never rfl (pi_list (pcl Cx16 hr rfl (pa_cons (pv 0) pa_nil))) (pgn 2 scx17.nd)
    (pss_one (pst 1 scx17.nd (pe_op op_add (pe_op op_mul pe_int (pv 1)) (pv 2)))))
   (pss_one (ps_ret (pv 1))))), ?_⟩
  obtain ⟨hl, hb, hz, q⟩ := h
  walk_at "p"
  refine ⟨l, ns, rfl, hl, hb, hz, fun l1 H1 n1 e1 s1 => ?_⟩
  refine rd_for (SqL.of e1) (fun i σ H' => H' = H1 ∧ ∃ v, σ = [some (.ref l), some (.int ((numN (ns.take i) : Nat) : Int)), v]) ⟨rfl, none, rfl⟩ (fun i σ H' _ ⟨e, _⟩ => by rw [e]; exact SqL.of e1) ?_ ?_
  ·rintro i x σ H' hi ⟨rfl, v, rfl⟩
   obtain ⟨y, hy, rfl⟩ := map_ref hi
   obtain ⟨z, hz', rfl⟩ : ∃ z, ns[i]? = some z ∧ z - 48 = y := by
    rw [List.getElem?_map] at hy
    cases e : ns[i]? with
    | none => rw [e] at hy; cases hy
    | some z => rw [e] at hy; exact ⟨z, rfl, Option.some.inj hy⟩
   show tAsg _ _ _ _ _
   walk_at "p"
   refine i_rI (.inl ⟨by decide, by decide⟩) ?_
   walk_at "p"
   refine ⟨rfl, some (.int ((z - 48 : Nat) : Int)), ?_⟩
   have e : numN (ns.take (i + 1)) = 10 * numN (ns.take i) + (z - 48) := by
    unfold numN
    rw [take_snoc hz', List.foldl_append]; rfl
   rw [e, show ((10 * numN (ns.take i) + (z - 48) : Nat) : Int) = 10 * ((numN (ns.take i) : Nat) : Int) + ((z - 48 : Nat) : Int) by omega]
   rfl
  ·rintro σ H' ⟨rfl, v, rfl⟩
   walk_at "p"
   have el : (intsV (ns.map (· - 48))).length = ns.length := by unfold intsV; rw [List.length_map, List.length_map]
   rw [el, List.take_length]
   exact q _ s1
noncomputable def spx1c (A : Adr) : Sp := fun vs H Q _ => ∃ (l : Addr) (ds : List Nat), vs = [.ref l] ∧ H l = some (.lst (intsV ds)) ∧ ∀ H', Same H H' → Q (.int ((chk ds : Nat) : Int)) H'
theorem cx1c (P : Program) (w : World) (base : Heap) (T : Txt K mg A) : Cal P w K mg base 1 "check_digit" ["digits"] (spx1c A) := by
 obtain ⟨f, fd, F, hm, b⟩ := T.fx1c
 refine ⟨f, fd, F.ok (k := 0) scx1c (fun vs H Q E h => ?_) (fun cdv A' outer s H vs Q E hr h => ?_), hm, F.kp, b⟩
 ·obtain ⟨_, _, rfl, _⟩ := h
  rfl
 ·obtain ⟨l, ds, rfl, h⟩ := h
  refine ⟨_, (pss_cons (pst 1 scx1c.nd pe_int)
   (pss_cons (ps_for PassesOwn.never rfl (pi_enum (by rfl) T.b_enumerate (pa_cons (pv 0) pa_nil)) (pg_tup rfl (pgs_cons (pgn 2 scx1c.nd) (pgs_cons (pgn 3 scx1c.nd) pgs_nil)))
    (pss_one (ps_if (pt_cmpR op_eq (pe_op op_mod (pv 2) pe_int) pe_int (nomark _)) (pss_one (pag 1 scx1c.nd (pv 3) ip_add)) (pss_one (ps_if (pt_cmpR op_gt (pv 3) pe_int (nomark _)) (pss_one (pag 1 scx1c.nd (pe_op op_sub (pe_op op_mul pe_int (pv 3)) pe_int) ip_add)) (pss_one (pag 1 scx1c.nd (pe_op op_mul pe_int (pv 3)) ip_add)))))))
   (pss_one (ps_ret (pe_op op_mod (pe_un un_neg (pv 1)) pe_int))))), ?_⟩
  obtain ⟨hl, q⟩ := h
  walk_at "p"
  refine rd_forE (SqL.of hl) (fun i σ H' => (∃ v2 v3, σ = [some (.ref l), some (.int ((alt 0 (ds.take i) : Nat) : Int)), v2, v3]) ∧ Same H H') ⟨⟨none, none, rfl⟩, Same.refl H⟩ (fun i σ H' _ ⟨_, s⟩ => SqL.of (s _ _ hl)) ?_ ?_
  ·rintro i x σ H' t hi ⟨⟨v2, v3, rfl⟩, s⟩ ht
   obtain ⟨d, hd, rfl⟩ := map_ref hi
   have hlen : (ds.take i).length = i := by
    have := (List.getElem?_eq_some_iff.mp hd).1
    rw [List.length_take]; omega
   have ea := alt_snoc (ds.take i) 0 d
   rw [← take_snoc hd, hlen, Nat.zero_add] at ea
   refine rd_tup2 upd_same ?_
   have s2 : Same H (upd H' t (.tup [.int (i : Nat), .int (d : Int)])) := s.trans (Same.upd ht)
   walk_at "p"
   refine i_rI (show (0 : Int) < 2 by decide) ?_
   walk_at "p"
   refine ite_d (fun h1 => ?_) (fun h1 => ?_)
   ·walk_at "p"
    refine ⟨⟨some (.int (i : Int)), some (.int (d : Int)), ?_⟩, s2⟩
    rw [ea, if_pos (by omega)]; rfl
   ·rw [if_neg (by omega)] at ea
    walk_at "p"
    refine ite_d (fun h4 => ?_) (fun h4 => ?_)
    ·walk_at "p"
     refine i_rI (.inl ⟨by decide, by decide⟩) ?_
     walk_at "p"
     refine ⟨⟨some (.int (i : Int)), some (.int (d : Int)), ?_⟩, s2⟩
     have et : Vbpoac.twice d = 2 * d - 9 := by unfold Vbpoac.twice; rw [if_pos (by omega)]
     rw [ea, et, show ((alt 0 (ds.take i) : Nat) : Int) + (2 * (d : Int) - 9) = ((alt 0 (ds.take i) + (2 * d - 9) : Nat) : Int) by omega]; rfl
    ·walk_at "p"
     refine i_rI (.inl ⟨by decide, by decide⟩) ?_
     walk_at "p"
     refine ⟨⟨some (.int (i : Int)), some (.int (d : Int)), ?_⟩, s2⟩
     have et : Vbpoac.twice d = 2 * d := by unfold Vbpoac.twice; rw [if_neg (by omega)]
     rw [ea, et, show ((alt 0 (ds.take i) : Nat) : Int) + 2 * (d : Int) = ((alt 0 (ds.take i) + 2 * d : Nat) : Int) by omega]; rfl
  ·rintro σ H' ⟨⟨v2, v3, rfl⟩, s⟩
   walk_at "p"
   refine i_rI (show (0 : Int) < 10 by decide) ?_
   have el : (intsV ds).length = ds.length := List.length_map _
   rw [el, List.take_length]
   have := q H' s
   rw [show (-((alt 0 ds : Nat) : Int)) % 10 = ((chk ds : Nat) : Int) by unfold chk; omega]
   exact this
theorem padL_len {n : Nat} (h : n < 10 ^ 9) : (padL 9 n).length = 9 := by rw [← pad_eq 9 n (by decide) h, natsB_len, padded_len]
theorem padL_dig (k n : Nat) : ∀ c ∈ padL k n, 48 ≤ c ∧ c ≤ 57 := fun c hc => by
 unfold padL at hc
 rcases List.mem_append.mp hc with h | h
 ·have := (List.mem_replicate.mp h).2; omega
 ·exact TL.numL_digits n c h
noncomputable def spx1d (A : Adr) : Sp := fun vs H Q _ => ∃ n : Nat, vs = [.int n] ∧ n < 10 ^ 9 ∧ ∀ p H', H p = none → H' p = some (.lst (intsV (natsB (Vbpoac.voucherText n)))) → Same H H' → Q (.ref p) H'
theorem cx1d (P : Program) (w : World) (base : Heap) (T : Txt K mg A) : Cal P w K mg base 2 "voucher_text" ["number"] (spx1d A) := by
 have Cx1c := cx1c P w base T
 have Cx16 := cx16 P w base T
 have Cx12 := cx12 P w base T
 have Cx11 := cx11 P w base T
 obtain ⟨f, fd, F, hm, b⟩ := T.fx1d
 refine ⟨f, fd, F.ok (k := 1) scx1d (fun vs H Q E h => ?_) (fun cdv A' outer s H vs Q E hr h => ?_), hm, F.kp, b⟩
 ·obtain ⟨_, rfl, _⟩ := h
  rfl
 ·obtain ⟨n, rfl, h⟩ := h
  refine ⟨_, (pss_cons (pst 1 scx1d.nd (pcl Cx11 hr rfl (pa_cons (pcl Cx12 hr rfl (pa_cons (pv 0) (pa_cons (pgi T.gxz) pa_nil))) pa_nil)))
   (pss_one (ps_ret (pe_op op_cat (pe_op op_cat (pe_lst (pa_cons (pgi T.gxy) pa_nil)) (pv 1)) (pe_lst (pa_cons (pe_op op_add (pgi T.gxp) (pcl Cx1c hr rfl (pa_cons (pcl Cx16 hr rfl (pa_cons (pv 1) pa_nil)) pa_nil))) pa_nil)))))), ?_⟩
  obtain ⟨hn, q⟩ := h
  have h9 := padL_len hn
  walk_at "p"
  refine ⟨n, 9, rfl, by omega, by decide, fun z hz => ?_⟩
  walk_at "p"
  refine ⟨z, rfl, by rw [← Array.length_toList]; show (tl z).length < _; rw [hz, h9]; decide, fun l1 H1 n1 e1 s1 => ?_⟩
  rw [hz] at e1
  walk_at "p"
  refine nl (fun l2 H2 n2 e2 s2 _ => ?_)
  walk_at "p"
  refine do_cat e2 (s2 _ _ e1) (by show 1 + (intsV _).length ≤ _; unfold intsV; rw [List.length_map, h9]; decide) (fun l3 H3 n3 e3 s3 _ => ?_)
  have s13 := s2.trans s3
  walk_at "p"
  refine ⟨l1, padL 9 n, rfl, s13 _ _ e1, fun c hc => (padL_dig 9 n c hc).1, by rw [h9]; decide, fun l4 H4 n4 e4 s4 => ?_⟩
  walk_at "p"
  refine ⟨l4, _, rfl, e4, fun H5 s5 => ?_⟩
  walk_at "p"
  refine nl (fun l6 H6 n6 e6 s6 _ => ?_)
  have s36 := (s4.trans s5).trans s6
  refine do_cat (s36 _ _ e3) e6 (by show _ + 1 ≤ _; unfold intsV; rw [List.length_append, List.length_map, h9]; decide) (fun l7 H7 n7 e7 s7 _ => ?_)
  have s06 := (s1.trans s13).trans s36
  refine q l7 H7 (s06.free n7) ?_ (s06.trans s7)
  rw [e7, vou_eq n hn]
  unfold intsV
  rw [List.map_cons, List.map_append]
  rfl
noncomputable def spx1e (A : Adr) : Sp := fun vs H Q _ => ∃ (l : Addr) (b : List Nat), vs = [.ref l] ∧ H l = some (.lst (intsV b)) ∧ b.length < 9000 ∧ ∀ H', Same H H' → Q (optV (readN b)) H'
theorem cx1e (P : Program) (w : World) (base : Heap) (T : Txt K mg A) : Cal P w K mg base 3 "read_voucher" ["row"] (spx1e A) := by
 have Cx15 := cx15 P w base T
 have Cx1c := cx1c P w base T
 have Cx16 := cx16 P w base T
 have Cx17 := cx17 P w base T
 obtain ⟨f, fd, F, hm, b⟩ := T.fx1e
 refine ⟨f, fd, F.ok (k := 2) scx1e (fun vs H Q E h => ?_) (fun cdv A' outer s H vs Q E hr h => ?_), hm, F.kp, b⟩
 ·obtain ⟨_, _, rfl, _⟩ := h
  rfl
 ·obtain ⟨l, b, rfl, h⟩ := h
  refine ⟨_, (pss_cons (ps_if (PW.pt (pw_or (pt_cmpR op_ne (pe_callB call_len_seq (by rfl) T.b_len (by decide +kernel) (pa_cons (pv 0) pa_nil)) (pgi T.gx10) (nomark _)) (pw_or (pt_cmpR op_ne (pe_ix ix_list (pv 0) pe_int (fun _ _ => rfl)) (pgi T.gxy) (nomark _)) (pw_or1 (pt_not (ptt (pcl Cx15 hr rfl (pa_cons (pe_slice sl_list (pv 0) (po_some pe_int) po_none) pa_nil)))))))) (pss_one (ps_ret pe_non)) pss_nil)
   (pss_cons (pst 1 scx1e.nd (pcl Cx16 hr rfl (pa_cons (pe_slice sl_list (pv 0) (po_some pe_int) po_none) pa_nil)))
   (pss_cons (ps_if (pt_cmpR op_ne (pcl Cx1c hr rfl (pa_cons (pe_slice sl_list (pv 1) po_none (po_some (pe_un un_neg pe_int))) pa_nil)) (pe_ix ix_list (pv 1) (pe_un un_neg pe_int) (fun _ _ => rfl)) (nomark _)) (pss_one (ps_ret pe_non)) pss_nil)
   (pss_one (ps_ret (pcl Cx17 hr rfl (pa_cons (pe_slice sl_list (pv 0) (po_some pe_int) (po_some (pe_un un_neg pe_int))) pa_nil))))))), ?_⟩
  obtain ⟨hl, hz, q⟩ := h
  have bl : (intsV b).length = b.length := List.length_map _
  have none_ : ∀ H', Same H H' → ¬ (b.length = 11 ∧ b[0]? = some 86 ∧ ((b.drop 1).all isD) = true ∧ chk (((b.drop 1).take 9).map (· - 48)) = ((b.drop 1).getD 9 0) - 48) → Q .non H' := fun H' s z => by
   have e : readN b = none := by unfold readN; rw [if_neg z]
   have := q H' s
   rw [e] at this; exact this
  walk_at "p"
  refine ⟨l, _, rfl, .inl (SqL.of hl), ?_⟩
  rw [bl]
  walk_at "p"
  refine ite_nd (fun h11 => ?_) (fun h11 => ?_)
  ·refine iteT ?_
   walk_at "p"
   exact none_ H (Same.refl H) fun z => h11 (by omega)
  ·have b11 : b.length = 11 := by omega
   obtain ⟨c0, hc0⟩ : ∃ c, b[0]? = some c := ⟨_, List.getElem?_eq_getElem (by omega)⟩
   walk_at "p"
   refine ⟨l, _, _, .int (c0 : Int), rfl, rfl, SqL.of hl, at_of (j := 0) rfl (by unfold intsV; rw [List.getElem?_map, hc0]; rfl), ?_⟩
   walk_at "p"
   refine ite_nd (fun h86 => ?_) (fun h86 => ?_)
   ·refine iteT ?_
    walk_at "p"
    exact none_ H (Same.refl H) fun z => h86 (by have := z.2.1; rw [hc0] at this; injection this with this; omega)
   ·have c86 : c0 = 86 := by omega
    have cut1 : cutV (intsV b) (some 1) none = intsV (b.drop 1) := by rw [cut_from (by decide)]; unfold intsV; rw [List.map_drop]; rfl
    have d10 : (b.drop 1).length = 10 := by rw [List.length_drop]; omega
    walk_at "p"
    refine rd_sl (SqL.of hl) (fun l1 H1 n1 e1 s1 _ => ?_)
    rw [cut1] at e1
    walk_at "p"
    refine ⟨l1, b.drop 1, rfl, e1, by omega, fun H2 s2 => ?_⟩
    have s02 := s1.trans s2
    walk_at "p"
    refine ite_nb (fun hA => ?_) (fun hA => ?_)
    ·walk_at "p"
     exact none_ H2 s02 fun z => by rw [hA] at z; exact absurd z.2.2.1 Bool.false_ne_true
    ·obtain ⟨last, hlast⟩ : ∃ k, (b.drop 1)[9]? = some k := ⟨_, List.getElem?_eq_getElem (by omega)⟩
     have hsplit : b.drop 1 = (b.drop 1).take 9 ++ [last] := by
      have := take_snoc hlast
      rw [← this]
      exact (List.take_of_length_le (by omega)).symm
     have hdig : ∀ c ∈ b.drop 1, 48 ≤ c := fun c hc => by
      have := List.all_eq_true.mp hA c hc
      unfold isD at this
      rw [Bool.and_eq_true, decide_eq_true_eq, decide_eq_true_eq] at this
      exact this.1
     have hgd : (b.drop 1).getD 9 0 = last := by rw [List.getD_eq_getElem?_getD, hlast]; rfl
     have hsp2 : (b.drop 1).map (· - 48) = ((b.drop 1).take 9).map (· - 48) ++ [last - 48] := by
      conv => lhs; rw [hsplit]
      rw [List.map_append]; rfl
     have cut9 : cutV (intsV ((b.drop 1).map (· - 48))) none (some (-1)) = intsV (((b.drop 1).take 9).map (· - 48)) := by
      rw [cut_last, hsp2]
      unfold intsV
      rw [List.map_append]
      exact List.dropLast_concat
     walk_at "p"
     refine rd_sl (SqL.of (s02 _ _ hl)) (fun l3 H3 n3 e3 s3 _ => ?_)
     rw [cut1] at e3
     walk_at "p"
     refine ⟨l3, b.drop 1, rfl, e3, hdig, by omega, fun l4 H4 n4 e4 s4 => ?_⟩
     walk_at "p"
     refine rd_sl (SqL.of e4) (fun l5 H5 n5 e5 s5 _ => ?_)
     rw [cut9] at e5
     walk_at "p"
     refine ⟨l5, _, rfl, e5, fun H6 s6 => ?_⟩
     have e46 : H6 l4 = some (.lst (intsV ((b.drop 1).map (· - 48)))) := s6 _ _ (s5 _ _ e4)
     have s06 : Same H H6 := (((s02.trans s3).trans s4).trans s5).trans s6
     walk_at "p"
     refine ⟨l4, _, _, .int ((last - 48 : Nat) : Int), rfl, rfl, SqL.of e46, ?_, ?_⟩
     ·rw [hsp2]; unfold intsV; rw [List.map_append]; exact atI_last _ _
     ·walk_at "p"
      refine ite_nd (fun hck => ?_) (fun hck => ?_)
      ·walk_at "p"
       exact none_ H6 s06 fun z => hck (by have := z.2.2.2; rw [hgd] at this; omega)
      ·have eR : readN b = some (((b.drop 1).take 9).foldl (fun n c => 10 * n + (c - 48)) 0) := by
        unfold readN
        rw [if_pos ⟨b11, by rw [hc0, c86], hA, by rw [hgd]; omega⟩]
       walk_at "p"
       refine rd_sl (SqL.of (s06 _ _ hl)) (fun l7 H7 n7 e7 s7 _ => ?_)
       have cut19 : cutV (intsV b) (some 1) (some (-1)) = intsV ((b.drop 1).take 9) := by
        have e11 : (intsV b).length = 11 := by rw [bl, b11]
        unfold cutV HT.sIx
        simp only [e11]
        unfold intsV
        rw [← List.map_drop, ← List.map_take]
        rfl
       rw [cut19] at e7
       walk_at "p"
       refine ⟨l7, (b.drop 1).take 9, rfl, e7, fun c hc => hdig c (List.mem_of_mem_take hc), by rw [List.length_take]; omega, fun H8 s8 => ?_⟩
       have := q _ ((s06.trans s7).trans s8)
       rw [eR] at this; exact this
end
end
section
section
variable {P : Program} {w : World} {K : PySem.W.Frag} {mg : Str → Option Value} {base : Heap} {A : Adr}
open TL (tl numL)
theorem find_st (D : DS) (n : Nat) : (D.st.vouchers.find? fun x => x.number == n) = (D.vouchers.find? fun p => p.2.number == n).map (·.2) := by
 show (D.vouchers.map (·.2)).find? _ = _
 rw [List.find?_map]; rfl
theorem any_find (D : DS) (n : Nat) : (D.st.vouchers.any fun x => (x.number : Int) == (n : Int)) = (D.vouchers.find? fun p => p.2.number == n).isSome := by
 show (D.vouchers.map (·.2)).any _ = _
 rw [List.any_map]
 have e : ((fun (x : Vbpoac.Voucher) => (x.number : Int) == (n : Int)) ∘ fun (p : Addr × Vbpoac.Voucher) => p.2) = fun p => p.2.number == n := by
  funext p
  show ((p.2.number : Int) == (n : Int)) = (p.2.number == n)
  by_cases h : p.2.number = n
  ·rw [h, beq_self_eq_true, beq_self_eq_true]
  ·have h' : ¬ (p.2.number : Int) = (n : Int) := by omega
   rw [beq_eq_false_iff_ne.mpr h, beq_eq_false_iff_ne.mpr h']
 rw [e]
 induction D.vouchers with
 | nil => rfl
 | cons p r ih =>
  by_cases h : (p.2.number == n) = true
  ·rw [List.any_cons, List.find?_cons_of_pos (p := fun (p : Addr × Vbpoac.Voucher) => p.2.number == n) h, h]; rfl
  ·rw [List.any_cons, List.find?_cons_of_neg (p := fun (p : Addr × Vbpoac.Voucher) => p.2.number == n) h, Bool.eq_false_iff.mpr h, Bool.false_or]; exact ih
theorem bytesV (b : Vbpoac.Bytes) : intsV (natsB b) = (Vbpoac.bytes b).map V.int := by rw [bytes_eq, intsV_map]
noncomputable abbrev spx2g (A : Adr) : Sp := spC2 A .voucher
theorem cx2g (P : Program) (w : World) (base : Heap) (T : Txt K mg A) : Cal P w K mg base 3 "new_voucher" ["world", "number", "value"] (spx2g A) := by
 have Mx1w := cx1x P w base T
 have Cx1d := cx1d P w base T
 have Cxl := cxl P w base T
 obtain ⟨f, fd, F, hm, b⟩ := T.fx2g
 refine ⟨f, fd, F.ok (k := 2) scx2g (fun vs H Q E h => ?_) (fun cdv A' outer s H vs Q E hr h => ?_), hm, F.kp, b⟩
 ·obtain ⟨_, _, _, _, rfl, _⟩ := h
  rfl
 ·obtain ⟨c, D, n, v, rfl, h⟩ := h
  refine ⟨_, (pss_cons (ps_if (PW.pt (pw_or (pt_not (pt_chain op_le op_le pe_int (pv 1) (pgi T.gx2b))) (pw_or1 (pt_not (pt_chain op_le op_le pe_int (pv 2) (pgi T.gx2c)))))) (pss_one (ps_ret (pe_lst (pa_cons (pgi T.gxd) pa_nil)))) pss_nil)
   (pss_cons (ps_if (pt_cmp (pc_din (hu_of hr) (pv 1) (pfl (pv 0)))) (pss_one (ps_ret (pe_lst (pa_cons (pgi T.gxh) pa_nil)))) pss_nil)
   (pss_cons (ps_if (pt_cmpR op_eq (pe_callB call_lenD (by rfl) T.b_len (by decide +kernel) (pa_cons (pfl (pv 0)) pa_nil)) (pgi T.gx2a) (nomark _)) (pss_one (ps_ret (pe_lst (pa_cons (pgi T.gxk) pa_nil)))) pss_nil)
   (pss_cons (ps_dput (hu_of hr) (pfl (pv 0)) (pv 1) (pmk Mx1w hr rfl (pa_cons (pv 2) pa_nil)) rfl)
   (pss_one (ps_ret (pcl Cxl hr rfl (pa_cons (pe_callB call_lenD (by rfl) T.b_len (by decide +kernel) (pa_cons (pfl (pv 0)) pa_nil)) (pa_cons (pe_lst (pa_cons (pcl Cx1d hr rfl (pa_cons (pv 1) pa_nil)) pa_nil)) pa_nil))))))))), ?_⟩
  obtain ⟨hW, hG, hc, q⟩ := h
  obtain ⟨dw, hw⟩ := hW.wo
  have lv : D.st.vouchers.length = D.vouchers.length := List.length_map _
  have hlv : D.vouchers.length ≤ 50 := by have := hG.vou; omega
  have lvd : (vdV D.vouchers).length = D.vouchers.length := List.length_map _
  have no1 : ¬ ((0 ≤ n ∧ n ≤ 999999999) ∧ (1 ≤ v ∧ v ≤ 1000000)) → ∀ p H1, H p = none → H1 p = some (.lst [.int (-1)]) → Same H H1 → (∀ b, b ≠ p → H1 b = H b) → Q (.ref p) H1 := fun z p H1 hp e1 s1 k1 => by
   refine q D H1 p ((Ans.no (n := 1) hW hp e1 s1 k1).mk' ((step_voucher _ _ _).trans (if_pos ?_)))
   by_cases y : 0 ≤ n ∧ n ≤ 999999999
   ·exact .inr (inside_no fun w => z ⟨y, w⟩)
   ·exact .inl (inside_no y)
  walk_at "p"
  refine ite_out (fun no => ?_) (fun h1 h2 => ?_)
  ·refine iteT ?_
   walk_at "p"
   exact nl (no1 fun z => no z.1)
  ·walk_at "p"
   refine ite_out (fun no => ?_) (fun h3 h4 => ?_)
   ·walk_at "p"
    exact nl (no1 fun z => no z.2)
   ·have e0 := (step_voucher D.st n v).trans (if_neg (by rw [inside_iff, inside_iff]; omega))
    obtain ⟨m, rfl⟩ : ∃ m : Nat, n = (m : Int) := ⟨n.toNat, by omega⟩
    obtain ⟨u, rfl⟩ : ∃ u : Nat, v = (u : Int) := ⟨v.toNat, by omega⟩
    rw [any_find, Int.toNat_natCast, Int.toNat_natCast] at e0
    walk_at "p"
    refine T.rWorld hw ?_
    refine rd_din hW.vdo ?_
    rw [val_vd]
    walk_at "p"
    cases hf : D.vouchers.find? fun p => p.2.number == m with
    | some p0 =>
     rw [hf] at e0
     refine iteT ?_
     walk_at "p"
     refine nl (fun p H1 hp e1 s1 k1 => q D H1 p ?_)
     exact (Ans.no hW hp e1 s1 k1).mk' (e0.trans (if_pos rfl))
    | none =>
     rw [hf] at e0
     have e1 := e0.trans (if_neg (by simp))
     refine iteF ?_
     walk_at "p"
     refine T.rWorld hw ?_
     walk_at "p"
     refine ⟨D.vd, _, rfl, hW.vdo, ?_⟩
     rw [lvd]
     walk_at "p"
     refine ite_d (fun n8 => ?_) (fun n8 => ?_)
     ·walk_at "p"
      refine nl (fun p H1 hp e2 s1 k1 => q D H1 p ?_)
      exact (Ans.no hW hp e2 s1 k1).mk' (e1.trans (if_pos (by rw [lv]; unfold Vbpoac.VOUCHERS; omega)))
     ·have e2 := e1.trans (if_neg (by rw [lv]; unfold Vbpoac.VOUCHERS; omega))
      walk_at "p"
      intro x dx nx nd ne
      refine ⟨x, dx, m, u, rfl, upd_same, fun H1 a1 k1 => ⟨rfl, ?_⟩⟩
      have s1 : Same H H1 := made_same nx nd k1
      walk_at "p"
      refine T.rWorld (s1 _ _ hw) ?_
      walk_at "p"
      refine rd_dput (s1 _ _ hW.vdo) (by rw [lvd]; exact Nat.lt_of_le_of_lt hlv (by decide)) (fun H2 h2' k2 => ?_)
      rw [putK_new _ (by rw [val_vd, hf]; rfl)] at h2'
      have nvd : x ≠ D.vd := fun z => by have := hW.vdo; rw [← z, nx] at this; cases this
      obtain ⟨w2, f2⟩ := hW.newVoucher (H' := H2) ⟨m, u, false⟩ nx h2' (a1.keep fun o ho => (k2 _ nvd).trans ho) fun b o hb hn => by rw [k2 b hn]; exact s1 b o hb
      obtain ⟨dw2, hw2⟩ := w2.wo
      walk_at "p"
      refine T.rWorld hw2 ?_
      walk_at "p"
      refine ⟨D.vd, _, rfl, w2.vdo, ?_⟩
      walk_at "p"
      refine ⟨m, rfl, by omega, fun l3 H3 n3 e3 s3 => ?_⟩
      rw [bytesV] at e3
      walk_at "p"
      refine nl (fun l4 H4 n4 e4 s4 _ => ?_)
      walk_at "p"
      have hlen : (Vbpoac.bytes (Vbpoac.voucherText m)).length = 11 := by rw [bytes_eq, List.length_map, vou_eq m (by omega), List.length_cons, List.length_append, padL_len (by omega)]; rfl
      refine ⟨_, l4, [(l3, Vbpoac.bytes (Vbpoac.voucherText m))], rfl, e4, fun r hr' => ?_, ?_, fun p H5 hp e5 s5 => ?_⟩
      ·simp only [List.mem_singleton] at hr'
       subst hr'
       exact s4 _ _ e3
      ·unfold rowsI
       simp only [List.flatMap_cons, List.flatMap_nil, List.append_nil, List.length_cons, hlen]
       decide
      ·have s34 := s3.trans s4
       have el : (vdV (D.vouchers ++ [(x, (⟨m, u, false⟩ : Vbpoac.Voucher))])).length = D.vouchers.length + 1 := by unfold vdV; rw [List.length_map, List.length_append]; rfl
       refine q _ H5 p ((Ans.rows (n := D.vouchers.length + 1) (H1 := H4) (w2.same s34) (f2.trans (Fr.same s34)) rfl hp (by rw [e5, el]) s5 rfl).mk' (e2.trans ?_))
       rw [lv]
       congr 1
       simp [DS.st]
theorem step_redeem (S : Vbpoac.State) (a : Int) (b : Vbpoac.Bytes) : Vbpoac.step S (.redeem a b) = Vbpoac.onAccount S a fun n => match Vbpoac.readVoucher b with
 | none => Vbpoac.no S 2
 | some v => match S.vouchers.find? fun x => x.number == v with
  | none => Vbpoac.no S 4
  | some x =>
   if x.used = true then Vbpoac.no S 5
   else if (Vbpoac.GREAT : Int) < Vbpoac.balance S n + (x.value : Int) then Vbpoac.no S 8
   else Vbpoac.yes (Vbpoac.wrote { S with vouchers := S.vouchers.map fun y => if y.number = v then { y with used := true } else y } n 2 x.value v) x.value [] := rfl
theorem use_set : ∀ {l : List Vbpoac.Voucher} {i v : Nat} {x : Vbpoac.Voucher}, (l.map (·.number)).Nodup → l[i]? = some x → x.number = v → (l.map fun y => if y.number = v then { y with used := true } else y) = l.set i { x with used := true }
 | [], i, v, x, _, h, _ => by simp at h
 | a :: r, 0, v, x, hn, h, hv => by
  have e : a = x := Option.some.inj h
  subst e
  have hn' := (List.nodup_cons.mp hn).1
  show (if a.number = v then { a with used := true } else a) :: r.map _ = { a with used := true } :: r
  rw [if_pos hv]
  congr 1
  rw [List.map_congr_left (g := id)]
  ·exact List.map_id r
  ·intro y hy
   have : ¬ y.number = v := fun z => hn' (List.mem_map.mpr ⟨y, hy, z.trans hv.symm⟩)
   rw [if_neg this]; rfl
 | a :: r, i + 1, v, x, hn, h, hv => by
  have hn' := List.nodup_cons.mp hn
  have ih := use_set (l := r) (i := i) (v := v) (x := x) hn'.2 h hv
  have ha : ¬ a.number = v := fun z => hn'.1 (List.mem_map.mpr ⟨x, List.mem_of_getElem? h, hv.trans z.symm⟩)
  show (if a.number = v then { a with used := true } else a) :: r.map _ = a :: r.set i _
  rw [if_neg ha, ih]
noncomputable def spx2h (A : Adr) : Sp := fun vs H Q _ => ∃ (c : Nat) (D : DS) (a : Int) (l : Addr) (b : Vbpoac.Bytes), vs = [.ref D.w, .int a, .ref l] ∧ H l = some (.lst (intsV (natsB b))) ∧ b.length ≤ 1000 ∧ Goes A H Q c D (.redeem a b)
theorem cx2h (P : Program) (w : World) (base : Heap) (T : Txt K mg A) : Cal P w K mg base 5 "redeem" ["world", "account", "text"] (spx2h A) := by
 have Mx23 := cx23 P w base T
 have Mx26 := cx26 P w base T
 have Mx25 := cx25 P w base T
 have Cx1e := cx1e P w base T
 obtain ⟨f, fd, F, hm, b⟩ := T.fx2h
 refine ⟨f, fd, F.ok (k := 4) scx2h (fun vs H Q E h => ?_) (fun cdv A' outer s H vs Q E hr h => ?_), hm, F.kp, b⟩
 ·obtain ⟨_, _, _, _, _, rfl, _⟩ := h
  rfl
 ·obtain ⟨c, D, a, l, bb, rfl, h⟩ := h
  refine ⟨_, (pss_cons (pst 3 scx2h.nd (pmt (pv 0) T.clx1y Mx23 hr (pa_cons (pv 1) pa_nil)))
   (pss_cons (ps_if (pt_cmpR op_lt (pv 3) pe_int (nomark _)) (pss_one (ps_ret (pe_lst (pa_cons (pv 3) pa_nil)))) pss_nil)
   (pss_cons (pst 4 scx2h.nd (pcl Cx1e hr rfl (pa_cons (pv 2) pa_nil)))
   (pss_cons (ps_if (pt_cmp (pc_isN (pv 4))) (pss_one (ps_ret (pe_lst (pa_cons (pgi T.gxe) pa_nil)))) pss_nil)
   (pss_cons (pst 5 scx2h.nd (pe_dget1 (hu_of hr) (pfl (pv 0)) (pv 4) ⟨rfl, rfl, rfl, rfl⟩))
   (pss_cons (ps_if (pt_cmp (pc_isN (pv 5))) (pss_one (ps_ret (pe_lst (pa_cons (pgi T.gxg) pa_nil)))) pss_nil)
   (pss_cons (ps_if (ptt (pfl (pv 5))) (pss_one (ps_ret (pe_lst (pa_cons (pgi T.gxh) pa_nil)))) pss_nil)
   (pss_cons (ps_if (ptt (pmt (pv 0) T.clx1y Mx25 hr (pa_cons (pv 1) (pa_cons (pfl (pv 5)) pa_nil)))) (pss_one (ps_ret (pe_lst (pa_cons (pgi T.gxk) pa_nil)))) pss_nil)
   (pss_cons (psf (pv 5) pe_bl)
   (pss_cons (ps_expr (pmt (pv 0) T.clx1y Mx26 hr (pa_cons (pv 1) (pa_cons (pgi T.gx1) (pa_cons (pfl (pv 5)) (pa_cons (pv 4) pa_nil))))))
   (pss_one (ps_ret (pe_lst (pa_cons (pfl (pv 5)) pa_nil)))))))))))))), ?_⟩
  obtain ⟨hl, hbl, hW, hG, hc, q⟩ := h
  obtain ⟨dw, hw⟩ := hW.wo
  have hz := jlen hG hc
  have e0 := step_redeem D.st a bb
  walk_at "p"
  refine rd_met hw rfl ?_
  walk_at "p"
  refine ⟨D, a, rfl, hW, ?_⟩
  walk_at "p"
  rcases accRef_cases D a with ⟨er, es⟩ | ⟨er, es⟩ | ⟨er, ha, es⟩
  ·refine ite_d (fun _ => ?_) (fun z => absurd (show accRef D a < 0 by omega) z)
   walk_at "p"
   refine nl (fun p H1 hp e1 s1 k1 => q D H1 p ?_)
   rw [er] at e1
   exact (Ans.no hW hp e1 s1 k1).mk' (e0.trans (es _))
  ·refine ite_d (fun _ => ?_) (fun z => absurd (show accRef D a < 0 by omega) z)
   walk_at "p"
   refine nl (fun p H1 hp e1 s1 k1 => q D H1 p ?_)
   rw [er] at e1
   exact (Ans.no hW hp e1 s1 k1).mk' (e0.trans (es _))
  ·refine ite_d (fun z => absurd z (show ¬ accRef D a < 0 by omega)) (fun _ => ?_)
   have e1 := e0.trans (es _)
   rw [readV_eq] at e1
   walk_at "p"
   refine ⟨l, natsB bb, rfl, hl, by rw [natsB_len]; omega, fun H1 s1 => ?_⟩
   have hW1 := hW.same s1
   have no_ : ∀ {p : Addr} {H2 : Hp} {k : Nat}, Vbpoac.step D.st (.redeem a bb) = Vbpoac.no D.st k → H1 p = none → H2 p = some (.lst [.int (-(k : Int))]) → Same H1 H2 → (∀ b, b ≠ p → H2 b = H1 b) → Q (.ref p) H2 := fun {p H2 k} es hp e2 s2 k2 => by
    have x := Ans.no hW1 hp e2 s2 k2
    exact q D H2 p ((Ans.mk (D' := D) x.st rfl x.at_ ((Fr.same s1).trans x.fr) x.ls (s1.free hp) x.out).mk' es)
   walk_at "p"
   cases hr' : readN (natsB bb) with
   | none =>
    rw [hr'] at e1
    refine ite_d (fun _ => ?_) (fun z => absurd rfl z)
    walk_at "p"
    exact nl (fun p H2 hp e2 s2 k2 => no_ (k := 2) e1 hp e2 s2 k2)
   | some n =>
    rw [hr'] at e1
    refine ite_d (fun z => by cases z) (fun _ => ?_)
    obtain ⟨dw1, hw1⟩ := hW1.wo
    walk_at "p"
    refine T.rWorld hw1 ?_
    refine rd_get1 (i := (n : Int)) hW1.vdo rfl ?_
    rw [val_vd]
    have e2 : Vbpoac.step D.st (.redeem a bb) = _ := e1
    simp only [find_st] at e2
    walk_at "p"
    cases hf : D.vouchers.find? fun p => p.2.number == n with
    | none =>
     rw [hf] at e2
     refine ite_d (fun _ => ?_) (fun z => absurd rfl z)
     walk_at "p"
     exact nl (fun p H2 hp e3 s2 k2 => no_ (k := 4) e2 hp e3 s2 k2)
    | some x =>
     rw [hf] at e2
     have hnum : x.2.number = n := by have := List.find?_some hf; simpa using this
     obtain ⟨i, hi⟩ := List.getElem?_of_mem (List.mem_of_find?_eq_some hf)
     obtain ⟨dv, hv⟩ := hW1.vo hi
     refine ite_d (fun z => by cases z) (fun _ => ?_)
     walk_at "p"
     refine T.rVoucher hv ?_
     walk_at "p"
     refine ite_b (fun hu => ?_) (fun hu => ?_)
     ·walk_at "p"
      exact nl (fun p H2 hp e3 s2 k2 => no_ (k := 5) (e2.trans (if_pos hu)) hp e3 s2 k2)
     ·have e3 := e2.trans (if_neg (by rw [hu]; exact Bool.false_ne_true))
      walk_at "p"
      refine rd_met hw1 rfl ?_
      walk_at "p"
      refine T.rVoucher hv ?_
      walk_at "p"
      refine ⟨D, a, (x.2.value : Int), rfl, hW1, hz, fun H1b s1b => ?_⟩
      replace s1 := s1.trans s1b
      replace hW1 := hW.same s1
      replace hv := s1b _ _ hv
      clear no_ hw1
      obtain ⟨dw1, hw1⟩ := hW1.wo
      have no_ : ∀ {p : Addr} {H2 : Hp} {k : Nat}, Vbpoac.step D.st (.redeem a bb) = Vbpoac.no D.st k → H1b p = none → H2 p = some (.lst [.int (-(k : Int))]) → Same H1b H2 → (∀ b, b ≠ p → H2 b = H1b b) → Q (.ref p) H2 := fun {p H2 k} es hp e2 s2 k2 =>
       q D H2 p ((Ans.since s1 (Ans.no hW1 hp e2 s2 k2)).mk' es)
      rw [← bal_eq' D ha]
      walk_at "p"
      refine ite_d (fun n8 => ?_) (fun n8 => ?_)
      ·walk_at "p"
       exact nl (fun p H2 hp e4 s2 k2 => no_ (k := 8) (e3.trans (if_pos n8)) hp e4 s2 k2)
      ·have e4 := e3.trans (if_neg n8)
       walk_at "p"
       refine wr_fl hv T.clx1w (T.nx1w _ (by decide +kernel)) (by show 2 < 1000; decide) (fun H2 h2 k2 => ?_)
       obtain ⟨w2, f2⟩ := hW1.useVoucher (H' := H2) hi ⟨dv, h2⟩ fun b u hb hn => by rw [k2 b hn]; exact hb
       obtain ⟨dw2, hw2⟩ := w2.wo
       walk_at "p"
       refine rd_met hw2 rfl ?_
       walk_at "p"
       refine T.rVoucher h2 ?_
       walk_at "p"
       have ea : V.int a = V.int (a.toNat : Int) := by congr 1; omega
       refine ⟨_, a.toNat, 2, x.2.value, n, by rw [ea]; rfl, w2, hz, fun p3 H3 w3 f3 => ?_⟩
       have hi3 : (D.vouchers.set i (x.1, { x.2 with used := true }))[i]? = some (x.1, { x.2 with used := true }) := List.getElem?_set_self (List.getElem?_eq_some_iff.mp hi).1
       obtain ⟨dv3, hv3⟩ := w3.vo (show _ = some (x.1, { x.2 with used := true }) from hi3)
       walk_at "p"
       refine T.rVoucher hv3 ?_
       walk_at "p"
       refine nl (fun p H4 hp e5 s4 k4 => ?_)
       refine q _ H4 p ((Ans.num (n := x.2.value) w3 (((Fr.same s1).trans f2).trans f3) rfl hp e5 s4).mk' (e4.trans ?_))
       have hst : (D.st.vouchers.map fun y => if y.number = n then { y with used := true } else y) = (D.vouchers.set i (x.1, { x.2 with used := true })).map (·.2) := by
        rw [use_set hG.nums (show D.st.vouchers[i]? = some x.2 by show (D.vouchers.map (·.2))[i]? = _; rw [List.getElem?_map, hi]; rfl) hnum, List.map_set]
        rfl
       congr 1
       unfold Vbpoac.wrote
       simp only [hst]
       simp [DS.st]
end
end
section
variable {P : Program} {w : World} {K : PySem.W.Frag} {mg : Str → Option Value} {base : Heap} {A : Adr}
structure New (A : Adr) (H : Hp) (w : Addr) (D' : DS) (H' : Hp) : Prop where
 st : D'.st = Vbpoac.start
 w_ : D'.w = w
 at_ : WAt A H' D'
 keep : ∀ b u, H b = some u → b ≠ w → H' b = some u
 foot : ∀ b, Foot A D' b → b = w ∨ H b = none
theorem foot_w {A : Adr} {D : DS} : Foot A D D.w := ⟨.w, _, rfl⟩
theorem New.fr {A : Adr} {D D' : DS} {H H' : Hp} (n : New A H D.w D' H') : Fr A D H D' H' := by
 refine ⟨fun b o e z => n.keep b o e fun y => z (y ▸ foot_w), fun b f => (n.foot b f).elim (fun y => .inl (y ▸ foot_w)) .inr, fun b e => ?_⟩
 cases q : H b with
 | none => rfl
 | some u =>
  by_cases y : b = D.w
  ·obtain ⟨dx, hw⟩ := n.at_.wo
   rw [n.w_, ← y, e] at hw; cases hw
  ·rw [n.keep b u q y] at e; cases e
noncomputable def spx20 (A : Adr) : Sp := fun vs H Q _ => ∃ (w dx : Addr) (fs : List (Str × V)), vs = [.ref w] ∧ H w = some (.ins A.W dx fs) ∧ (fs = [] ∨ ∃ d a ml vd j al gl sd bd, fs = fW d a ml vd j al gl sd bd) ∧ ∀ D' H', New A H w D' H' → Q .non H'
theorem cx20 (P : Program) (w : World) (base : Heap) (T : Txt K mg A) : Met P w K mg base 3 A.W "begin" ["self"] (spx20 A) := by
 have Mx7 := cx8 P w base T
 obtain ⟨f, fd, F, hm, hf, b⟩ := T.fx20
 refine ⟨f, fd, ⟨hm, hf, F.kp⟩, F.ok (k := 2) scx20 (fun vs H Q E h => ?_) (fun cdv A' outer s H vs Q E hr h => ?_), b⟩
 ·obtain ⟨_, _, _, rfl, _⟩ := h
  rfl
 ·obtain ⟨w', dx, fs, rfl, h⟩ := h
  refine ⟨_, (pss_cons (psf (pv 0) pe_int)
   (pss_cons (psf (pv 0) pe_int)
   (pss_cons (psf (pv 0) (pe_lst pa_nil))
   (pss_cons (psf (pv 0) pe_dnewK)
   (pss_cons (psf (pv 0) (pmk0 Mx7 hr rfl))
   (pss_cons (psf (pv 0) (pe_lst pa_nil))
   (pss_cons (psf (pv 0) (pe_lst pa_nil))
   (pss_cons (psf (pv 0) pe_dnewT)
   (pss_one (psf (pv 0) pe_dnewT)))))))))), ?_⟩
  obtain ⟨hw, hfs, q⟩ := h
  have hput : ∀ (ml vd j al gl sd bd : Addr), putF "given_back" (.ref bd) (putF "seen" (.ref sd) (putF "grants" (.ref gl) (putF "asks" (.ref al) (putF "journal" (.ref j) (putF "vouchers" (.ref vd) (putF "meters" (.ref ml) (putF "accounts" (.int 0) (putF "day" (.int 0) fs)))))))) = fW 0 0 ml vd j al gl sd bd := fun ml vd j al gl sd bd => by
   rcases hfs with rfl | ⟨_, _, _, _, _, _, _, _, _, rfl⟩ <;> rfl
  have hlen : ∀ (f : Str) (v : V) (l : List (Str × V)), (putF f v l).length ≤ l.length + 1 := length_putF
  have h7 : fs.length ≤ 9 := by
   rcases hfs with rfl | ⟨_, _, _, _, _, _, _, _, _, rfl⟩
   ·exact Nat.zero_le _
   ·exact Nat.le_refl 9
  walk_at "p"
  refine wr_fl hw T.clx1y (T.nx1y _ (by decide +kernel)) (by omega) (fun H1 h1 k1 => ?_)
  have l1 := hlen "day" (.int 0) fs
  walk_at "p"
  refine wr_fl h1 T.clx1y (T.nx1y _ (by decide +kernel)) (by omega) (fun H2 h2 k2 => ?_)
  have l2 := hlen "accounts" (.int 0) (putF "day" (.int 0) fs)
  walk_at "p"
  refine nl (fun ml H3 n3 e3 s3 _ => ?_)
  walk_at "p"
  refine wr_fl (s3 _ _ h2) T.clx1y (T.nx1y _ (by decide +kernel)) (by omega) (fun H4 h4 k4 => ?_)
  have l4 := hlen "meters" (.ref ml) (putF "accounts" (.int 0) (putF "day" (.int 0) fs))
  walk_at "p"
  refine new_dct (fun vd H5 n5 e5 s5 _ => ?_)
  walk_at "p"
  refine wr_fl (s5 _ _ h4) T.clx1y (T.nx1y _ (by decide +kernel)) (by omega) (fun H6 h6 k6 => ?_)
  have l6 := hlen "vouchers" (.ref vd) (putF "meters" (.ref ml) (putF "accounts" (.int 0) (putF "day" (.int 0) fs)))
  walk_at "p"
  intro j dj nj nd ne
  refine ⟨j, dj, rfl, upd_same, fun el H7 nel e7 a7 k7 => ⟨rfl, ?_⟩⟩
  have s7 : Same H6 H7 := Same.made nj nd k7
  walk_at "p"
  refine wr_fl (s7 _ _ h6) T.clx1y (T.nx1y _ (by decide +kernel)) (by omega) (fun H8 h8 k8 => ?_)
  have l8 := hlen "journal" (.ref j) (putF "vouchers" (.ref vd) (putF "meters" (.ref ml) (putF "accounts" (.int 0) (putF "day" (.int 0) fs))))
  walk_at "p"
  refine nl (fun al H9 n9 e9 s9 _ => ?_)
  walk_at "p"
  refine wr_fl (s9 _ _ h8) T.clx1y (T.nx1y _ (by decide +kernel)) (by omega) (fun H10 h10 k10 => ?_)
  have l10 := hlen "asks" (.ref al) (putF "journal" (.ref j) (putF "vouchers" (.ref vd) (putF "meters" (.ref ml) (putF "accounts" (.int 0) (putF "day" (.int 0) fs)))))
  walk_at "p"
  refine nl (fun gl H11 n11 e11 s11 _ => ?_)
  walk_at "p"
  refine wr_fl (s11 _ _ h10) T.clx1y (T.nx1y _ (by decide +kernel)) (by omega) (fun H12 h12 k12 => ?_)
  have l12 := hlen "grants" (.ref gl) (putF "asks" (.ref al) (putF "journal" (.ref j) (putF "vouchers" (.ref vd) (putF "meters" (.ref ml) (putF "accounts" (.int 0) (putF "day" (.int 0) fs))))))
  walk_at "p"
  refine new_dctT (fun sd H13 n13 e13 s13 _ => ?_)
  walk_at "p"
  refine wr_fl (s13 _ _ h12) T.clx1y (T.nx1y _ (by decide +kernel)) (by omega) (fun H14 h14 k14 => ?_)
  have l14 := hlen "seen" (.ref sd) (putF "grants" (.ref gl) (putF "asks" (.ref al) (putF "journal" (.ref j) (putF "vouchers" (.ref vd) (putF "meters" (.ref ml) (putF "accounts" (.int 0) (putF "day" (.int 0) fs)))))))
  walk_at "p"
  refine new_dctT (fun bd H15 n15 e15 s15 _ => ?_)
  walk_at "p"
  refine wr_fl (s15 _ _ h14) T.clx1y (T.nx1y _ (by decide +kernel)) (by omega) (fun H16 h16 k16 => ?_)
  rw [hput] at h16
  have v2 : Live H H2 := (live_wr h1 k1).trans (live_wr h2 k2)
  have v4 : Live H H4 := (v2.trans (same_live s3)).trans (live_wr h4 k4)
  have v6 : Live H H6 := (v4.trans (same_live s5)).trans (live_wr h6 k6)
  have v8 : Live H H8 := (v6.trans (same_live s7)).trans (live_wr h8 k8)
  have v10 : Live H H10 := (v8.trans (same_live s9)).trans (live_wr h10 k10)
  have v12 : Live H H12 := (v10.trans (same_live s11)).trans (live_wr h12 k12)
  have v14 : Live H H14 := (v12.trans (same_live s13)).trans (live_wr h14 k14)
  have fel : H6 el = none := by
   by_cases y : el = j
   ·rw [y, upd_same] at nel; cases nel
   ·rw [upd_ne y] at nel
    by_cases y2 : el = dj
    ·rw [y2, upd_same] at nel; cases nel
    ·rw [upd_ne y2] at nel; exact nel
  have nw : ∀ {b : Addr}, H b = none → b ≠ w' := fun h z => by rw [z, hw] at h; cases h
  have to14 : ∀ b u, b ≠ w' → H14 b = some u → H16 b = some u := fun b u n e => (k16 b n).trans (s15 _ _ e)
  have to12 : ∀ b u, b ≠ w' → H12 b = some u → H16 b = some u := fun b u n e => to14 b u n ((k14 b n).trans (s13 _ _ e))
  have to10 : ∀ b u, b ≠ w' → H10 b = some u → H16 b = some u := fun b u n e => to12 b u n ((k12 b n).trans (s11 _ _ e))
  have to8 : ∀ b u, b ≠ w' → H8 b = some u → H16 b = some u := fun b u n e => to10 b u n ((k10 b n).trans (s9 _ _ e))
  have to6 : ∀ b u, b ≠ w' → H6 b = some u → H16 b = some u := fun b u n e => to8 b u n ((k8 b n).trans (s7 _ _ e))
  have to4 : ∀ b u, b ≠ w' → H4 b = some u → H16 b = some u := fun b u n e => to6 b u n ((k6 b n).trans (s5 _ _ e))
  have to2 : ∀ b u, b ≠ w' → H2 b = some u → H16 b = some u := fun b u n e => to4 b u n ((k4 b n).trans (s3 _ _ e))
  have m15 : H16 bd = some (.dT []) := (k16 _ (nw (v14 _ n15))).trans e15
  have m13 : H14 sd = some (.dT []) := (k14 _ (nw (v12 _ n13))).trans e13
  have g13 : H16 sd = some (.dT []) := to14 _ _ (nw (v12 _ n13)) m13
  have m11 : H12 gl = some (.lst []) := (k12 _ (nw (v10 _ n11))).trans e11
  have g11 : H16 gl = some (.lst []) := to12 _ _ (nw (v10 _ n11)) m11
  have g9 : H16 al = some (.lst []) := to10 _ _ (nw (v8 _ n9)) ((k10 _ (nw (v8 _ n9))).trans e9)
  have g7 : H16 el = some (.lst []) := to8 _ _ (nw (v6 _ fel)) ((k8 _ (nw (v6 _ fel))).trans e7)
  obtain ⟨djj, gj7⟩ := a7
  have gj : H16 j = some (.ins A.J djj (fJ el)) := to8 _ _ (nw (v6 _ nj)) ((k8 _ (nw (v6 _ nj))).trans gj7)
  have g5 : H16 vd = some (.dK []) := to6 _ _ (nw (v4 _ n5)) ((k6 _ (nw (v4 _ n5))).trans e5)
  have g3 : H16 ml = some (.lst []) := to4 _ _ (nw (v2 _ n3)) ((k4 _ (nw (v2 _ n3))).trans e3)
  have m3 : H4 ml = some (.lst []) := (k4 _ (nw (v2 _ n3))).trans e3
  have m36 : H6 ml = some (.lst []) := (k6 _ (nw (v2 _ n3))).trans (s5 _ _ m3)
  have m38 : H8 ml = some (.lst []) := (k8 _ (nw (v2 _ n3))).trans (s7 _ _ m36)
  have m310 : H10 ml = some (.lst []) := (k10 _ (nw (v2 _ n3))).trans (s9 _ _ m38)
  have m78 : H8 el = some (.lst []) := (k8 _ (nw (v6 _ fel))).trans e7
  have m710 : H10 el = some (.lst []) := (k10 _ (nw (v6 _ fel))).trans (s9 _ _ m78)
  have m910 : H10 al = some (.lst []) := (k10 _ (nw (v8 _ n9))).trans e9
  have d1 : ml ≠ el := ne_of_none m36 fel
  have d2 : ml ≠ al := ne_of_none m38 n9
  have d3 : ml ≠ gl := ne_of_none m310 n11
  have d4 : el ≠ al := ne_of_none m78 n9
  have d5 : el ≠ gl := ne_of_none m710 n11
  have d6 : al ≠ gl := ne_of_none m910 n11
  refine q ⟨w', j, ml, el, vd, al, gl, sd, bd, 0, 0, [], [], [], [], [], [], []⟩ H16 ⟨rfl, rfl, ⟨fun r p e => ?_, fun r r' p p' e e' z => ?_⟩, fun b u hb hn => to2 b u hn (by rw [k2 b hn, k1 b hn]; exact hb), fun b f => ?_⟩
  ·cases r <;> first | (cases e; exact ⟨_, h16⟩) | (cases e; exact ⟨_, gj⟩) | (cases e; exact g3) | (cases e; exact g7) | (cases e; exact g5) | (cases e; exact g9) | (cases e; exact g11) | (cases e; exact g13) | (cases e; exact m15) | (exfalso; simp [DS.at_] at e)
  ·have at7 : ∀ r p, DS.at_ A ⟨w', j, ml, el, vd, al, gl, sd, bd, 0, 0, [], [], [], [], [], [], []⟩ r = some p → (r = .w ∧ p.1 = w') ∨ (r = .j ∧ p.1 = j) ∨ (r = .ml ∧ p.1 = ml) ∨ (r = .el ∧ p.1 = el) ∨ (r = .vd ∧ p.1 = vd) ∨ (r = .al ∧ p.1 = al) ∨ (r = .gl ∧ p.1 = gl) ∨ (r = .sd ∧ p.1 = sd) ∨ (r = .bd ∧ p.1 = bd) := fun r p e => by
    cases r <;> first | (cases e; simp) | (exfalso; simp [DS.at_] at e)
   have q_w_j : w' ≠ j := fun y => nw (v6 _ nj) y.symm
   have q_w_ml : w' ≠ ml := fun y => nw (v2 _ n3) y.symm
   have q_w_el : w' ≠ el := fun y => nw (v6 _ fel) y.symm
   have q_w_vd : w' ≠ vd := fun y => nw (v4 _ n5) y.symm
   have q_w_al : w' ≠ al := fun y => nw (v8 _ n9) y.symm
   have q_w_gl : w' ≠ gl := fun y => nw (v10 _ n11) y.symm
   have q_w_sd : w' ≠ sd := fun y => nw (v12 _ n13) y.symm
   have q_w_bd : w' ≠ bd := fun y => nw (v14 _ n15) y.symm
   have q_j_ml : j ≠ ml := ne_of gj g3 (by intro y; cases y)
   have q_j_el : j ≠ el := ne_of gj g7 (by intro y; cases y)
   have q_j_vd : j ≠ vd := ne_of gj g5 (by intro y; cases y)
   have q_j_al : j ≠ al := ne_of gj g9 (by intro y; cases y)
   have q_j_gl : j ≠ gl := ne_of gj g11 (by intro y; cases y)
   have q_j_sd : j ≠ sd := ne_of gj g13 (by intro y; cases y)
   have q_j_bd : j ≠ bd := ne_of gj m15 (by intro y; cases y)
   have q_ml_vd : ml ≠ vd := ne_of g3 g5 (by intro y; cases y)
   have q_ml_sd : ml ≠ sd := ne_of g3 g13 (by intro y; cases y)
   have q_ml_bd : ml ≠ bd := ne_of g3 m15 (by intro y; cases y)
   have q_el_vd : el ≠ vd := ne_of g7 g5 (by intro y; cases y)
   have q_el_sd : el ≠ sd := ne_of g7 g13 (by intro y; cases y)
   have q_el_bd : el ≠ bd := ne_of g7 m15 (by intro y; cases y)
   have q_vd_al : vd ≠ al := ne_of g5 g9 (by intro y; cases y)
   have q_vd_gl : vd ≠ gl := ne_of g5 g11 (by intro y; cases y)
   have q_vd_sd : vd ≠ sd := ne_of g5 g13 (by intro y; cases y)
   have q_vd_bd : vd ≠ bd := ne_of g5 m15 (by intro y; cases y)
   have q_al_sd : al ≠ sd := ne_of g9 g13 (by intro y; cases y)
   have q_al_bd : al ≠ bd := ne_of g9 m15 (by intro y; cases y)
   have q_gl_sd : gl ≠ sd := ne_of g11 g13 (by intro y; cases y)
   have q_gl_bd : gl ≠ bd := ne_of g11 m15 (by intro y; cases y)
   have q_sd_bd : sd ≠ bd := ne_of_none m13 n15
   rcases at7 r p e with ⟨rfl, a⟩ | ⟨rfl, a⟩ | ⟨rfl, a⟩ | ⟨rfl, a⟩ | ⟨rfl, a⟩ | ⟨rfl, a⟩ | ⟨rfl, a⟩ | ⟨rfl, a⟩ | ⟨rfl, a⟩ <;> rcases at7 r' p' e' with ⟨rfl, a'⟩ | ⟨rfl, a'⟩ | ⟨rfl, a'⟩ | ⟨rfl, a'⟩ | ⟨rfl, a'⟩ | ⟨rfl, a'⟩ | ⟨rfl, a'⟩ | ⟨rfl, a'⟩ | ⟨rfl, a'⟩ <;> rw [a, a'] at z <;>
    first | rfl | exact absurd z q_w_j | exact absurd z q_w_ml | exact absurd z q_w_el | exact absurd z q_w_vd | exact absurd z q_w_al | exact absurd z q_w_gl | exact absurd z q_w_sd | exact absurd z q_w_bd | exact absurd z q_j_ml | exact absurd z q_j_el | exact absurd z q_j_vd | exact absurd z q_j_al | exact absurd z q_j_gl | exact absurd z q_j_sd | exact absurd z q_j_bd | exact absurd z d1 | exact absurd z q_ml_vd | exact absurd z d2 | exact absurd z d3 | exact absurd z q_ml_sd | exact absurd z q_ml_bd | exact absurd z q_el_vd | exact absurd z d4 | exact absurd z d5 | exact absurd z q_el_sd | exact absurd z q_el_bd | exact absurd z q_vd_al | exact absurd z q_vd_gl | exact absurd z q_vd_sd | exact absurd z q_vd_bd | exact absurd z d6 | exact absurd z q_al_sd | exact absurd z q_al_bd | exact absurd z q_gl_sd | exact absurd z q_gl_bd | exact absurd z q_sd_bd |
     exact absurd z.symm q_w_j | exact absurd z.symm q_w_ml | exact absurd z.symm q_w_el | exact absurd z.symm q_w_vd | exact absurd z.symm q_w_al | exact absurd z.symm q_w_gl | exact absurd z.symm q_w_sd | exact absurd z.symm q_w_bd | exact absurd z.symm q_j_ml | exact absurd z.symm q_j_el | exact absurd z.symm q_j_vd | exact absurd z.symm q_j_al | exact absurd z.symm q_j_gl | exact absurd z.symm q_j_sd | exact absurd z.symm q_j_bd | exact absurd z.symm d1 | exact absurd z.symm q_ml_vd | exact absurd z.symm d2 | exact absurd z.symm d3 | exact absurd z.symm q_ml_sd | exact absurd z.symm q_ml_bd | exact absurd z.symm q_el_vd | exact absurd z.symm d4 | exact absurd z.symm d5 | exact absurd z.symm q_el_sd | exact absurd z.symm q_el_bd | exact absurd z.symm q_vd_al | exact absurd z.symm q_vd_gl | exact absurd z.symm q_vd_sd | exact absurd z.symm q_vd_bd | exact absurd z.symm d6 | exact absurd z.symm q_al_sd | exact absurd z.symm q_al_bd | exact absurd z.symm q_gl_sd | exact absurd z.symm q_gl_bd | exact absurd z.symm q_sd_bd
  ·obtain ⟨r, o, e⟩ := f
   cases r <;> first | (cases e; exact .inl rfl) | (cases e; exact .inr (v6 _ nj)) | (cases e; exact .inr (v2 _ n3)) | (cases e; exact .inr (v6 _ fel)) | (cases e; exact .inr (v4 _ n5)) | (cases e; exact .inr (v8 _ n9)) | (cases e; exact .inr (v10 _ n11)) | (cases e; exact .inr (v12 _ n13)) | (cases e; exact .inr (v14 _ n15)) | (exfalso; simp [DS.at_] at e)
noncomputable def spx1z (A : Adr) : Sp := fun vs H Q _ => ∃ (w dx : Addr), vs = [.ref w] ∧ H w = some (.ins A.W dx []) ∧ ∀ D' H', New A H w D' H' → Q .non H'
theorem cx1z (P : Program) (w : World) (base : Heap) (T : Txt K mg A) : Mak P w K mg base 4 "World" A.W ["self"] (spx1z A) := by
 have Mx20 := cx20 P w base T
 obtain ⟨f, fd, F, hm, hf, b⟩ := T.fx1z
 refine ⟨f, fd, ⟨T.mkx1y, hm, hf, T.kcx1y⟩, F.ok (k := 3) scx1z (fun vs H Q E h => ?_) (fun cdv A' outer s H vs Q E hr h => ?_), T.mgx1y, b⟩
 ·obtain ⟨_, _, rfl, _⟩ := h
  rfl
 ·obtain ⟨w', dx, rfl, h⟩ := h
  refine ⟨_, (pss_one (ps_expr (pmt0 (pv 0) T.clx1y Mx20 hr))), ?_⟩
  obtain ⟨hw, q⟩ := h
  walk_at "p"
  refine rd_met hw rfl ?_
  walk_at "p"
  refine ⟨w', dx, [], rfl, hw, .inl rfl, fun D' H' n => ?_⟩
  walk_at "p"
  exact q D' H' n
end
section
variable {P : Program} {w : World} {K : PySem.W.Frag} {mg : Str → Option Value} {base : Heap} {A : Adr}
theorem step_double (S : Vbpoac.State) (d i : Int) : Vbpoac.step S (.double d i) = if Vbpoac.inside d 0 1 = false ∨ Vbpoac.inside i 1 16 = false then Vbpoac.no S 1
   else if (if d = 0 then S.asks.length else S.grants.length) < i.toNat then Vbpoac.no S 4
   else if Vbpoac.LINE ≤ (if d = 0 then S.asks.length else S.grants.length) then Vbpoac.no S 8
   else Vbpoac.yes (if d = 0 then { S with asks := S.asks ++ (S.asks.drop (i.toNat - 1)).take 1 } else { S with grants := S.grants ++ (S.grants.drop (i.toNat - 1)).take 1 }) 0 [] := rfl
theorem step_garble (S : Vbpoac.State) (d i n : Int) : Vbpoac.step S (.garble d i n) = if Vbpoac.inside d 0 1 = false ∨ Vbpoac.inside i 1 16 = false ∨ Vbpoac.inside n 1 99990 = false then Vbpoac.no S 1
   else if (if d = 0 then S.asks.length else S.grants.length) < i.toNat then Vbpoac.no S 4
   else Vbpoac.yes (if d = 0 then { S with asks := S.asks.zipIdx.map fun x => if x.2 + 1 = i.toNat then { x.1 with amount := (x.1.amount + n.toNat) % Vbpoac.PRIME } else x.1 }
    else { S with grants := S.grants.zipIdx.map fun x => if x.2 + 1 = i.toNat then { x.1 with amount := (x.1.amount + n.toNat) % Vbpoac.PRIME } else x.1 }) 0 [] := rfl
theorem ite_outl {lo hi i : Int} {P R : Prop} (h1 : ¬ (lo ≤ i ∧ i < hi) → P) (h2 : lo ≤ i → i < hi → R) : if (!(decide (lo ≤ i) && decide (i < hi))) = true then P else R := by
 by_cases h : lo ≤ i ∧ i < hi
 ·rw [decide_eq_true h.1, decide_eq_true h.2]
  exact iteF (h2 h.1 h.2)
 ·have e : (decide (lo ≤ i) && decide (i < hi)) = false := by
   cases q : (decide (lo ≤ i) && decide (i < hi)) with
   | false => rfl
   | true =>
    rw [Bool.and_eq_true] at q
    exact absurd ⟨of_decide_eq_true q.1, of_decide_eq_true q.2⟩ h
  rw [e]
  exact iteT (h1 h)
theorem zip_off {α : Type} (f : α → α) : ∀ (l : List α) (m c : Nat), c ≤ m → ((l.zipIdx m).map fun y => if y.2 + 1 = c then f y.1 else y.1) = l
 | [], _, _, _ => rfl
 | a :: l, m, c, h => by
  rw [List.zipIdx_cons, List.map_cons, zip_off f l (m + 1) c (by omega)]
  show (if m + 1 = c then f a else a) :: l = _
  rw [if_neg (by omega)]
theorem zip_set {α : Type} (f : α → α) : ∀ (l : List α) (m k : Nat) (x : α), l[k]? = some x → ((l.zipIdx m).map fun y => if y.2 + 1 = m + k + 1 then f y.1 else y.1) = l.set k (f x)
 | [], _, _, _, h => by simp at h
 | a :: l, m, 0, x, h => by
  have e : a = x := Option.some.inj h
  subst e
  rw [List.zipIdx_cons, List.map_cons, zip_off f l (m + 1) (m + 0 + 1) (by omega)]
  show (if m + 1 = m + 0 + 1 then f a else a) :: l = f a :: l
  rw [if_pos rfl]
 | a :: l, m, k + 1, x, h => by
  have ih := zip_set f l (m + 1) k x h
  rw [List.zipIdx_cons, List.map_cons]
  show (if m + 1 = m + (k + 1) + 1 then f a else a) :: _ = a :: l.set k (f x)
  rw [if_neg (by omega), ← ih]
  congr 1
  refine List.map_congr_left fun y _ => ?_
  rw [show m + (k + 1) + 1 = m + 1 + k + 1 by omega]
theorem line16 {c : Nat} {D : DS} (hG : Good c D.st) (d : Int) : lineN D d ≤ 16 := by
 have h1 := hG.asks
 have h2 := hG.grants
 have la : D.st.asks.length = D.asks.length := List.length_map _
 have lg : D.st.grants.length = D.grants.length := List.length_map _
 unfold lineN
 split <;> omega
theorem drop_take1 {α : Type} {l : List α} {k : Nat} {x : α} (h : l[k]? = some x) : (l.drop k).take 1 = [x] := by
 have hk := (List.getElem?_eq_some_iff.mp h).1
 have e := (List.getElem?_eq_some_iff.mp h).2
 rw [List.drop_eq_getElem_cons hk, e]; rfl
noncomputable abbrev spx44 (A : Adr) : Sp := spC2 A .double
theorem cx44 (P : Program) (w : World) (base : Heap) (T : Txt K mg A) : Cal P w K mg base 3 "double" ["world", "line", "place"] (spx44 A) := by
 have Cx41 := cx41 P w base T
 have Cx42 := cx42 P w base T
 obtain ⟨f, fd, F, hm, b⟩ := T.fx44
 refine ⟨f, fd, F.ok (k := 2) scx44 (fun vs H Q E h => ?_) (fun cdv A' outer s H vs Q E hr h => ?_), hm, F.kp, b⟩
 ·obtain ⟨_, _, _, _, rfl, _⟩ := h
  rfl
 ·obtain ⟨c, D, d, i, rfl, h⟩ := h
  refine ⟨_, (pss_cons (pst 3 scx44.nd (pcl Cx42 hr rfl (pa_cons (pv 0) (pa_cons (pv 1) (pa_cons (pv 2) pa_nil)))))
   (pss_cons (ps_if (pt_cmpR op_lt (pv 3) pe_int (nomark _)) (pss_one (ps_ret (pe_lst (pa_cons (pv 3) pa_nil)))) pss_nil)
   (pss_cons (pst 4 scx44.nd (pcl Cx41 hr rfl (pa_cons (pv 0) (pa_cons (pv 1) pa_nil))))
   (pss_cons (ps_if (pt_cmpR op_eq (pe_callB call_len_seq (by rfl) T.b_len (by decide +kernel) (pa_cons (pv 4) pa_nil)) (pgi T.gx3l) (nomark _)) (pss_one (ps_ret (pe_lst (pa_cons (pgi T.gxk) pa_nil)))) pss_nil)
   (pss_cons (ps_expr (pe_bm PySem.F.plainAttrs_list PySem.F.slot_list_append PySem.F.type_list_append mt_append (pv 4) (pa_cons (pe_callTy call_list_of (by rfl) T.b_list (by decide +kernel) (pa_cons (pe_ix ix_list (pv 4) (pe_op op_sub (pv 2) pe_int) (fun _ _ => rfl)) pa_nil)) pa_nil)))
   (pss_one (ps_ret (pe_lst (pa_cons pe_int pa_nil))))))))), ?_⟩
  obtain ⟨hW, hG, hc, q⟩ := h
  have el := lineN_st D d
  have hl16 := line16 hG d
  walk_at "p"
  refine ⟨D, d, i, rfl, hW, ?_⟩
  walk_at "p"
  rcases placeRef_cases D d i with ⟨er, hi⟩ | ⟨er, hd, hi, hn⟩ | ⟨er, hd, k, rfl, hk, hk16⟩
  ·refine ite_d (fun _ => ?_) (fun z => absurd (show placeRef D d i < 0 by omega) z)
   walk_at "p"
   refine nl (fun p H1 hp e1 s1 k1 => q D H1 p ?_)
   rw [er] at e1
   exact (Ans.no hW hp e1 s1 k1).mk' ((step_double _ _ _).trans (if_pos (by rw [inside_iff, inside_iff]; omega)))
  ·refine ite_d (fun _ => ?_) (fun z => absurd (show placeRef D d i < 0 by omega) z)
   walk_at "p"
   refine nl (fun p H1 hp e1 s1 k1 => q D H1 p ?_)
   rw [er] at e1
   refine (Ans.no hW hp e1 s1 k1).mk' ((step_double _ _ _).trans ?_)
   rw [if_neg (by rw [inside_iff, inside_iff]; omega), if_pos (by rw [el]; omega)]
  ·refine ite_d (fun z => absurd z (show ¬ placeRef D d _ < 0 by omega)) (fun _ => ?_)
   have e0 := (step_double D.st d ((k + 1 : Nat) : Int)).trans ((if_neg (by rw [inside_iff, inside_iff]; omega)).trans (if_neg (by rw [el]; omega)))
   rcases hd with rfl | rfl
   ·have hk : k < D.asks.length := hk
    have hl16 : D.asks.length ≤ 16 := hl16
    have el : D.st.asks.length = D.asks.length := List.length_map _
    obtain ⟨x, hx⟩ : ∃ x, D.asks[k]? = some x := ⟨_, List.getElem?_eq_getElem hk⟩
    have hl0 : H (lineA D 0) = _ := hW.alo
    walk_at "p"
    refine ⟨D, 0, rfl, hW, ?_⟩
    walk_at "p"
    refine ⟨lineA D 0, _, rfl, .inl (SqL.of hl0), ?_⟩
    rw [List.length_map]
    walk_at "p"
    refine ite_d (fun n8 => ?_) (fun n8 => ?_)
    ·walk_at "p"
     refine nl (fun p H1 hp e1 s1 k1 => q D H1 p ?_)
     refine (Ans.no hW hp e1 s1 k1).mk' (e0.trans (if_pos ?_))
     show Vbpoac.LINE ≤ D.st.asks.length
     rw [el]; unfold Vbpoac.LINE; omega
    ·have e1 := e0.trans (if_neg (show ¬ Vbpoac.LINE ≤ D.st.asks.length by rw [el]; unfold Vbpoac.LINE; omega))
     walk_at "p"
     refine rd_bmL hl0 ?_
     walk_at "p"
     refine ⟨lineA D 0, _, _, .ref x.1, rfl, rfl, SqL.of hl0, at_of (j := k) (by omega) (by rw [List.getElem?_map, hx]; rfl), ?_⟩
     walk_at "p"
     refine ⟨x.1, _, rfl, .inl (SqL.of (hW.ao hx)), fun l1 n1 => ?_⟩
     have g1 : (upd H l1 (.lst (askV x.2))) l1 = some (.lst (askV x.2)) := upd_same
     have s1 : Same H (upd H l1 (.lst (askV x.2))) := Same.upd n1
     generalize upd H l1 (.lst (askV x.2)) = H1 at g1 s1 ⊢
     walk_at "p"
     refine do_append (s1 _ _ hl0) (by rw [List.length_map]; exact Nat.lt_of_le_of_lt hl16 (by decide)) (fun H2 h2 k2 => ?_)
     have nl1 : l1 ≠ D.al := fun z => by rw [z, hW.alo] at n1; cases n1
     obtain ⟨w2, f2⟩ := hW.ask (H' := H2) x.2 n1 h2 ((k2 _ nl1).trans g1) fun b u hb hn => (k2 b hn).trans (s1 b u hb)
     walk_at "p"
     refine nl (fun p H3 hp e3 s3 k3 => q _ H3 p ((Ans.num (n := 0) w2 f2 rfl hp e3 s3).mk' (e1.trans ?_)))
     congr 1
     have hd1 : (D.st.asks.drop k).take 1 = [x.2] := drop_take1 (show (D.asks.map (·.2))[k]? = some x.2 by rw [List.getElem?_map, hx]; rfl)
     have ek : ((k + 1 : Nat) : Int).toNat - 1 = k := by omega
     show ({ D.st with asks := D.st.asks ++ (D.st.asks.drop (((k + 1 : Nat) : Int).toNat - 1)).take 1 } : Vbpoac.State) = _
     rw [ek, hd1]
     simp [DS.st]
   ·have hk : k < D.grants.length := hk
    have hl16 : D.grants.length ≤ 16 := hl16
    have el : D.st.grants.length = D.grants.length := List.length_map _
    obtain ⟨x, hx⟩ : ∃ x, D.grants[k]? = some x := ⟨_, List.getElem?_eq_getElem hk⟩
    have hl0 : H (lineA D 1) = _ := hW.glo
    walk_at "p"
    refine ⟨D, 1, rfl, hW, ?_⟩
    walk_at "p"
    refine ⟨lineA D 1, _, rfl, .inl (SqL.of hl0), ?_⟩
    rw [List.length_map]
    walk_at "p"
    refine ite_d (fun n8 => ?_) (fun n8 => ?_)
    ·walk_at "p"
     refine nl (fun p H1 hp e1 s1 k1 => q D H1 p ?_)
     refine (Ans.no hW hp e1 s1 k1).mk' (e0.trans (if_pos ?_))
     show Vbpoac.LINE ≤ D.st.grants.length
     rw [el]; unfold Vbpoac.LINE; omega
    ·have e1 := e0.trans (if_neg (show ¬ Vbpoac.LINE ≤ D.st.grants.length by rw [el]; unfold Vbpoac.LINE; omega))
     walk_at "p"
     refine rd_bmL hl0 ?_
     walk_at "p"
     refine ⟨lineA D 1, _, _, .ref x.1, rfl, rfl, SqL.of hl0, at_of (j := k) (by omega) (by rw [List.getElem?_map, hx]; rfl), ?_⟩
     walk_at "p"
     refine ⟨x.1, _, rfl, .inl (SqL.of (hW.go hx)), fun l1 n1 => ?_⟩
     have g1 : (upd H l1 (.lst (grantV x.2))) l1 = some (.lst (grantV x.2)) := upd_same
     have s1 : Same H (upd H l1 (.lst (grantV x.2))) := Same.upd n1
     generalize upd H l1 (.lst (grantV x.2)) = H1 at g1 s1 ⊢
     walk_at "p"
     refine do_append (s1 _ _ hl0) (by rw [List.length_map]; exact Nat.lt_of_le_of_lt hl16 (by decide)) (fun H2 h2 k2 => ?_)
     have nl1 : l1 ≠ D.gl := fun z => by rw [z, hW.glo] at n1; cases n1
     obtain ⟨w2, f2⟩ := hW.grant (H' := H2) x.2 n1 h2 ((k2 _ nl1).trans g1) fun b u hb hn => (k2 b hn).trans (s1 b u hb)
     walk_at "p"
     refine nl (fun p H3 hp e3 s3 k3 => q _ H3 p ((Ans.num (n := 0) w2 f2 rfl hp e3 s3).mk' (e1.trans ?_)))
     congr 1
     have hd1 : (D.st.grants.drop k).take 1 = [x.2] := drop_take1 (show (D.grants.map (·.2))[k]? = some x.2 by rw [List.getElem?_map, hx]; rfl)
     have ek : ((k + 1 : Nat) : Int).toNat - 1 = k := by omega
     show ({ D.st with grants := D.st.grants ++ (D.st.grants.drop (((k + 1 : Nat) : Int).toNat - 1)).take 1 } : Vbpoac.State) = _
     rw [ek, hd1]
     simp [DS.st]
noncomputable abbrev spx45 (A : Adr) : Sp := spC3 A .garble
theorem cx45 (P : Program) (w : World) (base : Heap) (T : Txt K mg A) : Cal P w K mg base 3 "garble" ["world", "line", "place", "n"] (spx45 A) := by
 have Cx41 := cx41 P w base T
 have Cx42 := cx42 P w base T
 obtain ⟨f, fd, F, hm, b⟩ := T.fx45
 refine ⟨f, fd, F.ok (k := 2) scx45 (fun vs H Q E h => ?_) (fun cdv A' outer s H vs Q E hr h => ?_), hm, F.kp, b⟩
 ·obtain ⟨_, _, _, _, _, rfl, _⟩ := h
  rfl
 ·obtain ⟨c, D, d, i, n, rfl, h⟩ := h
  refine ⟨_, (pss_cons (ps_if (pt_not (pt_chain op_le op_lt pe_int (pv 3) (pgi T.gx2j))) (pss_one (ps_ret (pe_lst (pa_cons (pgi T.gxd) pa_nil)))) pss_nil)
   (pss_cons (pst 4 scx45.nd (pcl Cx42 hr rfl (pa_cons (pv 0) (pa_cons (pv 1) (pa_cons (pv 2) pa_nil)))))
   (pss_cons (ps_if (pt_cmpR op_lt (pv 4) pe_int (nomark _)) (pss_one (ps_ret (pe_lst (pa_cons (pv 4) pa_nil)))) pss_nil)
   (pss_cons (pst 5 scx45.nd (pe_ix ix_list (pcl Cx41 hr rfl (pa_cons (pv 0) (pa_cons (pv 1) pa_nil))) (pe_op op_sub (pv 2) pe_int) (fun _ _ => rfl)))
   (pss_cons (ps_asg (pe_op op_mod (pe_op op_add (pe_ix ix_list (pv 5) (pgi T.gx3r) (fun _ _ => rfl)) (pv 3)) (pgi T.gx2j)) (pg_sub (pv 5) (pgi T.gx3r) set_list))
   (pss_one (ps_ret (pe_lst (pa_cons pe_int pa_nil))))))))), ?_⟩
  obtain ⟨hW, hG, hc, q⟩ := h
  have el := lineN_st D d
  walk_at "p"
  refine ite_outl (fun no => ?_) (fun h1 h2 => ?_)
  ·walk_at "p"
   refine nl (fun p H1 hp e1 s1 k1 => q D H1 p ?_)
   exact (Ans.no hW hp e1 s1 k1).mk' ((step_garble _ _ _ _).trans (if_pos (by rw [inside_iff, inside_iff, inside_iff]; omega)))
  ·walk_at "p"
   refine ⟨D, d, i, rfl, hW, ?_⟩
   walk_at "p"
   rcases placeRef_cases D d i with ⟨er, hi⟩ | ⟨er, hd, hi, hn⟩ | ⟨er, hd, k, rfl, hk, hk16⟩
   ·refine ite_d (fun _ => ?_) (fun z => absurd (show placeRef D d i < 0 by omega) z)
    walk_at "p"
    refine nl (fun p H1 hp e1 s1 k1 => q D H1 p ?_)
    rw [er] at e1
    exact (Ans.no hW hp e1 s1 k1).mk' ((step_garble _ _ _ _).trans (if_pos (by rw [inside_iff, inside_iff, inside_iff]; omega)))
   ·refine ite_d (fun _ => ?_) (fun z => absurd (show placeRef D d i < 0 by omega) z)
    walk_at "p"
    refine nl (fun p H1 hp e1 s1 k1 => q D H1 p ?_)
    rw [er] at e1
    refine (Ans.no hW hp e1 s1 k1).mk' ((step_garble _ _ _ _).trans ?_)
    rw [if_neg (by rw [inside_iff, inside_iff, inside_iff]; omega), if_pos (by rw [el]; omega)]
   ·refine ite_d (fun z => absurd z (show ¬ placeRef D d _ < 0 by omega)) (fun _ => ?_)
    have e0 := (step_garble D.st d ((k + 1 : Nat) : Int) n).trans ((if_neg (by rw [inside_iff, inside_iff, inside_iff]; omega)).trans (if_neg (by rw [el]; omega)))
    rcases hd with rfl | rfl
    ·have hk : k < D.asks.length := hk
     obtain ⟨x, hx⟩ : ∃ x, D.asks[k]? = some x := ⟨_, List.getElem?_eq_getElem hk⟩
     have hl0 : H (lineA D 0) = _ := hW.alo
     have hm := hW.ao hx
     walk_at "p"
     refine ⟨D, 0, rfl, hW, ?_⟩
     walk_at "p"
     refine ⟨lineA D 0, _, _, .ref x.1, rfl, rfl, SqL.of hl0, at_of (j := k) (by omega) (by rw [List.getElem?_map, hx]; rfl), ?_⟩
     walk_at "p"
     refine ⟨x.1, _, _, _, rfl, rfl, SqL.of hm, at_of (j := 2) rfl rfl, ?_⟩
     walk_at "p"
     refine i_rI (show (0 : Int) < 99991 by decide) ?_
     walk_at "p"
     refine rd_set hm (show ixN 5 2 = some 2 from rfl) (fun H1 g1 k1 => ?_)
     have ea : ((x.2.amount : Int) + n) % 99991 = (((x.2.amount + n.toNat) % 99991 : Nat) : Int) := by omega
     rw [ea] at g1
     obtain ⟨w1, f1⟩ := hW.setAsk (H' := H1) hx { x.2 with amount := (x.2.amount + n.toNat) % 99991 } g1 fun b u hb hn => (k1 b hn).trans hb
     walk_at "p"
     refine nl (fun p H2 hp e2 s2 k2 => q _ H2 p ((Ans.num (n := 0) w1 f1 rfl hp e2 s2).mk' (e0.trans ?_)))
     congr 1
     have hz := zip_set (fun (y : Vbpoac.Ask) => { y with amount := (y.amount + n.toNat) % Vbpoac.PRIME }) D.st.asks 0 k x.2 (show (D.asks.map (·.2))[k]? = some x.2 by rw [List.getElem?_map, hx]; rfl)
     have ek : ((k + 1 : Nat) : Int).toNat = 0 + k + 1 := by omega
     show ({ D.st with asks := D.st.asks.zipIdx.map fun x => if x.2 + 1 = ((k + 1 : Nat) : Int).toNat then { x.1 with amount := (x.1.amount + n.toNat) % Vbpoac.PRIME } else x.1 } : Vbpoac.State) = _
     rw [ek, hz]
     simp [DS.st, List.map_set, Vbpoac.PRIME]
    ·have hk : k < D.grants.length := hk
     obtain ⟨x, hx⟩ : ∃ x, D.grants[k]? = some x := ⟨_, List.getElem?_eq_getElem hk⟩
     have hl0 : H (lineA D 1) = _ := hW.glo
     have hm := hW.go hx
     walk_at "p"
     refine ⟨D, 1, rfl, hW, ?_⟩
     walk_at "p"
     refine ⟨lineA D 1, _, _, .ref x.1, rfl, rfl, SqL.of hl0, at_of (j := k) (by omega) (by rw [List.getElem?_map, hx]; rfl), ?_⟩
     walk_at "p"
     refine ⟨x.1, _, _, _, rfl, rfl, SqL.of hm, at_of (j := 2) rfl rfl, ?_⟩
     walk_at "p"
     refine i_rI (show (0 : Int) < 99991 by decide) ?_
     walk_at "p"
     refine rd_set hm (show ixN 4 2 = some 2 from rfl) (fun H1 g1 k1 => ?_)
     have ea : ((x.2.amount : Int) + n) % 99991 = (((x.2.amount + n.toNat) % 99991 : Nat) : Int) := by omega
     rw [ea] at g1
     obtain ⟨w1, f1⟩ := hW.setGrant (H' := H1) hx { x.2 with amount := (x.2.amount + n.toNat) % 99991 } g1 fun b u hb hn => (k1 b hn).trans hb
     walk_at "p"
     refine nl (fun p H2 hp e2 s2 k2 => q _ H2 p ((Ans.num (n := 0) w1 f1 rfl hp e2 s2).mk' (e0.trans ?_)))
     congr 1
     have hz := zip_set (fun (y : Vbpoac.Grant) => { y with amount := (y.amount + n.toNat) % Vbpoac.PRIME }) D.st.grants 0 k x.2 (show (D.grants.map (·.2))[k]? = some x.2 by rw [List.getElem?_map, hx]; rfl)
     have ek : ((k + 1 : Nat) : Int).toNat = 0 + k + 1 := by omega
     show ({ D.st with grants := D.st.grants.zipIdx.map fun x => if x.2 + 1 = ((k + 1 : Nat) : Int).toNat then { x.1 with amount := (x.1.amount + n.toNat) % Vbpoac.PRIME } else x.1 } : Vbpoac.State) = _
     rw [ek, hz]
     simp [DS.st, List.map_set, Vbpoac.PRIME]
end
section
variable {P : Program} {w : World} {K : PySem.W.Frag} {mg : Str → Option Value} {base : Heap} {A : Adr}
theorem step_registers (S : Vbpoac.State) (m : Int) : Vbpoac.step S (.registers m) = Vbpoac.onMeter S m fun _ x => Vbpoac.yes S (if x.on = true then 1 else 0) [Vbpoac.ints [(Vbpoac.current x).rising, (Vbpoac.current x).falling, (Vbpoac.current x).piece, (Vbpoac.current x).refills]] := rfl
theorem step_banks (S : Vbpoac.State) (m : Int) : Vbpoac.step S (.banks m) = Vbpoac.onMeter S m fun _ x => Vbpoac.yes S (if x.on = true then 1 else 0) [Vbpoac.bankRow x.first, Vbpoac.bankRow x.second] := rfl
theorem step_told (S : Vbpoac.State) (m : Int) : Vbpoac.step S (.told m) = Vbpoac.onMeter S m fun n x => Vbpoac.yes S x.account [Vbpoac.ints (Vbpoac.granted S n), (match x.stopped with
   | some d => [(d : Int)]
   | none => [])] := rfl
theorem step_balance (S : Vbpoac.State) (a : Int) : Vbpoac.step S (.balance a) = Vbpoac.onAccount S a fun k => Vbpoac.yes S (Vbpoac.balance S k).toNat [] := rfl
theorem step_statement (S : Vbpoac.State) (a f : Int) : Vbpoac.step S (.statement a f) = if Vbpoac.inside f 1 1000 = false then Vbpoac.no S 1 else Vbpoac.onAccount S a fun k =>
   Vbpoac.yes S (((S.journal.filter fun e => e.account == k).drop (f.toNat - 1)).take 50).length ((((S.journal.filter fun e => e.account == k).drop (f.toNat - 1)).take 50).map fun e => Vbpoac.ints [e.day, e.kind, e.amount, e.what]) := rfl
theorem step_lines (S : Vbpoac.State) : Vbpoac.step S .lines = Vbpoac.yes S (S.asks.length + S.grants.length) ((S.asks.map Vbpoac.askRow) ++ (S.grants.map Vbpoac.grantRow)) := rfl
theorem step_counts (S : Vbpoac.State) : Vbpoac.step S .counts = Vbpoac.yes S S.day [Vbpoac.ints [S.accounts, S.meters.length, S.vouchers.length, S.journal.length, S.asks.length, S.grants.length, S.seen.length, S.spoiled.length]] := rfl
noncomputable def powN (b : Bool) : Nat := if b = true then 1 else 0
noncomputable def spx4i (A : Adr) : Sp := fun vs H Q _ => ∃ (D : DS) (i : Nat) (x : DM), vs = [.ref x.a] ∧ WAt A H D ∧ D.meters[i]? = some x ∧ Q (.int (powN x.m.on : Nat)) H
theorem cx4i (P : Program) (w : World) (base : Heap) (T : Txt K mg A) : Cal P w K mg base 1 "power" ["meter"] (spx4i A) := by
 obtain ⟨f, fd, F, hm, b⟩ := T.fx4i
 refine ⟨f, fd, F.ok (k := 0) scx4i (fun vs H Q E h => ?_) (fun cdv A' outer s H vs Q E hr h => ?_), hm, F.kp, b⟩
 ·obtain ⟨_, _, _, rfl, _⟩ := h
  rfl
 ·obtain ⟨D, i, x, rfl, h⟩ := h
  refine ⟨_, (pss_one (ps_ret (pe_ifExp (ptt (pfl (pv 0))) pe_int pe_int))), ?_⟩
  obtain ⟨hW, hx, q⟩ := h
  obtain ⟨⟨dx, hm⟩, _⟩ := hW.mo hx
  unfold powN at q
  walk_at "p"
  refine T.rMeter hm ?_
  walk_at "p"
  refine ite_b (fun z => ?_) (fun z => ?_)
  ·rw [if_pos z] at q
   walk_at "p"
   exact q
  ·rw [if_neg (by rw [z]; exact Bool.false_ne_true)] at q
   walk_at "p"
   exact q
noncomputable abbrev spx4j (A : Adr) : Sp := spC1 A .registers
theorem cx4j (P : Program) (w : World) (base : Heap) (T : Txt K mg A) : Cal P w K mg base 4 "tell_registers" ["world", "number"] (spx4j A) := by
 have Mx1o := cx1o P w base T
 have Mx22 := cx22 P w base T
 have Mx24 := cx24 P w base T
 have Cx4i := cx4i P w base T
 have Cxl := cxl P w base T
 obtain ⟨f, fd, F, hm, b⟩ := T.fx4j
 refine ⟨f, fd, F.ok (k := 3) scx4j (fun vs H Q E h => ?_) (fun cdv A' outer s H vs Q E hr h => ?_), hm, F.kp, b⟩
 ·obtain ⟨_, _, _, rfl, _⟩ := h
  rfl
 ·obtain ⟨c, D, n, rfl, h⟩ := h
  refine ⟨_, (pss_cons (pst 2 scx4j.nd (pmt (pv 0) T.clx1y Mx24 hr (pa_cons (pv 1) pa_nil)))
   (pss_cons (ps_if (pt_cmpR op_lt (pv 2) pe_int (nomark _)) (pss_one (ps_ret (pe_lst (pa_cons (pv 2) pa_nil)))) pss_nil)
   (pss_cons (pst 3 scx4j.nd (pmt (pv 0) T.clx1y Mx22 hr (pa_cons (pv 1) pa_nil)))
   (pss_one (ps_ret (pcl Cxl hr rfl (pa_cons (pcl Cx4i hr rfl (pa_cons (pv 3) pa_nil)) (pa_cons (pe_lst (pa_cons (pe_slice sl_list (pmt0 (pfl (pv 3)) T.clx1l Mx1o hr) (po_some (pgi T.gx1g)) po_none) pa_nil)) pa_nil)))))))), ?_⟩
  obtain ⟨hW, hG, hc, q⟩ := h
  obtain ⟨dw, hw⟩ := hW.wo
  walk_at "p"
  refine rd_met hw rfl ?_
  walk_at "p"
  refine ⟨D, n, rfl, hW, ?_⟩
  walk_at "p"
  rcases metRef_cases D n with ⟨er, es⟩ | ⟨er, es⟩ | ⟨er, i, x, rfl, hx, hg, ef, es⟩
  ·refine ite_d (fun _ => ?_) (fun z => absurd (show metRef D n < 0 by omega) z)
   walk_at "p"
   refine nl (fun p H1 hp e1 s1 k1 => q D H1 p ?_)
   rw [er] at e1
   exact (Ans.no hW hp e1 s1 k1).mk' ((step_registers _ _).trans (es _))
  ·refine ite_d (fun _ => ?_) (fun z => absurd (show metRef D n < 0 by omega) z)
   walk_at "p"
   refine nl (fun p H1 hp e1 s1 k1 => q D H1 p ?_)
   rw [er] at e1
   exact (Ans.no hW hp e1 s1 k1).mk' ((step_registers _ _).trans (es _))
  ·refine ite_d (fun z => absurd z (show ¬ metRef D _ < 0 by omega)) (fun _ => ?_)
   have e0 := (step_registers D.st ((i + 1 : Nat) : Int)).trans (es _)
   obtain ⟨⟨dx, hm⟩, ⟨de, he⟩, _⟩ := hW.mo hx
   have hcur := cur_at hW hx
   walk_at "p"
   refine rd_met hw rfl ?_
   walk_at "p"
   refine ⟨D, _, rfl, hW, ?_⟩
   rw [ef]
   walk_at "p"
   refine ⟨D, i, x, rfl, hW, hx, ?_⟩
   walk_at "p"
   refine T.rMeter hm ?_
   refine rd_met he rfl ?_
   walk_at "p"
   refine ⟨D, i, x, rfl, hW, hx, ?_⟩
   walk_at "p"
   refine rd_sl (SqL.of hcur) (fun l1 H1 n1 g1 s1 _ => ?_)
   rw [cut_from (by decide)] at g1
   walk_at "p"
   refine nl (fun l2 H2 n2 g2 s2 _ => ?_)
   walk_at "p"
   refine ⟨_, l2, [(l1, Vbpoac.ints [(Vbpoac.current x.m).rising, (Vbpoac.current x.m).falling, (Vbpoac.current x.m).piece, (Vbpoac.current x.m).refills])], rfl, g2, fun r hr' => ?_, (by show 5 < 1000000; decide), fun p H3 hp e3 s3 => ?_⟩
   ·simp only [List.mem_singleton] at hr'
    subst hr'
    exact s2 _ _ g1
   ·have s12 := s1.trans s2
    exact q D H3 p ((Ans.rows (rs := [(l1, Vbpoac.ints [(Vbpoac.current x.m).rising, (Vbpoac.current x.m).falling, (Vbpoac.current x.m).piece, (Vbpoac.current x.m).refills])]) (H1 := H2) (hW.same s12) (Fr.same s12) rfl hp e3 s3 rfl).mk' e0)
noncomputable abbrev spx4k (A : Adr) : Sp := spC1 A .banks
theorem cx4k (P : Program) (w : World) (base : Heap) (T : Txt K mg A) : Cal P w K mg base 4 "tell_banks" ["world", "number"] (spx4k A) := by
 have Mx22 := cx22 P w base T
 have Mx24 := cx24 P w base T
 have Cx4i := cx4i P w base T
 have Cxl := cxl P w base T
 obtain ⟨f, fd, F, hm, b⟩ := T.fx4k
 refine ⟨f, fd, F.ok (k := 3) scx4k (fun vs H Q E h => ?_) (fun cdv A' outer s H vs Q E hr h => ?_), hm, F.kp, b⟩
 ·obtain ⟨_, _, _, rfl, _⟩ := h
  rfl
 ·obtain ⟨c, D, n, rfl, h⟩ := h
  refine ⟨_, (pss_cons (pst 2 scx4k.nd (pmt (pv 0) T.clx1y Mx24 hr (pa_cons (pv 1) pa_nil)))
   (pss_cons (ps_if (pt_cmpR op_lt (pv 2) pe_int (nomark _)) (pss_one (ps_ret (pe_lst (pa_cons (pv 2) pa_nil)))) pss_nil)
   (pss_cons (pst 3 scx4k.nd (pmt (pv 0) T.clx1y Mx22 hr (pa_cons (pv 1) pa_nil)))
   (pss_one (ps_ret (pcl Cxl hr rfl (pa_cons (pcl Cx4i hr rfl (pa_cons (pv 3) pa_nil)) (pa_cons (pe_lst (pa_cons (pfl (pfl (pv 3))) (pa_cons (pfl (pfl (pv 3))) pa_nil))) pa_nil)))))))), ?_⟩
  obtain ⟨hW, hG, hc, q⟩ := h
  obtain ⟨dw, hw⟩ := hW.wo
  walk_at "p"
  refine rd_met hw rfl ?_
  walk_at "p"
  refine ⟨D, n, rfl, hW, ?_⟩
  walk_at "p"
  rcases metRef_cases D n with ⟨er, es⟩ | ⟨er, es⟩ | ⟨er, i, x, rfl, hx, hg, ef, es⟩
  ·refine ite_d (fun _ => ?_) (fun z => absurd (show metRef D n < 0 by omega) z)
   walk_at "p"
   refine nl (fun p H1 hp e1 s1 k1 => q D H1 p ?_)
   rw [er] at e1
   exact (Ans.no hW hp e1 s1 k1).mk' ((step_banks _ _).trans (es _))
  ·refine ite_d (fun _ => ?_) (fun z => absurd (show metRef D n < 0 by omega) z)
   walk_at "p"
   refine nl (fun p H1 hp e1 s1 k1 => q D H1 p ?_)
   rw [er] at e1
   exact (Ans.no hW hp e1 s1 k1).mk' ((step_banks _ _).trans (es _))
  ·refine ite_d (fun z => absurd z (show ¬ metRef D _ < 0 by omega)) (fun _ => ?_)
   have e0 := (step_banks D.st ((i + 1 : Nat) : Int)).trans (es _)
   obtain ⟨⟨dx, hm⟩, ⟨de, he⟩, hb1, hb2⟩ := hW.mo hx
   walk_at "p"
   refine rd_met hw rfl ?_
   walk_at "p"
   refine ⟨D, _, rfl, hW, ?_⟩
   rw [ef]
   walk_at "p"
   refine ⟨D, i, x, rfl, hW, hx, ?_⟩
   walk_at "p"
   refine T.rMeter hm ?_
   refine T.rMemory he ?_
   walk_at "p"
   refine T.rMeter hm ?_
   refine T.rMemory he ?_
   walk_at "p"
   refine nl (fun l2 H2 n2 g2 s2 _ => ?_)
   walk_at "p"
   refine ⟨_, l2, [(x.b1, bankI x.m.first), (x.b2, bankI x.m.second)], rfl, g2, fun r hr' => ?_, (by show 12 < 1000000; decide), fun p H3 hp e3 s3 => ?_⟩
   ·rcases List.mem_cons.mp hr' with rfl | hr'
    ·exact s2 _ _ hb1
    ·rw [List.mem_singleton.mp hr']; exact s2 _ _ hb2
   ·exact q D H3 p ((Ans.rows (rs := [(x.b1, bankI x.m.first), (x.b2, bankI x.m.second)]) (H1 := H2) (hW.same s2) (Fr.same s2) rfl hp e3 s3 rfl).mk' e0)
theorem gr_len {c : Nat} {D : DS} (hG : Good c D.st) (hc : c ≤ 1000) (n : Nat) : (Vbpoac.granted D.st n).length ≤ 1000 := by
 unfold Vbpoac.granted
 rw [List.length_map]
 have := hG.jl
 exact Nat.le_trans (List.length_filter_le _ _) (by omega)
noncomputable abbrev spx4l (A : Adr) : Sp := spC1 A .told
theorem cx4l (P : Program) (w : World) (base : Heap) (T : Txt K mg A) : Cal P w K mg base 4 "tell_meter" ["world", "number"] (spx4l A) := by
 have Mxc := cxc P w base T
 have Mx22 := cx22 P w base T
 have Mx24 := cx24 P w base T
 have Cxl := cxl P w base T
 obtain ⟨f, fd, F, hm, b⟩ := T.fx4l
 refine ⟨f, fd, F.ok (k := 3) scx4l (fun vs H Q E h => ?_) (fun cdv A' outer s H vs Q E hr h => ?_), hm, F.kp, b⟩
 ·obtain ⟨_, _, _, rfl, _⟩ := h
  rfl
 ·obtain ⟨c, D, n, rfl, h⟩ := h
  refine ⟨_, (pss_cons (pst 2 scx4l.nd (pmt (pv 0) T.clx1y Mx24 hr (pa_cons (pv 1) pa_nil)))
   (pss_cons (ps_if (pt_cmpR op_lt (pv 2) pe_int (nomark _)) (pss_one (ps_ret (pe_lst (pa_cons (pv 2) pa_nil)))) pss_nil)
   (pss_cons (pst 3 scx4l.nd (pmt (pv 0) T.clx1y Mx22 hr (pa_cons (pv 1) pa_nil)))
   (pss_cons (pst 4 scx4l.nd (pe_ifExp (pt_cmp (pc_isN (pfl (pv 3)))) (pe_lst pa_nil) (pe_lst (pa_cons (pfl (pv 3)) pa_nil))))
   (pss_one (ps_ret (pcl Cxl hr rfl (pa_cons (pfl (pv 3)) (pa_cons (pe_lst (pa_cons (pmt (pfl (pv 0)) T.clx7 Mxc hr (pa_cons (pv 1) pa_nil)) (pa_cons (pv 4) pa_nil))) pa_nil))))))))), ?_⟩
  obtain ⟨hW, hG, hc, q⟩ := h
  obtain ⟨dw, hw⟩ := hW.wo
  have hz := jlen hG hc
  walk_at "p"
  refine rd_met hw rfl ?_
  walk_at "p"
  refine ⟨D, n, rfl, hW, ?_⟩
  walk_at "p"
  rcases metRef_cases D n with ⟨er, es⟩ | ⟨er, es⟩ | ⟨er, i, x, rfl, hx, hg, ef, es⟩
  ·refine ite_d (fun _ => ?_) (fun z => absurd (show metRef D n < 0 by omega) z)
   walk_at "p"
   refine nl (fun p H1 hp e1 s1 k1 => q D H1 p ?_)
   rw [er] at e1
   exact (Ans.no hW hp e1 s1 k1).mk' ((step_told _ _).trans (es _))
  ·refine ite_d (fun _ => ?_) (fun z => absurd (show metRef D n < 0 by omega) z)
   walk_at "p"
   refine nl (fun p H1 hp e1 s1 k1 => q D H1 p ?_)
   rw [er] at e1
   exact (Ans.no hW hp e1 s1 k1).mk' ((step_told _ _).trans (es _))
  ·refine ite_d (fun z => absurd z (show ¬ metRef D _ < 0 by omega)) (fun _ => ?_)
   have e0 := (step_told D.st ((i + 1 : Nat) : Int)).trans (es _)
   have hgl := gr_len hG hc (i + 1)
   obtain ⟨⟨dx, hm⟩, _⟩ := hW.mo hx
   walk_at "p"
   refine rd_met hw rfl ?_
   walk_at "p"
   refine ⟨D, _, rfl, hW, ?_⟩
   rw [ef]
   walk_at "p"
   refine T.rMeter hm ?_
   walk_at "p"
   cases hs : x.m.stopped with
   | none =>
    refine ite_d (fun _ => ?_) (fun z => absurd rfl z)
    walk_at "p"
    refine nl (fun l1 H1 n1 g1 s1 _ => ?_)
    have hW1 := hW.same s1
    obtain ⟨dw1, hw1⟩ := hW1.wo
    obtain ⟨dj1, hj1⟩ := hW1.jo
    walk_at "p"
    refine T.rMeter (s1 _ _ hm) ?_
    walk_at "p"
    refine T.rWorld hw1 ?_
    refine rd_met hj1 rfl ?_
    walk_at "p"
    refine ⟨D, ((i + 1 : Nat) : Int), rfl, hW1, hz, fun l2 H2 n2 g2 s2 => ?_⟩
    rw [gr_eq] at g2
    walk_at "p"
    refine nl (fun l3 H3 n3 g3 s3 _ => ?_)
    walk_at "p"
    refine ⟨_, l3, [(l2, Vbpoac.ints (Vbpoac.granted D.st (i + 1))), (l1, [])], rfl, g3, fun r hr' => ?_, ?_, fun p H4 hp e4 s4 => ?_⟩
    ·rcases List.mem_cons.mp hr' with rfl | hr'
     ·exact s3 _ _ g2
     ·rw [List.mem_singleton.mp hr']; exact s3 _ _ (s2 _ _ g1)
    ·unfold rowsI Vbpoac.ints
     simp only [List.flatMap_cons, List.flatMap_nil, List.append_nil, List.length_append, List.length_cons, List.length_map, List.length_nil]
     omega
    ·have s13 := (s1.trans s2).trans s3
     refine q D H4 p ((Ans.rows (rs := [(l2, Vbpoac.ints (Vbpoac.granted D.st (i + 1))), (l1, [])]) (H1 := H3) (hW.same s13) (Fr.same s13) rfl hp e4 s4 rfl).mk' (e0.trans ?_))
     rw [hs]; rfl
   | some dd =>
    refine ite_d (fun z => by cases z) (fun _ => ?_)
    walk_at "p"
    refine T.rMeter hm ?_
    rw [hs]
    walk_at "p"
    refine nl (fun l1 H1 n1 g1 s1 _ => ?_)
    have hW1 := hW.same s1
    obtain ⟨dw1, hw1⟩ := hW1.wo
    obtain ⟨dj1, hj1⟩ := hW1.jo
    walk_at "p"
    refine T.rMeter (s1 _ _ hm) ?_
    walk_at "p"
    refine T.rWorld hw1 ?_
    refine rd_met hj1 rfl ?_
    walk_at "p"
    refine ⟨D, ((i + 1 : Nat) : Int), rfl, hW1, hz, fun l2 H2 n2 g2 s2 => ?_⟩
    rw [gr_eq] at g2
    walk_at "p"
    refine nl (fun l3 H3 n3 g3 s3 _ => ?_)
    walk_at "p"
    refine ⟨_, l3, [(l2, Vbpoac.ints (Vbpoac.granted D.st (i + 1))), (l1, [(dd : Int)])], rfl, g3, fun r hr' => ?_, ?_, fun p H4 hp e4 s4 => ?_⟩
    ·rcases List.mem_cons.mp hr' with rfl | hr'
     ·exact s3 _ _ g2
     ·rw [List.mem_singleton.mp hr']; exact s3 _ _ (s2 _ _ g1)
    ·unfold rowsI Vbpoac.ints
     simp only [List.flatMap_cons, List.flatMap_nil, List.append_nil, List.length_append, List.length_cons, List.length_map, List.length_nil]
     omega
    ·have s13 := (s1.trans s2).trans s3
     refine q D H4 p ((Ans.rows (rs := [(l2, Vbpoac.ints (Vbpoac.granted D.st (i + 1))), (l1, [(dd : Int)])]) (H1 := H3) (hW.same s13) (Fr.same s13) rfl hp e4 s4 rfl).mk' (e0.trans ?_))
     rw [hs]; rfl
noncomputable abbrev spx4m (A : Adr) : Sp := spC1 A .balance
theorem cx4m (P : Program) (w : World) (base : Heap) (T : Txt K mg A) : Cal P w K mg base 3 "tell_balance" ["world", "account"] (spx4m A) := by
 have Mxb := cxb P w base T
 have Mx23 := cx23 P w base T
 obtain ⟨f, fd, F, hm, b⟩ := T.fx4m
 refine ⟨f, fd, F.ok (k := 2) scx4m (fun vs H Q E h => ?_) (fun cdv A' outer s H vs Q E hr h => ?_), hm, F.kp, b⟩
 ·obtain ⟨_, _, _, rfl, _⟩ := h
  rfl
 ·obtain ⟨c, D, a, rfl, h⟩ := h
  refine ⟨_, (pss_cons (pst 2 scx4m.nd (pmt (pv 0) T.clx1y Mx23 hr (pa_cons (pv 1) pa_nil)))
   (pss_cons (ps_if (pt_cmpR op_lt (pv 2) pe_int (nomark _)) (pss_one (ps_ret (pe_lst (pa_cons (pv 2) pa_nil)))) pss_nil)
   (pss_one (ps_ret (pe_lst (pa_cons (pmt (pfl (pv 0)) T.clx7 Mxb hr (pa_cons (pv 1) pa_nil)) pa_nil)))))), ?_⟩
  obtain ⟨hW, hG, hc, q⟩ := h
  obtain ⟨dw, hw⟩ := hW.wo
  obtain ⟨dj, hj⟩ := hW.jo
  have hz := jlen hG hc
  have e0 := step_balance D.st a
  walk_at "p"
  refine rd_met hw rfl ?_
  walk_at "p"
  refine ⟨D, a, rfl, hW, ?_⟩
  walk_at "p"
  rcases accRef_cases D a with ⟨er, es⟩ | ⟨er, es⟩ | ⟨er, ha, es⟩
  ·refine ite_d (fun _ => ?_) (fun z => absurd (show accRef D a < 0 by omega) z)
   walk_at "p"
   refine nl (fun p H1 hp e1 s1 k1 => q D H1 p ?_)
   rw [er] at e1
   exact (Ans.no hW hp e1 s1 k1).mk' (e0.trans (es _))
  ·refine ite_d (fun _ => ?_) (fun z => absurd (show accRef D a < 0 by omega) z)
   walk_at "p"
   refine nl (fun p H1 hp e1 s1 k1 => q D H1 p ?_)
   rw [er] at e1
   exact (Ans.no hW hp e1 s1 k1).mk' (e0.trans (es _))
  ·refine ite_d (fun z => absurd z (show ¬ accRef D a < 0 by omega)) (fun _ => ?_)
   walk_at "p"
   refine T.rWorld hw ?_
   refine rd_met hj rfl ?_
   walk_at "p"
   refine ⟨D, a, rfl, hW, hz, fun H1 s1 => ?_⟩
   walk_at "p"
   refine nl (fun p H2 hp e2 s2 k2 => q D H2 p ?_)
   refine (Ans.num (n := (Vbpoac.balance D.st a.toNat).toNat) (hW.same s1) (Fr.same s1) rfl hp ?_ s2).mk' (e0.trans (es _))
   rw [e2, Int.toNat_of_nonneg (hG.bal _), bal_eq' D ha]
theorem cut_mid {xs : List V} {i j : Int} (h0 : 0 ≤ i) (h1 : i ≤ j) : cutV xs (some i) (some j) = (xs.drop i.toNat).take (j.toNat - i.toNat) := by
 unfold cutV HT.sIx
 simp only []
 rw [if_neg (by omega), if_neg (by omega)]
 rcases Nat.le_total i.toNat xs.length with z | z
 ·rw [Nat.min_eq_left z]
  rcases Nat.le_total j.toNat xs.length with y | y
  ·rw [Nat.min_eq_left y]
  ·rw [Nat.min_eq_right y, List.take_of_length_le (by simp), List.take_of_length_le (by simp; omega)]
 ·rw [Nat.min_eq_right z, List.drop_of_length_le (Nat.le_refl _), List.drop_of_length_le z]
  simp
noncomputable def entI (e : Vbpoac.Entry) : List Int := Vbpoac.ints [e.day, e.kind, e.amount, e.what]
theorem rows_len {rs : List (Addr × List Int)} {k : Nat} (h : ∀ r ∈ rs, r.2.length ≤ k) : (rowsI rs).length ≤ rs.length * (k + 1) := by
 induction rs with
 | nil => exact Nat.zero_le _
 | cons r rs ih =>
  have h1 := h r List.mem_cons_self
  have h2 := ih fun z hz => h z (List.mem_cons_of_mem _ hz)
  have e : rowsI (r :: rs) = ((r.2.length : Int) :: r.2) ++ rowsI rs := rfl
  rw [e, List.length_append, List.length_cons, List.length_cons, Nat.succ_mul]
  omega
noncomputable abbrev spx4n (A : Adr) : Sp := spC2 A .statement
theorem cx4n (P : Program) (w : World) (base : Heap) (T : Txt K mg A) : Cal P w K mg base 2 "tell_statement" ["world", "account", "from_entry"] (spx4n A) := by
 have Mxa := cxa P w base T
 have Mx23 := cx23 P w base T
 have Cxl := cxl P w base T
 obtain ⟨f, fd, F, hm, b⟩ := T.fx4n
 refine ⟨f, fd, F.ok (k := 1) scx4n (fun vs H Q E h => ?_) (fun cdv A' outer s H vs Q E hr h => ?_), hm, F.kp, b⟩
 ·obtain ⟨_, _, _, _, rfl, _⟩ := h
  rfl
 ·obtain ⟨c, D, a, n, rfl, h⟩ := h
  refine ⟨_, (pss_cons (ps_if (pt_not (pt_chain op_le op_le pe_int (pv 2) (pgi T.gx4g))) (pss_one (ps_ret (pe_lst (pa_cons (pgi T.gxd) pa_nil)))) pss_nil)
   (pss_cons (pst 3 scx4n.nd (pmt (pv 0) T.clx1y Mx23 hr (pa_cons (pv 1) pa_nil)))
   (pss_cons (ps_if (pt_cmpR op_lt (pv 3) pe_int (nomark _)) (pss_one (ps_ret (pe_lst (pa_cons (pv 3) pa_nil)))) pss_nil)
   (pss_cons (pst 4 scx4n.nd (pe_slice sl_list (pmt (pfl (pv 0)) T.clx7 Mxa hr (pa_cons (pv 1) pa_nil)) (po_some (pe_op op_sub (pv 2) pe_int)) (po_some (pe_op op_add (pe_op op_sub (pv 2) pe_int) (pgi T.gx4h)))))
   (pss_one (ps_ret (pcl Cxl hr rfl (pa_cons (pe_callB call_len_seq (by rfl) T.b_len (by decide +kernel) (pa_cons (pv 4) pa_nil)) (pa_cons (plc (x := "entry") (n := 5) rfl scx4n.nd (pi_list (pv 4)) (blkOk_by (by rfl)) (fun _ _ _ _ _ => by exact (pgn 5 scx4n.nd)) (fun _ _ _ _ _ => by exact pts_nil) (fun _ _ _ _ _ => by exact (pe_lst (pa_cons (pflK K rfl (pv 5)) (pa_cons (pflK K rfl (pv 5)) (pa_cons (pflK K rfl (pv 5)) (pa_cons (pflK K rfl (pv 5)) pa_nil))))))) pa_nil))))))))), ?_⟩
  obtain ⟨hW, hG, hc, q⟩ := h
  obtain ⟨dw, hw⟩ := hW.wo
  obtain ⟨dj, hj⟩ := hW.jo
  have hz := jlen hG hc
  walk_at "p"
  refine ite_out (fun no => ?_) (fun h1 h2 => ?_)
  ·walk_at "p"
   refine nl (fun p H1 hp e1 s1 k1 => q D H1 p ?_)
   exact (Ans.no hW hp e1 s1 k1).mk' ((step_statement _ _ _).trans (if_pos (inside_no no)))
  ·have e0 := (step_statement D.st a n).trans (if_neg (inside_yes ⟨h1, h2⟩))
   walk_at "p"
   refine rd_met hw rfl ?_
   walk_at "p"
   refine ⟨D, a, rfl, hW, ?_⟩
   walk_at "p"
   rcases accRef_cases D a with ⟨er, es⟩ | ⟨er, es⟩ | ⟨er, ha, es⟩
   ·refine ite_d (fun _ => ?_) (fun z => absurd (show accRef D a < 0 by omega) z)
    walk_at "p"
    refine nl (fun p H1 hp e1 s1 k1 => q D H1 p ?_)
    rw [er] at e1
    exact (Ans.no hW hp e1 s1 k1).mk' (e0.trans (es _))
   ·refine ite_d (fun _ => ?_) (fun z => absurd (show accRef D a < 0 by omega) z)
    walk_at "p"
    refine nl (fun p H1 hp e1 s1 k1 => q D H1 p ?_)
    rw [er] at e1
    exact (Ans.no hW hp e1 s1 k1).mk' (e0.trans (es _))
   ·refine ite_d (fun z => absurd z (show ¬ accRef D a < 0 by omega)) (fun _ => ?_)
    have e1 := e0.trans (es _)
    walk_at "p"
    refine T.rWorld hw ?_
    refine rd_met hj rfl ?_
    walk_at "p"
    refine ⟨D, a, rfl, hW, hz, fun l1 H1 n1 g1 s1 => ?_⟩
    walk_at "p"
    refine rd_sl (SqL.of g1) (fun l2 H2 n2 g2 s2 _ => ?_)
    have ec : (n - 1 + 50).toNat - (n - 1).toNat = 50 := by omega
    have en : (n - 1).toNat = n.toNat - 1 := by omega
    rw [cut_mid (by omega) (by omega), ec, en, ← List.map_drop, ← List.map_take] at g2
    have s02 := s1.trans s2
    have hW2 := hW.same s02
    have hlt : (((D.journal.filter (accP a)).drop (n.toNat - 1)).take 50).length ≤ 50 := by rw [List.length_take]; omega
    walk_at "p"
    refine ⟨l2, _, rfl, .inl (SqL.of g2), ?_⟩
    walk_at "p"
    refine rd_lcN (ys := ((D.journal.filter (accP a)).drop (n.toNat - 1)).take 50) (fun y => V.ref y.1) (SqL.of g2) (Nat.lt_of_le_of_lt hlt (by decide)) (fun y => .lst ((entI y.2).map V.int)) (fun y hy H3 s3 R hR => ?_) (fun l4 H4 zs n4 ez g4 hzs s4 => ?_)
    ·obtain ⟨i, hi⟩ := List.getElem?_of_mem (List.mem_filter.mp (List.mem_of_mem_drop (List.mem_of_mem_take hy))).1
     obtain ⟨dy, hey⟩ := (hW2.same s3).eo hi
     walk_at "p"
     refine T.rEntry hey ?_
     walk_at "p"
     refine T.rEntry hey ?_
     walk_at "p"
     refine T.rEntry hey ?_
     walk_at "p"
     refine T.rEntry hey ?_
     walk_at "p"
     exact nl (fun b H5 nb g5 s5 _ => hR b H5 nb g5 s5)
    ·walk_at "p"
     have hrs : (zs.map fun z => (z.1, entI z.2.2)).map (fun r => V.ref r.1) = zs.map fun z => V.ref z.1 := by rw [List.map_map]; rfl
     have hzl : zs.length ≤ 50 := by
      have := congrArg List.length ez
      rw [List.length_map] at this
      omega
     refine ⟨_, l4, zs.map fun z => (z.1, entI z.2.2), rfl, by rw [g4, hrs], fun r hr' => ?_, ?_, fun p H5 hp e5 s5 => ?_⟩
     ·obtain ⟨z, hz', rfl⟩ := List.mem_map.mp hr'
      exact hzs z hz'
     ·have hb : ∀ r ∈ zs.map fun z => (z.1, entI z.2.2), r.2.length ≤ 4 := fun r hr' => by
       obtain ⟨z, hz', rfl⟩ := List.mem_map.mp hr'
       exact Nat.le_refl 4
      have := rows_len hb
      rw [List.length_map] at this
      omega
     ·have s04 := s02.trans s4
      have hst : (D.st.journal.filter fun e => e.account == a.toNat) = (D.journal.filter (accP a)).map (·.2) := by
       show (D.journal.map (·.2)).filter _ = _
       rw [List.filter_map]
       congr 1
       refine List.filter_congr fun y _ => ?_
       show (y.2.account == a.toNat) = decide ((y.2.account : Int) = a)
       by_cases z : y.2.account = a.toNat
       ·rw [z, beq_self_eq_true, decide_eq_true (by omega)]
       ·rw [beq_eq_false_iff_ne.mpr z, decide_eq_false (by omega)]
      refine q D H5 p ((Ans.rows (n := (((D.journal.filter (accP a)).drop (n.toNat - 1)).take 50).length) (rs := zs.map fun z => (z.1, entI z.2.2)) (H1 := H4) (hW.same s04) (Fr.same s04) rfl hp (by rw [e5, List.length_map]) s5 rfl).mk' (e1.trans ?_))
      rw [hst, ← List.map_drop, ← List.map_take, List.length_map, ← ez, List.map_map, List.map_map, List.map_map]
      rfl
noncomputable abbrev spx4o (A : Adr) : Sp := spC0 A .lines
theorem cx4o (P : Program) (w : World) (base : Heap) (T : Txt K mg A) : Cal P w K mg base 2 "tell_lines" ["world"] (spx4o A) := by
 have Cxl := cxl P w base T
 obtain ⟨f, fd, F, hm, b⟩ := T.fx4o
 refine ⟨f, fd, F.ok (k := 1) scx4o (fun vs H Q E h => ?_) (fun cdv A' outer s H vs Q E hr h => ?_), hm, F.kp, b⟩
 ·obtain ⟨_, _, rfl, _⟩ := h
  rfl
 ·obtain ⟨c, D, rfl, h⟩ := h
  refine ⟨_, (pss_cons (pst 1 scx4o.nd (pe_op op_cat (pfl (pv 0)) (pfl (pv 0))))
   (pss_one (ps_ret (pcl Cxl hr rfl (pa_cons (pe_callB call_len_seq (by rfl) T.b_len (by decide +kernel) (pa_cons (pv 1) pa_nil)) (pa_cons (pv 1) pa_nil)))))), ?_⟩
  obtain ⟨hW, hG, hc, q⟩ := h
  obtain ⟨dw, hw⟩ := hW.wo
  have la : D.st.asks.length = D.asks.length := List.length_map _
  have lg : D.st.grants.length = D.grants.length := List.length_map _
  have h1 := hG.asks
  have h2 := hG.grants
  walk_at "p"
  refine T.rWorld hw ?_
  walk_at "p"
  refine T.rWorld hw ?_
  refine do_cat hW.alo hW.glo (by rw [List.length_map, List.length_map]; show _ ≤ 2 ^ 24; omega) (fun l1 H1 n1 g1 s1 _ => ?_)
  have hW1 := hW.same s1
  walk_at "p"
  refine ⟨l1, _, rfl, .inl (SqL.of g1), ?_⟩
  walk_at "p"
  have hrs : ((D.asks.map fun x => (x.1, Vbpoac.askRow x.2)) ++ (D.grants.map fun x => (x.1, Vbpoac.grantRow x.2))).map (fun r => V.ref r.1) = (D.asks.map fun x => V.ref x.1) ++ (D.grants.map fun x => V.ref x.1) := by
   rw [List.map_append, List.map_map, List.map_map]; rfl
  refine ⟨_, l1, (D.asks.map fun x => (x.1, Vbpoac.askRow x.2)) ++ (D.grants.map fun x => (x.1, Vbpoac.grantRow x.2)), rfl, by rw [g1, hrs], fun r hr' => ?_, ?_, fun p H2 hp e2 s2 => ?_⟩
  ·rcases List.mem_append.mp hr' with m | m
   ·obtain ⟨x, hx, rfl⟩ := List.mem_map.mp m
    obtain ⟨i, hi⟩ := List.getElem?_of_mem hx
    exact hW1.ao hi
   ·obtain ⟨x, hx, rfl⟩ := List.mem_map.mp m
    obtain ⟨i, hi⟩ := List.getElem?_of_mem hx
    exact hW1.go hi
  ·have hb : ∀ r ∈ (D.asks.map fun x => (x.1, Vbpoac.askRow x.2)) ++ (D.grants.map fun x => (x.1, Vbpoac.grantRow x.2)), r.2.length ≤ 5 := fun r hr' => by
    rcases List.mem_append.mp hr' with m | m
    ·obtain ⟨x, hx, rfl⟩ := List.mem_map.mp m
     exact Nat.le_refl 5
    ·obtain ⟨x, hx, rfl⟩ := List.mem_map.mp m
     exact Nat.le_succ 4
   have := rows_len hb
   rw [List.length_append, List.length_map, List.length_map] at this
   omega
  ·refine q D H2 p ((Ans.rows (n := D.asks.length + D.grants.length) (rs := (D.asks.map fun x => (x.1, Vbpoac.askRow x.2)) ++ (D.grants.map fun x => (x.1, Vbpoac.grantRow x.2))) (H1 := H1) hW1 (Fr.same s1) rfl hp (by rw [e2, List.length_append, List.length_map, List.length_map]) s2 rfl).mk' ((step_lines _).trans ?_))
   rw [la, lg]
   congr 1
   show (D.asks.map (·.2)).map Vbpoac.askRow ++ (D.grants.map (·.2)).map Vbpoac.grantRow = _
   rw [List.map_append, List.map_map, List.map_map, List.map_map, List.map_map]
   rfl
noncomputable abbrev spx4p (A : Adr) : Sp := spC0 A .counts
theorem cx4p (P : Program) (w : World) (base : Heap) (T : Txt K mg A) : Cal P w K mg base 2 "tell_counts" ["world"] (spx4p A) := by
 have Cxl := cxl P w base T
 obtain ⟨f, fd, F, hm, b⟩ := T.fx4p
 refine ⟨f, fd, F.ok (k := 1) scx4p (fun vs H Q E h => ?_) (fun cdv A' outer s H vs Q E hr h => ?_), hm, F.kp, b⟩
 ·obtain ⟨_, _, rfl, _⟩ := h
  rfl
 ·obtain ⟨c, D, rfl, h⟩ := h
  refine ⟨_, (pss_cons (pst 1 scx4p.nd (pe_lst (pa_cons (pfl (pv 0)) (pa_cons (pe_callB call_len_seq (by rfl) T.b_len (by decide +kernel) (pa_cons (pfl (pv 0)) pa_nil)) (pa_cons (pe_callB call_lenD (by rfl) T.b_len (by decide +kernel) (pa_cons (pfl (pv 0)) pa_nil)) (pa_cons (pe_callB call_len_seq (by rfl) T.b_len (by decide +kernel) (pa_cons (pfl (pfl (pv 0))) pa_nil)) (pa_cons (pe_callB call_len_seq (by rfl) T.b_len (by decide +kernel) (pa_cons (pfl (pv 0)) pa_nil)) (pa_cons (pe_callB call_len_seq (by rfl) T.b_len (by decide +kernel) (pa_cons (pfl (pv 0)) pa_nil)) (pa_cons (pe_callB call_lenT (by rfl) T.b_len (by decide +kernel) (pa_cons (pfl (pv 0)) pa_nil)) (pa_cons (pe_callB call_lenT (by rfl) T.b_len (by decide +kernel) (pa_cons (pfl (pv 0)) pa_nil)) pa_nil))))))))))
   (pss_one (ps_ret (pcl Cxl hr rfl (pa_cons (pfl (pv 0)) (pa_cons (pe_lst (pa_cons (pv 1) pa_nil)) pa_nil)))))), ?_⟩
  obtain ⟨hW, hG, hc, q⟩ := h
  obtain ⟨dw, hw⟩ := hW.wo
  obtain ⟨dj, hj⟩ := hW.jo
  walk_at "p"
  refine T.rWorld hw ?_
  walk_at "p"
  refine T.rWorld hw ?_
  walk_at "p"
  refine ⟨D.ml, _, rfl, .inl (SqL.of hW.mlo), ?_⟩
  walk_at "p"
  refine T.rWorld hw ?_
  walk_at "p"
  refine ⟨D.vd, _, rfl, hW.vdo, ?_⟩
  walk_at "p"
  refine T.rWorld hw ?_
  refine T.rJournal hj ?_
  walk_at "p"
  refine ⟨D.el, _, rfl, .inl (SqL.of hW.elo), ?_⟩
  walk_at "p"
  refine T.rWorld hw ?_
  walk_at "p"
  refine ⟨D.al, _, rfl, .inl (SqL.of hW.alo), ?_⟩
  walk_at "p"
  refine T.rWorld hw ?_
  walk_at "p"
  refine ⟨D.gl, _, rfl, .inl (SqL.of hW.glo), ?_⟩
  walk_at "p"
  refine T.rWorld hw ?_
  walk_at "p"
  refine ⟨D.sd, _, rfl, hW.sdo, ?_⟩
  walk_at "p"
  refine T.rWorld hw ?_
  walk_at "p"
  refine ⟨D.bd, _, rfl, hW.bdo, ?_⟩
  walk_at "p"
  refine nl (fun l1 H1 n1 g1 s1 _ => ?_)
  have hW1 := hW.same s1
  obtain ⟨dw1, hw1⟩ := hW1.wo
  walk_at "p"
  refine T.rWorld hw1 ?_
  walk_at "p"
  refine nl (fun l2 H2 n2 g2 s2 _ => ?_)
  walk_at "p"
  have e8 : [D.accounts, D.st.meters.length, D.st.vouchers.length, D.st.journal.length, D.st.asks.length, D.st.grants.length, D.seen.length, D.spoiled.length] = [D.accounts, (D.meters.map fun x => V.ref x.a).length, (vdV D.vouchers).length, (D.journal.map fun x => V.ref x.1).length, (D.asks.map fun x => V.ref x.1).length, (D.grants.map fun x => V.ref x.1).length, (pkV D.seen).length, (pkV D.spoiled).length] := by
   simp [DS.st, vdV, pkV]
  refine ⟨_, l2, [(l1, Vbpoac.ints [D.accounts, D.st.meters.length, D.st.vouchers.length, D.st.journal.length, D.st.asks.length, D.st.grants.length, D.seen.length, D.spoiled.length])], rfl, g2, fun r hr' => ?_, (by show 9 < 1000000; decide), fun p H3 hp e3 s3 => ?_⟩
  ·simp only [List.mem_singleton] at hr'
   subst hr'
   show H2 l1 = some (.lst ((Vbpoac.ints [D.accounts, D.st.meters.length, D.st.vouchers.length, D.st.journal.length, D.st.asks.length, D.st.grants.length, D.seen.length, D.spoiled.length]).map V.int))
   rw [e8]
   exact s2 _ _ g1
  ·have s12 := s1.trans s2
   exact q D H3 p ((Ans.rows (n := D.day) (rs := [(l1, Vbpoac.ints [D.accounts, D.st.meters.length, D.st.vouchers.length, D.st.journal.length, D.st.asks.length, D.st.grants.length, D.seen.length, D.spoiled.length])]) (H1 := H2) (hW.same s12) (Fr.same s12) rfl hp e3 s3 rfl).mk' (step_counts _))
end
section
variable {P : Program} {w : World} {K : PySem.W.Frag} {mg : Str → Option Value} {base : Heap} {A : Adr}
noncomputable def spx18 (A : Adr) : Sp := fun vs H Q _ => ∃ (l : Addr) (ns : List Nat), vs = [.ref l] ∧ H l = some (.lst (intsV ns)) ∧ ns.length < 10000 ∧ ∀ H', Same H H' → Q (.bl (oneWay ns)) H'
theorem cx18 (P : Program) (w : World) (base : Heap) (T : Txt K mg A) : Cal P w K mg base 2 "is_in_one_way" ["row"] (spx18 A) := by
 have Cx15 := cx15 P w base T
 obtain ⟨f, fd, F, hm, b⟩ := T.fx18
 refine ⟨f, fd, F.ok (k := 1) scx18 (fun vs H Q E h => ?_) (fun cdv A' outer s H vs Q E hr h => ?_), hm, F.kp, b⟩
 ·obtain ⟨_, _, rfl, _⟩ := h
  rfl
 ·obtain ⟨l, ns, rfl, h⟩ := h
  refine ⟨_, (pss_cons (ps_if (PW.pt (pw_or (pt_not (pt_chain op_le op_le pe_int (pe_callB call_len_seq (by rfl) T.b_len (by decide +kernel) (pa_cons (pv 0) pa_nil)) (pgi T.gxr))) (pw_or1 (pt_not (ptt (pcl Cx15 hr rfl (pa_cons (pv 0) pa_nil))))))) (pss_one (ps_ret pe_bl)) pss_nil)
   (pss_one (ps_ret (pe_or (pe_cmpR op_eq (pe_callB call_len_seq (by rfl) T.b_len (by decide +kernel) (pa_cons (pv 0) pa_nil)) pe_int (nomark _)) (pe_one (pe_cmpR op_ne (pe_ix ix_list (pv 0) pe_int (fun _ _ => rfl)) (pgi T.gxp) (nomark _))))))), ?_⟩
  obtain ⟨hl, hz, q⟩ := h
  have el : (intsV ns).length = ns.length := List.length_map _
  walk_at "p"
  refine ⟨l, _, rfl, .inl (SqL.of hl), ?_⟩
  rw [el]
  walk_at "p"
  refine ite_out (fun no => ?_) (fun h1 h2 => ?_)
  ·refine iteT ?_
   walk_at "p"
   have e : oneWay ns = false := by unfold oneWay; rw [decide_eq_false (by omega), Bool.false_and]
   have := q H (Same.refl H)
   rw [e] at this; exact this
  ·walk_at "p"
   refine ⟨l, ns, rfl, hl, hz, fun H1 s1 => ?_⟩
   walk_at "p"
   refine ite_nb (fun hA => ?_) (fun hA => ?_)
   ·walk_at "p"
    have e : oneWay ns = false := by unfold oneWay; rw [hA, Bool.false_and, Bool.and_false]
    have := q H1 s1
    rw [e] at this; exact this
   ·have e : oneWay ns = (decide (ns.length = 1) || decide (¬ ns[0]? = some 48)) := by unfold oneWay; rw [hA, decide_eq_true (by omega), Bool.true_and, Bool.true_and]
    have q1 := q H1 s1
    rw [e] at q1
    walk_at "p"
    refine ⟨l, _, rfl, .inl (SqL.of (s1 _ _ hl)), ?_⟩
    rw [el]
    walk_at "p"
    refine ite_d (fun h3 => ?_) (fun h3 => ?_)
    ·rw [decide_eq_true (by omega), Bool.true_or] at q1
     exact q1
    ·rw [decide_eq_false (by omega), Bool.false_or] at q1
     obtain ⟨c0, hc0⟩ : ∃ c, ns[0]? = some c := ⟨_, List.getElem?_eq_getElem (by omega)⟩
     walk_at "p"
     refine ⟨l, _, _, .int (c0 : Int), rfl, rfl, SqL.of (s1 _ _ hl), at_of (j := 0) rfl (by unfold intsV; rw [List.getElem?_map, hc0]; rfl), ?_⟩
     walk_at "p"
     have ed : (!decide ((c0 : Int) = 48)) = decide (¬ ns[0]? = some 48) := by
      rw [hc0]
      by_cases z : c0 = 48
      ·subst z; rfl
      ·rw [decide_eq_false (by omega), decide_eq_true (by intro y; exact z (Option.some.inj y))]; rfl
     rw [ed]; exact q1
noncomputable def spx19 (A : Adr) : Sp := fun vs H Q _ => ∃ (l : Addr) (ns : List Nat) (k : Nat), vs = [.ref l, .int k] ∧ H l = some (.lst (intsV ns)) ∧ ns.length < 10000 ∧ ∀ H', Same H H' → Q (.bl (isPad k ns)) H'
theorem cx19 (P : Program) (w : World) (base : Heap) (T : Txt K mg A) : Cal P w K mg base 2 "is_padded" ["row", "digits"] (spx19 A) := by
 have Cx15 := cx15 P w base T
 obtain ⟨f, fd, F, hm, b⟩ := T.fx19
 refine ⟨f, fd, F.ok (k := 1) scx19 (fun vs H Q E h => ?_) (fun cdv A' outer s H vs Q E hr h => ?_), hm, F.kp, b⟩
 ·obtain ⟨_, _, _, rfl, _⟩ := h
  rfl
 ·obtain ⟨l, ns, k, rfl, h⟩ := h
  refine ⟨_, (pss_one (ps_ret (pe_and (pe_cmpR op_eq (pe_callB call_len_seq (by rfl) T.b_len (by decide +kernel) (pa_cons (pv 0) pa_nil)) (pv 1) (nomark _)) (pe_one (pcl Cx15 hr rfl (pa_cons (pv 0) pa_nil)))))), ?_⟩
  obtain ⟨hl, hz, q⟩ := h
  have el : (intsV ns).length = ns.length := List.length_map _
  walk_at "p"
  refine ⟨l, _, rfl, .inl (SqL.of hl), ?_⟩
  rw [el]
  walk_at "p"
  refine ite_d (fun h3 => ?_) (fun h3 => ?_)
  ·walk_at "p"
   refine ⟨l, ns, rfl, hl, hz, fun H1 s1 => ?_⟩
   have e : isPad k ns = ns.all isD := by unfold isPad; rw [decide_eq_true (by omega), Bool.true_and]
   have := q H1 s1
   rw [e] at this; exact this
  ·have e : isPad k ns = false := by unfold isPad; rw [decide_eq_false (by omega), Bool.false_and]
   have := q H (Same.refl H)
   rw [e] at this; exact this
noncomputable def spx1a (A : Adr) : Sp := fun vs H Q _ => ∃ (c : Nat) (l : Addr) (ns : List Nat), vs = [.int c, .ref l] ∧ H l = some (.lst (intsV ns)) ∧ ns.length < 10000 ∧
 ∀ p H' (zs : List (Addr × List Nat)), H p = none → H' p = some (.lst (zs.map fun z => V.ref z.1)) → (∀ z ∈ zs, H' z.1 = some (.lst (intsV z.2))) → zs.map (·.2) = partsN c ns → Same H H' → Q (.ref p) H'
theorem parts_len (sep : Nat) : ∀ l : List Nat, (partsN sep l).length ≤ l.length + 1
 | [] => Nat.le_refl 1
 | c :: r => by
  have ih := parts_len sep r
  unfold partsN
  by_cases h : c = sep
  ·rw [if_pos h, List.length_cons, List.length_cons]; omega
  ·rw [if_neg h]
   cases e : partsN sep r with
   | nil => simp [hdCons]
   | cons p t =>
    rw [e] at ih
    simp only [hdCons, List.length_cons] at *
    omega
theorem parts_mem (sep : Nat) : ∀ (l : List Nat), ∀ p ∈ partsN sep l, p.length ≤ l.length ∧ ∀ c ∈ p, c ∈ l
 | [], p, hp => by
  have e : p = [] := List.mem_singleton.mp hp
  subst e
  exact ⟨Nat.le_refl 0, fun c hc => hc⟩
 | c :: r, p, hp => by
  have ih := parts_mem sep r
  unfold partsN at hp
  by_cases h : c = sep
  ·rw [if_pos h] at hp
   rcases List.mem_cons.mp hp with rfl | hp
   ·exact ⟨Nat.zero_le _, fun d hd => (by cases hd)⟩
   ·have := ih p hp
    exact ⟨Nat.le_succ_of_le this.1, fun d hd => List.mem_cons_of_mem _ (this.2 d hd)⟩
  ·rw [if_neg h] at hp
   cases e : partsN sep r with
   | nil => exact absurd e (partsN_ne sep r)
   | cons q t =>
    rw [e] at hp ih
    rcases List.mem_cons.mp hp with rfl | hp
    ·have := ih q List.mem_cons_self
     refine ⟨by rw [List.length_cons, List.length_cons]; omega, fun d hd => ?_⟩
     rcases List.mem_cons.mp hd with rfl | hd
     ·exact List.mem_cons_self
     ·exact List.mem_cons_of_mem _ (this.2 d hd)
    ·have := ih p (List.mem_cons_of_mem _ hp)
     exact ⟨Nat.le_succ_of_le this.1, fun d hd => List.mem_cons_of_mem _ (this.2 d hd)⟩
theorem cx1a (P : Program) (w : World) (base : Heap) (T : Txt K mg A) : Cal P w K mg base 1 "split_at" ["separator", "row"] (spx1a A) := by
 obtain ⟨f, fd, F, hm, b⟩ := T.fx1a
 refine ⟨f, fd, F.ok (k := 0) scx1a (fun vs H Q E h => ?_) (fun cdv A' outer s H vs Q E hr h => ?_), hm, F.kp, b⟩
 ·obtain ⟨_, _, _, rfl, _⟩ := h
  rfl
 ·obtain ⟨c, l, ns, rfl, h⟩ := h
  refine ⟨_, (pss_cons (pst 2 scx1a.nd (pe_lst (pa_cons (pe_lst pa_nil) pa_nil)))
   (pss_cons (ps_for PassesOwn.never rfl (pi_list (pv 1)) (pgn 3 scx1a.nd)
    (pss_one (ps_if (pt_cmpR op_eq (pv 3) (pv 0) (nomark _)) (pss_one (ps_expr (pe_bm PySem.F.plainAttrs_list PySem.F.slot_list_append PySem.F.type_list_append mt_append (pv 2) (pa_cons (pe_lst pa_nil) pa_nil)))) (pss_one (ps_expr (pe_bm PySem.F.plainAttrs_list PySem.F.slot_list_append PySem.F.type_list_append mt_append (pe_ix ix_list (pv 2) (pe_un un_neg pe_int) (fun _ _ => rfl)) (pa_cons (pv 3) pa_nil)))))))
   (pss_one (ps_ret (pv 2))))), ?_⟩
  obtain ⟨hl, hz, q⟩ := h
  walk_at "p"
  refine nl (fun b0 H0 n0 g0 s0 _ => ?_)
  walk_at "p"
  refine nl (fun p H1 np gp s1 _ => ?_)
  walk_at "p"
  have hp0 : H p = none := s0.free np
  have nb0 : b0 ≠ p := fun z => by rw [z, np] at g0; cases g0
  refine rd_for (SqL.of (s1 _ _ (s0 _ _ hl))) (fun i σ H' => ∃ (init : List (Addr × List Nat)) (b : Addr) (cur : List Nat) (v : Option V), σ = [some (.int c), some (.ref l), some (.ref p), v] ∧ partsN c (ns.take i) = init.map (·.2) ++ [cur] ∧ H' p = some (.lst (init.map (fun z => V.ref z.1) ++ [V.ref b])) ∧
   (∀ z ∈ init, H' z.1 = some (.lst (intsV z.2)) ∧ z.1 ≠ b ∧ z.1 ≠ p) ∧ H' b = some (.lst (intsV cur)) ∧ b ≠ p ∧ H b = none ∧ Same H H') ⟨[], b0, [], none, rfl, rfl, gp, fun z hz => (by cases hz), s1 _ _ g0, nb0, n0, s0.trans s1⟩
   (fun i σ H' _ ⟨_, _, _, _, _, _, _, _, _, _, _, k⟩ => SqL.of (k _ _ hl)) ?_ ?_
  ·rintro i x σ H' hi ⟨init, b, cur, v, rfl, ep, hp, hin, hb, nbp, fb, k⟩
   obtain ⟨y, hy, rfl⟩ := map_ref hi
   have hi' : i < ns.length := (List.getElem?_eq_some_iff.mp hy).1
   have es := parts_snoc c y (ns.take i) _ _ ep
   rw [← take_snoc hy] at es
   have hlen : init.length + 1 ≤ 10001 := by
    have := parts_len c (ns.take i)
    rw [ep, List.length_append, List.length_map, List.length_take] at this
    simp only [List.length_cons, List.length_nil] at this
    omega
   have hcl : cur.length ≤ 10000 := by
    have := (parts_mem c (ns.take i) cur (by rw [ep]; simp)).1
    rw [List.length_take] at this
    omega
   show tIfS _ _ _ _ _ _
   walk_at "p"
   refine ite_d (fun hc => ?_) (fun hc => ?_)
   ·have hyc : y = c := by omega
    rw [if_pos hyc] at es
    walk_at "p"
    refine rd_bmL hp ?_
    walk_at "p"
    refine nl (fun b2 H2 n2 g2 s2 _ => ?_)
    walk_at "p"
    refine do_append (s2 _ _ hp) (by rw [List.length_append, List.length_map]; show _ < 2 ^ 24; simp only [List.length_cons, List.length_nil]; omega) (fun H3 h3 k3 => ?_)
    have n2p : b2 ≠ p := fun z => by rw [z, hp] at n2; cases n2
    have keep : ∀ a o, H' a = some o → a ≠ p → H3 a = some o := fun a o e n => (k3 a n).trans (s2 _ _ e)
    refine ⟨init ++ [(b, cur)], b2, [], some (.int (y : Int)), rfl, ?_, ?_, fun z hz' => ?_, (k3 _ n2p).trans g2, n2p, k.free n2, fun a o e => ?_⟩
    ·rw [es, List.map_append]; rfl
    ·rw [h3, List.map_append]; rfl
    ·rcases List.mem_append.mp hz' with m | m
     ·have := hin z m
      exact ⟨keep _ _ this.1 this.2.2, (fun w => by have h := this.1; rw [w, n2] at h; cases h), this.2.2⟩
     ·rw [List.mem_singleton.mp m]
      exact ⟨keep _ _ hb nbp, (fun w => by have h := hb; rw [show b = b2 from w, n2] at h; cases h), nbp⟩
    ·exact keep _ _ (k _ _ e) (ne_of_none e hp0)
   ·have hyc : ¬ y = c := by omega
    rw [if_neg hyc] at es
    walk_at "p"
    refine ⟨p, _, _, .ref b, rfl, rfl, SqL.of hp, atI_last _ _, ?_⟩
    refine rd_bmL hb ?_
    walk_at "p"
    refine do_append hb (by unfold intsV; rw [List.length_map]; show _ < 2 ^ 24; omega) (fun H3 h3 k3 => ?_)
    refine ⟨init, b, cur ++ [y], some (.int (y : Int)), rfl, es, (k3 _ (fun z => nbp z.symm)).trans hp, fun z hz' => ?_, ?_, nbp, fb, fun a o e => ?_⟩
    ·have := hin z hz'
     exact ⟨(k3 _ this.2.1).trans this.1, this.2⟩
    ·rw [h3]; unfold intsV; rw [List.map_append]; rfl
    ·exact (k3 _ (ne_of_none e fb)).trans (k _ _ e)
  ·rintro σ H' ⟨init, b, cur, v, rfl, ep, hp, hin, hb, nbp, fb, k⟩
   walk_at "p"
   have el : (intsV ns).length = ns.length := List.length_map _
   rw [el, List.take_length] at ep
   refine q p H' (init ++ [(b, cur)]) hp0 (by rw [hp, List.map_append]; rfl) (fun z hz' => ?_) (by rw [ep, List.map_append]; rfl) k
   rcases List.mem_append.mp hz' with m | m
   ·exact (hin z m).1
   ·rw [List.mem_singleton.mp m]; exact hb
noncomputable def spx1b (A : Adr) : Sp := fun vs H Q _ => ∃ (l : Addr) (ns : List Nat), vs = [.ref l] ∧ H l = some (.lst (intsV ns)) ∧ ns.length ≤ 1000 ∧ (∀ H', Same H H' → readI ns = none → Q .non H') ∧ ∀ p H' five, H p = none → H' p = some (.lst (intsV five)) → Same H H' → readI ns = some five → Q (.ref p) H'
theorem oneWay_dig {ns : List Nat} (h : oneWay ns = true) : ∀ c ∈ ns, 48 ≤ c := fun c hc => by
 unfold oneWay at h
 rw [Bool.and_eq_true, Bool.and_eq_true] at h
 have := List.all_eq_true.mp h.2.1 c hc
 unfold isD at this
 rw [Bool.and_eq_true, decide_eq_true_eq] at this
 exact this.1
theorem isPad_dig {k : Nat} {ns : List Nat} (h : isPad k ns = true) : ∀ c ∈ ns, 48 ≤ c := fun c hc => by
 unfold isPad at h
 rw [Bool.and_eq_true] at h
 have := List.all_eq_true.mp h.2 c hc
 unfold isD at this
 rw [Bool.and_eq_true, decide_eq_true_eq] at this
 exact this.1
theorem cut1 (ns : List Nat) : cutV (intsV ns) (some 1) none = intsV (ns.drop 1) := by rw [cut_from (by decide)]; unfold intsV; rw [List.map_drop]; rfl
theorem cutT1 (ns : List Nat) : cutV (intsV ns) none (some 1) = intsV (ns.take 1) := by rw [cut_to (by decide)]; unfold intsV; rw [List.map_take]; rfl
theorem rows4 {zs : List (Addr × List Nat)} (h : zs.map (fun z => (z.2.take 1).map fun (n : Nat) => (n : Int)) = [[77], [86], [68], [67]]) : ∃ x y z w, zs = [x, y, z, w] ∧ [x.2.take 1, y.2.take 1, z.2.take 1, w.2.take 1] = [[77], [86], [68], [67]] := by
 have inj : ∀ {a : List Nat} {b : Nat}, a.map (fun (n : Nat) => (n : Int)) = [(b : Int)] → a = [b] := fun {a b} e => by
  match a, e with
  | [c], e =>
   have : (c : Int) = (b : Int) := (List.cons.inj e).1
   have : c = b := by omega
   rw [this]
  | [], e => cases e
  | _ :: _ :: _, e => cases (List.cons.inj e).2
 match zs, h with
 | [x, y, z, w], h =>
  have := four h
  exact ⟨x, y, z, w, rfl, by rw [inj (b := 77) this.1, inj (b := 86) this.2.1, inj (b := 68) this.2.2.1, inj (b := 67) this.2.2.2]⟩
 | [], h => cases h
 | [_], h => cases (List.cons.inj h).2
 | [_, _], h => cases (List.cons.inj (List.cons.inj h).2).2
 | [_, _, _], h => cases (List.cons.inj (List.cons.inj (List.cons.inj h).2).2).2
 | _ :: _ :: _ :: _ :: _ :: _, h => cases (List.cons.inj (List.cons.inj (List.cons.inj (List.cons.inj h).2).2).2).2
theorem rows4_not {zs : List (Addr × List Nat)} (h : ¬ zs.map (fun z => (z.2.take 1).map fun (n : Nat) => (n : Int)) = [[77], [86], [68], [67]]) : readW (zs.map (·.2)) = none := by
 rcases zs with _ | ⟨x, _ | ⟨y, _ | ⟨z, _ | ⟨w, _ | ⟨u, r⟩⟩⟩⟩⟩
 ·rfl
 ·rfl
 ·rfl
 ·rfl
 ·show (if [x.2.take 1, y.2.take 1, z.2.take 1, w.2.take 1] = [[77], [86], [68], [67]] then _ else none) = none
  rw [if_neg]
  intro e
  have := four e
  refine h ?_
  show [(x.2.take 1).map _, (y.2.take 1).map _, (z.2.take 1).map _, (w.2.take 1).map _] = _
  rw [this.1, this.2.1, this.2.2.1, this.2.2.2]
  rfl
 ·rfl
theorem rows2 {zs : List (Addr × List Nat)} (h : zs.length = 2) : ∃ x y, zs = [x, y] := by
 match zs, h with
 | [x, y], _ => exact ⟨x, y, rfl⟩
theorem readP_no {z w : List Nat} {X Y : List (List Nat)} (h : ¬ (X.length = 2 ∧ Y.length = 2)) : readP z w X Y = none := by
 rcases X with _ | ⟨m, _ | ⟨p, _ | ⟨u, r⟩⟩⟩
 ·rfl
 ·rfl
 ·rcases Y with _ | ⟨v, _ | ⟨g, _ | ⟨u, r⟩⟩⟩
  ·rfl
  ·rfl
  ·exact absurd ⟨rfl, rfl⟩ h
  ·rfl
 ·rfl
theorem cx1b (P : Program) (w : World) (base : Heap) (T : Txt K mg A) : Cal P w K mg base 3 "read_imprint" ["row"] (spx1b A) := by
 have Cx18 := cx18 P w base T
 have Cx19 := cx19 P w base T
 have Cx17 := cx17 P w base T
 have Cx1a := cx1a P w base T
 obtain ⟨f, fd, F, hm, b⟩ := T.fx1b
 refine ⟨f, fd, F.ok (k := 2) scx1b (fun vs H Q E h => ?_) (fun cdv A' outer s H vs Q E hr h => ?_), hm, F.kp, b⟩
 ·obtain ⟨_, _, rfl, _⟩ := h
  rfl
 ·obtain ⟨l, ns, rfl, h⟩ := h
  refine ⟨_, (pss_cons (pst 1 scx1b.nd (pcl Cx1a hr rfl (pa_cons (pgi T.gxn) (pa_cons (pv 0) pa_nil))))
   (pss_cons (ps_if (pt_cmpR (op_neD hr.units) (plc (x := "word") (n := 2) rfl scx1b.nd (pi_list (pv 1)) (blkOk_by (by rfl)) (fun _ _ _ _ _ => by exact (pgn 2 scx1b.nd)) (fun _ _ _ _ _ => by exact pts_nil) (fun _ _ _ _ _ => by exact (pe_slice (sl_listK K rfl) (pv 2) po_none (po_some pe_int)))) (pe_lst (pa_cons (pe_lst (pa_cons (pgi T.gxu) pa_nil)) (pa_cons (pe_lst (pa_cons (pgi T.gxv) pa_nil)) (pa_cons (pe_lst (pa_cons (pgi T.gxw) pa_nil)) (pa_cons (pe_lst (pa_cons (pgi T.gxx) pa_nil)) pa_nil))))) (nomark _)) (pss_one (ps_ret pe_non)) pss_nil)
   (pss_cons (pst 3 scx1b.nd (pcl Cx1a hr rfl (pa_cons (pgi T.gxo) (pa_cons (pe_slice sl_list (pe_ix ix_list (pv 1) pe_int (fun _ _ => rfl)) (po_some pe_int) po_none) pa_nil))))
   (pss_cons (pst 4 scx1b.nd (pcl Cx1a hr rfl (pa_cons (pgi T.gxo) (pa_cons (pe_slice sl_list (pe_ix ix_list (pv 1) pe_int (fun _ _ => rfl)) (po_some pe_int) po_none) pa_nil))))
   (pss_cons (ps_if (PW.pt (pw_or (pt_cmpR op_ne (pe_callB call_len_seq (by rfl) T.b_len (by decide +kernel) (pa_cons (pv 3) pa_nil)) pe_int (nomark _)) (pw_or1 (pt_cmpR op_ne (pe_callB call_len_seq (by rfl) T.b_len (by decide +kernel) (pa_cons (pv 4) pa_nil)) pe_int (nomark _))))) (pss_one (ps_ret pe_non)) pss_nil)
   (pss_cons (pst 5 scx1b.nd (pe_slice sl_list (pe_ix ix_list (pv 1) pe_int (fun _ _ => rfl)) (po_some pe_int) po_none))
   (pss_cons (pst 6 scx1b.nd (pe_slice sl_list (pe_ix ix_list (pv 1) pe_int (fun _ _ => rfl)) (po_some pe_int) po_none))
   (pss_cons (ps_if (pt_not (ptt (pe_callB (cr_all rfl) (by rfl) T.b_all (by decide +kernel) (pa_cons (plc (x := "part") (n := 7) rfl scx1b.nd (pi_list (pe_lst (pa_cons (pe_ix ix_list (pv 3) pe_int (fun _ _ => rfl)) (pa_cons (pe_ix ix_list (pv 3) pe_int (fun _ _ => rfl)) (pa_cons (pe_ix ix_list (pv 4) pe_int (fun _ _ => rfl)) (pa_cons (pv 5) pa_nil)))))) (blkOk_by (by rfl)) (fun _ _ _ _ _ => by exact (pgn 7 scx1b.nd)) (fun _ _ _ _ _ => by exact pts_nil) (fun _ _ _ _ _ => by exact (pcl Cx18 hr rfl (pa_cons (pv 7) pa_nil)))) pa_nil)))) (pss_one (ps_ret pe_non)) pss_nil)
   (pss_cons (ps_if (PW.pt (pw_or (pt_not (ptt (pcl Cx19 hr rfl (pa_cons (pe_ix ix_list (pv 4) pe_int (fun _ _ => rfl)) (pa_cons (pgi T.gxs) pa_nil))))) (pw_or1 (pt_not (ptt (pcl Cx19 hr rfl (pa_cons (pv 6) (pa_cons (pgi T.gxt) pa_nil)))))))) (pss_one (ps_ret pe_non)) pss_nil)
   (pss_one (ps_ret (plc (x := "part") (n := 7) rfl scx1b.nd (pi_list (pe_lst (pa_cons (pe_ix ix_list (pv 3) pe_int (fun _ _ => rfl)) (pa_cons (pe_ix ix_list (pv 3) pe_int (fun _ _ => rfl)) (pa_cons (pe_op op_cat (pe_ix ix_list (pv 4) pe_int (fun _ _ => rfl)) (pe_ix ix_list (pv 4) pe_int (fun _ _ => rfl))) (pa_cons (pv 5) (pa_cons (pv 6) pa_nil))))))) (blkOk_by (by rfl)) (fun _ _ _ _ _ => by exact (pgn 7 scx1b.nd)) (fun _ _ _ _ _ => by exact pts_nil) (fun _ _ _ _ _ => by exact (pcl Cx17 hr rfl (pa_cons (pv 7) pa_nil))))))))))))))), ?_⟩
  obtain ⟨hl, hz, qn, qs⟩ := h
  walk_at "p"
  refine ⟨32, l, ns, rfl, hl, by omega, fun pw H1 zs n1 g1 gz ez s1 => ?_⟩
  have eR : readI ns = readW (zs.map (·.2)) := by unfold readI; rw [ez]
  have hmem : ∀ z ∈ zs, z.2.length ≤ ns.length := fun z hz' => (parts_mem 32 ns z.2 (by rw [← ez]; exact List.mem_map.mpr ⟨z, hz', rfl⟩)).1
  have hzl : zs.length ≤ 1001 := by
   have := parts_len 32 ns
   rw [← ez, List.length_map] at this
   omega
  walk_at "p"
  refine rd_lcN (ys := zs) (fun z => V.ref z.1) (SqL.of g1) (Nat.lt_of_le_of_lt hzl (by decide)) (fun z => .lst (intsV (z.2.take 1))) (fun z hz' H2 s2 R hR => ?_) (fun l2 H2 us n2 eu g2 gu s2 => ?_)
  ·walk_at "p"
   refine rd_sl (SqL.of (s2 _ _ (gz z hz'))) (fun b H3 nb g3 s3 _ => ?_)
   rw [cutT1] at g3
   exact hR b H3 nb g3 s3
  walk_at "p"
  refine nl (fun a1 H3 m1 f1 t1 _ => ?_)
  walk_at "p"
  refine nl (fun a2 H4 m2 f2 t2 _ => ?_)
  walk_at "p"
  refine nl (fun a3 H5 m3 f3 t3 _ => ?_)
  walk_at "p"
  refine nl (fun a4 H6 m4 f4 t4 _ => ?_)
  walk_at "p"
  refine nl (fun a5 H7 m5 f5 t5 _ => ?_)
  have t26 : Same H2 H7 := (((t1.trans t2).trans t3).trans t4).trans t5
  have s07 : Same H H7 := (s1.trans s2).trans t26
  have s17 : Same H1 H7 := s2.trans t26
  have hus : (us.map (fun u => (u.1, (u.2.2.take 1).map fun (n : Nat) => (n : Int)))).map (·.2) = zs.map (fun z => (z.2.take 1).map fun (n : Nat) => (n : Int)) := by
   rw [← eu, List.map_map, List.map_map]; rfl
  refine rd_neR (zs := us.map fun u => (u.1, (u.2.2.take 1).map fun (n : Nat) => (n : Int))) (ys := [(a1, [77]), (a2, [86]), (a3, [68]), (a4, [67])]) (by rw [t26 _ _ g2, List.map_map]; rfl) (fun z hz' => ?_) f5 (fun z hz' => ?_) ?_
  ·obtain ⟨u, hu, rfl⟩ := List.mem_map.mp hz'
   show H7 u.1 = some (.lst (((u.2.2.take 1).map fun (n : Nat) => (n : Int)).map V.int))
   rw [t26 _ _ (gu u hu), intsV_map]
  ·simp only [List.mem_cons, List.not_mem_nil, or_false] at hz'
   rcases hz' with rfl | rfl | rfl | rfl
   ·exact t5 _ _ (t4 _ _ (t3 _ _ (t2 _ _ f1)))
   ·exact t5 _ _ (t4 _ _ (t3 _ _ f2))
   ·exact t5 _ _ (t4 _ _ f3)
   ·exact t5 _ _ f4
  ·rw [hus]
   walk_at "p"
   refine ite_nd (fun hne => ?_) (fun heq => ?_)
   ·walk_at "p"
    exact qn H7 s07 (by rw [eR]; exact rows4_not hne)
   ·obtain ⟨x, y, z, w, rfl, h4⟩ := rows4 heq
    have eR2 : readI ns = readP (z.2.drop 1) (w.2.drop 1) (partsN 46 (x.2.drop 1)) (partsN 46 (y.2.drop 1)) := by
     rw [eR]
     show (if _ then _ else none) = _
     rw [if_pos h4]
    have gx := s17 _ _ (gz x (by simp))
    have gy := s17 _ _ (gz y (by simp))
    have gzz := s17 _ _ (gz z (by simp))
    have gw := s17 _ _ (gz w (by simp))
    have lx := hmem x (by simp)
    have ly := hmem y (by simp)
    have lz := hmem z (by simp)
    have lw := hmem w (by simp)
    have gW : H7 pw = some (.lst [.ref x.1, .ref y.1, .ref z.1, .ref w.1]) := s17 _ _ g1
    clear g1 gz g2 gu f1 f2 f3 f4 f5 eu hus heq
    walk_at "p"
    refine ⟨pw, _, _, .ref x.1, rfl, rfl, SqL.of gW, at_of (j := 0) rfl rfl, ?_⟩
    walk_at "p"
    refine rd_sl (SqL.of gx) (fun b8 H8 n8 g8 s8 _ => ?_)
    rw [cut1] at g8
    walk_at "p"
    refine ⟨46, b8, x.2.drop 1, rfl, g8, by rw [List.length_drop]; omega, fun pm H9 ms n9 g9 gm em s9 => ?_⟩
    have s79 := s8.trans s9
    walk_at "p"
    refine ⟨pw, _, _, .ref y.1, rfl, rfl, SqL.of (s79 _ _ gW), at_of (j := 1) rfl rfl, ?_⟩
    walk_at "p"
    refine rd_sl (SqL.of (s79 _ _ gy)) (fun b10 H10 n10 g10 s10 _ => ?_)
    rw [cut1] at g10
    walk_at "p"
    refine ⟨46, b10, y.2.drop 1, rfl, g10, by rw [List.length_drop]; omega, fun pv H11 vs' n11 g11 gv ev s11 => ?_⟩
    have s9b := s10.trans s11
    have s7b := s79.trans s9b
    have lm : ms.length = (partsN 46 (x.2.drop 1)).length := by rw [← em, List.length_map]
    have lv : vs'.length = (partsN 46 (y.2.drop 1)).length := by rw [← ev, List.length_map]
    have none2 : ∀ H', Same H11 H' → ¬ (ms.length = 2 ∧ vs'.length = 2) → Q .non H' := fun H' s' hn => qn H' ((s07.trans s7b).trans s') (by rw [eR2]; exact readP_no (by rw [← lm, ← lv]; exact hn))
    walk_at "p"
    refine ⟨pm, _, rfl, .inl (SqL.of (s9b _ _ g9)), ?_⟩
    rw [List.length_map]
    walk_at "p"
    refine ite_nd (fun h2 => ?_) (fun h2 => ?_)
    ·refine iteT ?_
     walk_at "p"
     exact none2 H11 (Same.refl _) (by omega)
    ·walk_at "p"
     refine ⟨pv, _, rfl, .inl (SqL.of g11), ?_⟩
     rw [List.length_map]
     walk_at "p"
     refine ite_nd (fun h3 => ?_) (fun h3 => ?_)
     ·walk_at "p"
      exact none2 H11 (Same.refl _) (by omega)
     ·clear none2
      obtain ⟨m, p, rfl⟩ := rows2 (show ms.length = 2 by omega)
      obtain ⟨v, hh, rfl⟩ := rows2 (show vs'.length = 2 by omega)
      have em' : partsN 46 (x.2.drop 1) = [m.2, p.2] := em.symm
      have ev' : partsN 46 (y.2.drop 1) = [v.2, hh.2] := ev.symm
      have lmm := (parts_mem 46 (x.2.drop 1) m.2 (by rw [em']; simp)).1
      have lpp := (parts_mem 46 (x.2.drop 1) p.2 (by rw [em']; simp)).1
      have lvv := (parts_mem 46 (y.2.drop 1) v.2 (by rw [ev']; simp)).1
      have lhh := (parts_mem 46 (y.2.drop 1) hh.2 (by rw [ev']; simp)).1
      rw [List.length_drop] at lmm lpp lvv lhh
      rw [em', ev'] at eR2
      have gm1 := s9b _ _ (gm m (by simp))
      have gp1 := s9b _ _ (gm p (by simp))
      have gv1 := gv v (by simp)
      have gh1 := gv hh (by simp)
      have gM : H11 pm = some (.lst [.ref m.1, .ref p.1]) := s9b _ _ g9
      have gV : H11 pv = some (.lst [.ref v.1, .ref hh.1]) := g11
      have gW := s7b _ _ gW
      have gz1 := s7b _ _ gzz
      have gw1 := s7b _ _ gw
      have s011 := s07.trans s7b
      walk_at "p"
      refine ⟨pw, _, _, .ref z.1, rfl, rfl, SqL.of gW, at_of (j := 2) rfl rfl, ?_⟩
      walk_at "p"
      refine rd_sl (SqL.of gz1) (fun b12 H12 n12 g12 s12 _ => ?_)
      rw [cut1] at g12
      walk_at "p"
      refine ⟨pw, _, _, .ref w.1, rfl, rfl, SqL.of (s12 _ _ gW), at_of (j := 3) rfl rfl, ?_⟩
      walk_at "p"
      refine rd_sl (SqL.of (s12 _ _ gw1)) (fun b13 H13 n13 g13 s13 _ => ?_)
      rw [cut1] at g13
      have s1113 := s12.trans s13
      have g12' := s13 _ _ g12
      walk_at "p"
      refine ⟨pm, _, _, .ref m.1, rfl, rfl, SqL.of (s1113 _ _ gM), at_of (j := 0) rfl rfl, ?_⟩
      walk_at "p"
      refine ⟨pm, _, _, .ref p.1, rfl, rfl, SqL.of (s1113 _ _ gM), at_of (j := 1) rfl rfl, ?_⟩
      walk_at "p"
      refine ⟨pv, _, _, .ref v.1, rfl, rfl, SqL.of (s1113 _ _ gV), at_of (j := 0) rfl rfl, ?_⟩
      walk_at "p"
      refine nl (fun b14 H14 n14 g14 s14 _ => ?_)
      have s1114 := s1113.trans s14
      have g14' : H14 b14 = some (.lst ([(m.1, m.2), (p.1, p.2), (v.1, v.2), (b12, z.2.drop 1)].map fun (u : Addr × List Nat) => V.ref u.1)) := g14
      refine rd_lcP (ys := [(m.1, m.2), (p.1, p.2), (v.1, v.2), (b12, z.2.drop 1)]) (fun (u : Addr × List Nat) => V.ref u.1) (SqL.of g14') (by show 4 < sizeLine; decide) (fun u => V.bl (oneWay u.2)) (fun u hu H15 s15 R hR => ?_) (fun b15 H15 n15 g15 s15 => ?_)
      ·walk_at "p"
       have hu' : H15 u.1 = some (.lst (intsV u.2)) ∧ u.2.length < 10000 := by
        simp only [List.mem_cons, List.not_mem_nil, or_false] at hu
        rcases hu with rfl | rfl | rfl | rfl
        ·exact ⟨s15 _ _ (s1114 _ _ gm1), by show m.2.length < _; omega⟩
        ·exact ⟨s15 _ _ (s1114 _ _ gp1), by show p.2.length < _; omega⟩
        ·exact ⟨s15 _ _ (s1114 _ _ gv1), by show v.2.length < _; omega⟩
        ·exact ⟨s15 _ _ (s14 _ _ g12'), by show (z.2.drop 1).length < _; rw [List.length_drop]; omega⟩
       exact ⟨u.1, u.2, rfl, hu'.1, hu'.2, fun H16 s16 => hR H16 s16⟩
      have s1115 := s1114.trans s15
      have gM15 := s1115 _ _ gM
      have gV15 := s1115 _ _ gV
      have gd15 := s15 _ _ (s14 _ _ g12')
      have gc15 := s15 _ _ (s14 _ _ g13)
      walk_at "p"
      refine ⟨b15, [oneWay m.2, oneWay p.2, oneWay v.2, oneWay (z.2.drop 1)], rfl, SqL.of g15, ?_⟩
      have eall : ([oneWay m.2, oneWay p.2, oneWay v.2, oneWay (z.2.drop 1)].all id) = (oneWay m.2 && (oneWay p.2 && (oneWay v.2 && oneWay (z.2.drop 1)))) := by
       simp [List.all_cons, List.all_nil]
      rw [eall]
      have eR3 : readI ns = if (oneWay m.2 && (oneWay p.2 && (oneWay v.2 && oneWay (z.2.drop 1))) && (isPad 2 hh.2 && isPad 5 (w.2.drop 1))) = true then some [numN m.2, numN p.2, numN (v.2 ++ hh.2), numN (z.2.drop 1), numN (w.2.drop 1)] else none := eR2
      walk_at "p"
      refine ite_nb (fun hA => ?_) (fun hA => ?_)
      ·walk_at "p"
       exact qn H15 (s011.trans s1115) (by rw [eR3, hA, Bool.false_and]; rfl)
      ·rw [hA, Bool.true_and] at eR3
       rw [Bool.and_eq_true, Bool.and_eq_true, Bool.and_eq_true] at hA
       obtain ⟨om, op_, ov, oz⟩ := hA
       walk_at "p"
       refine ⟨pv, _, _, .ref hh.1, rfl, rfl, SqL.of gV15, at_of (j := 1) rfl rfl, ?_⟩
       walk_at "p"
       refine ⟨hh.1, hh.2, 2, rfl, s1115 _ _ gh1, by omega, fun H16 s16 => ?_⟩
       walk_at "p"
       refine ite_nb (fun hB => ?_) (fun hB => ?_)
       ·refine iteT ?_
        walk_at "p"
        exact qn H16 ((s011.trans s1115).trans s16) (by rw [eR3, hB, Bool.false_and]; rfl)
       ·walk_at "p"
        refine ⟨b13, w.2.drop 1, 5, rfl, s16 _ _ gc15, by rw [List.length_drop]; omega, fun H17 s17' => ?_⟩
        walk_at "p"
        refine ite_nb (fun hC => ?_) (fun hC => ?_)
        ·walk_at "p"
         exact qn H17 (((s011.trans s1115).trans s16).trans s17') (by rw [eR3, hC, Bool.and_false]; rfl)
        ·rw [hB, hC, Bool.true_and, if_pos rfl] at eR3
         have s1517 := s16.trans s17'
         have s1117 := s1115.trans s1517
         walk_at "p"
         refine ⟨pm, _, _, .ref m.1, rfl, rfl, SqL.of (s1517 _ _ gM15), at_of (j := 0) rfl rfl, ?_⟩
         walk_at "p"
         refine ⟨pm, _, _, .ref p.1, rfl, rfl, SqL.of (s1517 _ _ gM15), at_of (j := 1) rfl rfl, ?_⟩
         walk_at "p"
         refine ⟨pv, _, _, .ref v.1, rfl, rfl, SqL.of (s1517 _ _ gV15), at_of (j := 0) rfl rfl, ?_⟩
         walk_at "p"
         refine ⟨pv, _, _, .ref hh.1, rfl, rfl, SqL.of (s1517 _ _ gV15), at_of (j := 1) rfl rfl, ?_⟩
         refine do_cat (s1117 _ _ gv1) (s1117 _ _ gh1) (by unfold intsV; rw [List.length_map, List.length_map]; show _ ≤ 2 ^ 24; omega) (fun b18 H18 n18 g18 s18 _ => ?_)
         have g18' : H18 b18 = some (.lst (intsV (v.2 ++ hh.2))) := by rw [g18]; unfold intsV; rw [List.map_append]
         walk_at "p"
         refine nl (fun b19 H19 n19 g19 s19 _ => ?_)
         have s1719 := s18.trans s19
         have s1119 := s1117.trans s1719
         have s1519 := s1517.trans s1719
         have g19' : H19 b19 = some (.lst ([(m.1, m.2), (p.1, p.2), (b18, v.2 ++ hh.2), (b12, z.2.drop 1), (b13, w.2.drop 1)].map fun (u : Addr × List Nat) => V.ref u.1)) := g19
         refine rd_lcP (ys := [(m.1, m.2), (p.1, p.2), (b18, v.2 ++ hh.2), (b12, z.2.drop 1), (b13, w.2.drop 1)]) (fun (u : Addr × List Nat) => V.ref u.1) (SqL.of g19') (by show 5 < sizeLine; decide) (fun u => V.int ((numN u.2 : Nat) : Int)) (fun u hu H20 s20 R hR => ?_) (fun b20 H20 n20 g20 s20 => ?_)
         ·walk_at "p"
          have hu' : H20 u.1 = some (.lst (intsV u.2)) ∧ u.2.length < 10000 ∧ ∀ c ∈ u.2, 48 ≤ c := by
           simp only [List.mem_cons, List.not_mem_nil, or_false] at hu
           rcases hu with rfl | rfl | rfl | rfl | rfl
           ·exact ⟨s20 _ _ (s1119 _ _ gm1), by show m.2.length < _; omega, oneWay_dig om⟩
           ·exact ⟨s20 _ _ (s1119 _ _ gp1), by show p.2.length < _; omega, oneWay_dig op_⟩
           ·refine ⟨s20 _ _ (s19 _ _ g18'), by show (v.2 ++ hh.2).length < _; rw [List.length_append]; omega, fun c hc => ?_⟩
            rcases List.mem_append.mp hc with hc | hc
            ·exact oneWay_dig ov c hc
            ·exact isPad_dig hB c hc
           ·exact ⟨s20 _ _ (s1519 _ _ gd15), by show (z.2.drop 1).length < _; rw [List.length_drop]; omega, oneWay_dig oz⟩
           ·exact ⟨s20 _ _ (s1519 _ _ gc15), by show (w.2.drop 1).length < _; rw [List.length_drop]; omega, isPad_dig hC⟩
          exact ⟨u.1, u.2, rfl, hu'.1, hu'.2.2, hu'.2.1, fun H21 s21 => hR H21 s21⟩
         ·have sAll := (s011.trans s1119)
          exact qs b20 H20 [numN m.2, numN p.2, numN (v.2 ++ hh.2), numN (z.2.drop 1), numN (w.2.drop 1)] (sAll.free n20) g20 (sAll.trans s20) eR3
end
section
variable {P : Program} {w : World} {K : PySem.W.Frag} {mg : Str → Option Value} {base : Heap} {A : Adr}
noncomputable def impV (i : Vbpoac.Imprint) : List V := intsV (fiveOf i)
noncomputable def verd (S : Vbpoac.State) : Option Vbpoac.Imprint → Nat
 | none => 2
 | some i => match Vbpoac.meterAt S i.meter with
  | none => 3
  | some x =>
   if i.code ≠ Vbpoac.codeOf x.key [3, i.meter, i.piece, i.value, i.day] then 4
   else if (match x.stopped with
    | some d => decide (d < i.day)
    | none => false) = true then 5
   else if S.day < i.day then 6
   else if i.day + Vbpoac.OLD < S.day then 7
   else if S.seen.contains (i.meter, i.piece) = true then 8
   else if S.spoiled.contains (i.meter, i.piece) = true then 9
   else 1
theorem ite_pair {α β : Type} {c : Prop} [Decidable c] (a b : α) (o : β) : (if c then (a, o) else (b, o)) = (if c then a else b, o) := by
 split <;> rfl
theorem judged_eq (S : Vbpoac.State) (b : Vbpoac.Bytes) : Vbpoac.judged S b = (verd S (Vbpoac.readImprint b), Vbpoac.readImprint b) := by
 unfold Vbpoac.judged verd
 cases Vbpoac.readImprint b with
 | none => rfl
 | some i =>
  simp only []
  cases Vbpoac.meterAt S i.meter with
  | none => rfl
  | some x =>
   simp only [ite_pair]
   rfl
noncomputable def spx36 (A : Adr) : Sp := fun vs H Q _ => ∃ (l : Addr) (i : Vbpoac.Imprint), vs = [.ref l] ∧ H l = some (.lst (impV i)) ∧ Q (.int i.meter) H
theorem cx36 (P : Program) (w : World) (base : Heap) (T : Txt K mg A) : Cal P w K mg base 1 "meter_of" ["imprint"] (spx36 A) := by
 obtain ⟨f, fd, F, hm, b⟩ := T.fx36
 refine ⟨f, fd, F.ok (k := 0) scx36 (fun vs H Q E h => ?_) (fun cdv A' outer s H vs Q E hr h => ?_), hm, F.kp, b⟩
 ·obtain ⟨_, _, rfl, _⟩ := h
  rfl
 ·obtain ⟨l, i, rfl, h⟩ := h
  refine ⟨_, (pss_one (ps_ret (pe_ix ix_list (pv 0) pe_int (fun _ _ => rfl)))), ?_⟩
  obtain ⟨hl, q⟩ := h
  walk_at "p"
  exact rd_ix 0 hl q
noncomputable def spx38 (A : Adr) : Sp := fun vs H Q _ => ∃ (l : Addr) (i : Vbpoac.Imprint), vs = [.ref l] ∧ H l = some (.lst (impV i)) ∧ Q (.int i.value) H
theorem cx38 (P : Program) (w : World) (base : Heap) (T : Txt K mg A) : Cal P w K mg base 1 "value_of" ["imprint"] (spx38 A) := by
 obtain ⟨f, fd, F, hm, b⟩ := T.fx38
 refine ⟨f, fd, F.ok (k := 0) scx38 (fun vs H Q E h => ?_) (fun cdv A' outer s H vs Q E hr h => ?_), hm, F.kp, b⟩
 ·obtain ⟨_, _, rfl, _⟩ := h
  rfl
 ·obtain ⟨l, i, rfl, h⟩ := h
  refine ⟨_, (pss_one (ps_ret (pe_ix ix_list (pv 0) pe_int (fun _ _ => rfl)))), ?_⟩
  obtain ⟨hl, q⟩ := h
  walk_at "p"
  exact rd_ix 2 hl q
noncomputable def spx39 (A : Adr) : Sp := fun vs H Q _ => ∃ (l : Addr) (i : Vbpoac.Imprint), vs = [.ref l] ∧ H l = some (.lst (impV i)) ∧ Q (.int i.day) H
theorem cx39 (P : Program) (w : World) (base : Heap) (T : Txt K mg A) : Cal P w K mg base 1 "day_of" ["imprint"] (spx39 A) := by
 obtain ⟨f, fd, F, hm, b⟩ := T.fx39
 refine ⟨f, fd, F.ok (k := 0) scx39 (fun vs H Q E h => ?_) (fun cdv A' outer s H vs Q E hr h => ?_), hm, F.kp, b⟩
 ·obtain ⟨_, _, rfl, _⟩ := h
  rfl
 ·obtain ⟨l, i, rfl, h⟩ := h
  refine ⟨_, (pss_one (ps_ret (pe_ix ix_list (pv 0) pe_int (fun _ _ => rfl)))), ?_⟩
  obtain ⟨hl, q⟩ := h
  walk_at "p"
  exact rd_ix 3 hl q
noncomputable def pairV (i : Vbpoac.Imprint) : List V := [.int i.meter, .int i.piece]
noncomputable def spx37 (A : Adr) : Sp := fun vs H Q _ => ∃ (l : Addr) (i : Vbpoac.Imprint), vs = [.ref l] ∧ H l = some (.lst (impV i)) ∧ ∀ t H', H t = none → H' t = some (.tup (pairV i)) → Same H H' → Q (.ref t) H'
theorem cx37 (P : Program) (w : World) (base : Heap) (T : Txt K mg A) : Cal P w K mg base 1 "piece_of" ["imprint"] (spx37 A) := by
 obtain ⟨f, fd, F, hm, b⟩ := T.fx37
 refine ⟨f, fd, F.ok (k := 0) scx37 (fun vs H Q E h => ?_) (fun cdv A' outer s H vs Q E hr h => ?_), hm, F.kp, b⟩
 ·obtain ⟨_, _, rfl, _⟩ := h
  rfl
 ·obtain ⟨l, i, rfl, h⟩ := h
  refine ⟨_, (pss_one (ps_ret (pe_tup (pa_cons (pe_ix ix_list (pv 0) pe_int (fun _ _ => rfl)) (pa_cons (pe_ix ix_list (pv 0) pe_int (fun _ _ => rfl)) pa_nil))))), ?_⟩
  obtain ⟨hl, q⟩ := h
  walk_at "p"
  refine rd_ix 0 hl ?_
  walk_at "p"
  refine rd_ix 1 hl ?_
  walk_at "p"
  exact nt (fun t H1 n1 e1 s1 _ => q t H1 n1 e1 s1)
noncomputable def spx3a (A : Adr) : Sp := fun vs H Q _ => ∃ (D : DS) (l : Addr) (i : Vbpoac.Imprint), vs = [.ref D.w, .ref l] ∧ WAt A H D ∧ H l = some (.lst (impV i)) ∧ Q (.int ((D.day : Int) - (i.day : Int))) H
theorem cx3a (P : Program) (w : World) (base : Heap) (T : Txt K mg A) : Cal P w K mg base 2 "days_since" ["world", "imprint"] (spx3a A) := by
 have Cx39 := cx39 P w base T
 obtain ⟨f, fd, F, hm, b⟩ := T.fx3a
 refine ⟨f, fd, F.ok (k := 1) scx3a (fun vs H Q E h => ?_) (fun cdv A' outer s H vs Q E hr h => ?_), hm, F.kp, b⟩
 ·obtain ⟨_, _, _, rfl, _⟩ := h
  rfl
 ·obtain ⟨D, l, i, rfl, h⟩ := h
  refine ⟨_, (pss_one (ps_ret (pe_op op_sub (pfl (pv 0)) (pcl Cx39 hr rfl (pa_cons (pv 1) pa_nil))))), ?_⟩
  obtain ⟨hW, hl, q⟩ := h
  obtain ⟨dw, hw⟩ := hW.wo
  walk_at "p"
  refine T.rWorld hw ?_
  walk_at "p"
  refine ⟨l, i, rfl, hl, ?_⟩
  walk_at "p"
  exact q
noncomputable def byDays (day : Nat) (stopped : Option Nat) (i : Vbpoac.Imprint) : Nat :=
 if (match stopped with
  | some d => decide (d < i.day)
  | none => false) = true then 5
 else if day < i.day then 6
 else if i.day + Vbpoac.OLD < day then 7 else 1
noncomputable def spx3b (A : Adr) : Sp := fun vs H Q _ => ∃ (D : DS) (k : Nat) (x : DM) (l : Addr) (i : Vbpoac.Imprint), vs = [.ref D.w, .ref x.a, .ref l] ∧ WAt A H D ∧ D.meters[k]? = some x ∧ H l = some (.lst (impV i)) ∧ Q (.int (byDays D.day x.m.stopped i : Nat)) H
theorem cx3b (P : Program) (w : World) (base : Heap) (T : Txt K mg A) : Cal P w K mg base 3 "verdict_by_days" ["world", "meter", "imprint"] (spx3b A) := by
 have Cx39 := cx39 P w base T
 have Cx3a := cx3a P w base T
 obtain ⟨f, fd, F, hm, b⟩ := T.fx3b
 refine ⟨f, fd, F.ok (k := 2) scx3b (fun vs H Q E h => ?_) (fun cdv A' outer s H vs Q E hr h => ?_), hm, F.kp, b⟩
 ·obtain ⟨_, _, _, _, _, rfl, _⟩ := h
  rfl
 ·obtain ⟨D, k, x, l, i, rfl, h⟩ := h
  refine ⟨_, (pss_cons (ps_if (PW.pt (pw_and (pt_cmp (pc_notN (pfl (pv 1)))) (pw_and1 (pt_cmpR op_lt (pfl (pv 1)) (pcl Cx39 hr rfl (pa_cons (pv 2) pa_nil)) (nomark _))))) (pss_one (ps_ret (pgi T.gx2v))) pss_nil)
   (pss_cons (ps_if (pt_cmpR op_gt (pcl Cx39 hr rfl (pa_cons (pv 2) pa_nil)) (pfl (pv 0)) (nomark _)) (pss_one (ps_ret (pgi T.gx2w))) pss_nil)
   (pss_one (ps_ret (pe_ifExp (pt_cmpR op_gt (pcl Cx3a hr rfl (pa_cons (pv 0) (pa_cons (pv 2) pa_nil))) (pgi T.gx30) (nomark _)) (pgi T.gx2x) (pgi T.gx2r)))))), ?_⟩
  obtain ⟨hW, hx, hl, q⟩ := h
  obtain ⟨dw, hw⟩ := hW.wo
  obtain ⟨⟨dx, hm⟩, _⟩ := hW.mo hx
  have rest : (match x.m.stopped with
   | some d => decide (d < i.day)
   | none => false) = false → byDays D.day x.m.stopped i = if D.day < i.day then 6 else if i.day + Vbpoac.OLD < D.day then 7 else 1 := fun z => by
   unfold byDays
   rw [if_neg (by rw [z]; exact Bool.false_ne_true)]
  walk_at "p"
  refine T.rMeter hm ?_
  walk_at "p"
  cases hs : x.m.stopped with
  | none =>
   rw [hs] at q rest
   have e1 := rest rfl
   refine ite_nd (fun z => absurd rfl z) (fun _ => ?_)
   refine iteF ?_
   walk_at "p"
   refine ⟨l, i, rfl, hl, ?_⟩
   walk_at "p"
   refine T.rWorld hw ?_
   walk_at "p"
   refine ite_d (fun z => ?_) (fun z => ?_)
   ·rw [e1, if_pos (by omega)] at q
    walk_at "p"
    exact q
   ·rw [if_neg (by omega)] at e1
    walk_at "p"
    refine ⟨D, l, i, rfl, hW, hl, ?_⟩
    walk_at "p"
    refine ite_d (fun y => ?_) (fun y => ?_)
    ·rw [e1, if_pos (by unfold Vbpoac.OLD; omega)] at q
     walk_at "p"
     exact q
    ·rw [e1, if_neg (by unfold Vbpoac.OLD; omega)] at q
     walk_at "p"
     exact q
  | some d =>
   rw [hs] at q rest
   refine ite_nd (fun _ => ?_) (fun z => by cases z)
   walk_at "p"
   refine T.rMeter hm ?_
   rw [hs, show optV (some d) = V.int (d : Int) from rfl]
   walk_at "p"
   refine ⟨l, i, rfl, hl, ?_⟩
   walk_at "p"
   refine ite_d (fun z5 => ?_) (fun z5 => ?_)
   ·have e5 : byDays D.day (some d) i = 5 := by
     unfold byDays
     rw [if_pos (by show decide (d < i.day) = true; rw [decide_eq_true_eq]; omega)]
    rw [e5] at q
    walk_at "p"
    exact q
   ·have e1 := rest (by show decide (d < i.day) = false; rw [decide_eq_false_iff_not]; omega)
    walk_at "p"
    refine ⟨l, i, rfl, hl, ?_⟩
    walk_at "p"
    refine T.rWorld hw ?_
    walk_at "p"
    refine ite_d (fun z => ?_) (fun z => ?_)
    ·rw [e1, if_pos (by omega)] at q
     walk_at "p"
     exact q
    ·rw [if_neg (by omega)] at e1
     walk_at "p"
     refine ⟨D, l, i, rfl, hW, hl, ?_⟩
     walk_at "p"
     refine ite_d (fun y => ?_) (fun y => ?_)
     ·rw [e1, if_pos (by unfold Vbpoac.OLD; omega)] at q
      walk_at "p"
      exact q
     ·rw [e1, if_neg (by unfold Vbpoac.OLD; omega)] at q
      walk_at "p"
      exact q
noncomputable def byUse (D : DS) (i : Vbpoac.Imprint) : Nat := if D.seen.contains (i.meter, i.piece) = true then 8 else if D.spoiled.contains (i.meter, i.piece) = true then 9 else 1
theorem rd_dinT {H : Hp} {Q : VK} {a t : Addr} {l : List (Nat × Nat)} {i : Vbpoac.Imprint} (h : H a = some (.dT (pkV l))) (ht : H t = some (.tup (pairV i))) (q : Q (.bl (l.contains (i.meter, i.piece))) H) : rdDIn (.ref t) (.ref a) H Q := by
 refine ⟨a, _, rfl, DGet.t (k := [Sum.inl (i.meter : Int), Sum.inl (i.piece : Int)]) h ht, ?_⟩
 rw [val_pk]; exact q
theorem rd_dputT {H : Hp} {R : Hp → Prop} {a t : Addr} {l : List (Nat × Nat)} {i : Vbpoac.Imprint} (h : H a = some (.dT (pkV l))) (ht : H t = some (.tup (pairV i))) (hl : l.length < sizeLine) (hn : l.contains (i.meter, i.piece) = false) (q : ∀ H1, H1 a = some (.dT (pkV (l ++ [(i.meter, i.piece)]))) → (∀ b, b ≠ a → H1 b = H b) → R H1) : rdDPut (.ref a) (.ref t) (.bl true) H R :=
 ⟨a, _, rfl, DPut.t (k := [Sum.inl (i.meter : Int), Sum.inl (i.piece : Int)]) h ht (by unfold pkV; rw [List.length_map]; exact hl), q _ (by rw [upd_same, put_pk hn]) fun b hb => upd_ne hb⟩
noncomputable def spx3c (A : Adr) : Sp := fun vs H Q _ => ∃ (D : DS) (l : Addr) (i : Vbpoac.Imprint), vs = [.ref D.w, .ref l] ∧ WAt A H D ∧ H l = some (.lst (impV i)) ∧ ∀ H', Same H H' → Q (.int (byUse D i : Nat)) H'
theorem cx3c (P : Program) (w : World) (base : Heap) (T : Txt K mg A) : Cal P w K mg base 2 "verdict_by_use" ["world", "imprint"] (spx3c A) := by
 have Cx37 := cx37 P w base T
 obtain ⟨f, fd, F, hm, b⟩ := T.fx3c
 refine ⟨f, fd, F.ok (k := 1) scx3c (fun vs H Q E h => ?_) (fun cdv A' outer s H vs Q E hr h => ?_), hm, F.kp, b⟩
 ·obtain ⟨_, _, _, rfl, _⟩ := h
  rfl
 ·obtain ⟨D, l, i, rfl, h⟩ := h
  refine ⟨_, (pss_cons (ps_if (pt_cmp (pc_din (hu_of hr) (pcl Cx37 hr rfl (pa_cons (pv 1) pa_nil)) (pfl (pv 0)))) (pss_one (ps_ret (pgi T.gx2y))) pss_nil)
   (pss_one (ps_ret (pe_ifExp (pt_cmp (pc_din (hu_of hr) (pcl Cx37 hr rfl (pa_cons (pv 1) pa_nil)) (pfl (pv 0)))) (pgi T.gx2z) (pgi T.gx2r))))), ?_⟩
  obtain ⟨hW, hl, q⟩ := h
  unfold byUse at q
  walk_at "p"
  refine ⟨l, i, rfl, hl, fun t H1 n1 e1 s1 => ?_⟩
  have hW1 := hW.same s1
  obtain ⟨dw1, hw1⟩ := hW1.wo
  walk_at "p"
  refine T.rWorld hw1 ?_
  refine rd_dinT hW1.sdo e1 ?_
  walk_at "p"
  refine ite_b (fun z => ?_) (fun z => ?_)
  ·have := q H1 s1
   rw [if_pos z] at this
   walk_at "p"
   exact this
  ·rw [if_neg (by rw [z]; exact Bool.false_ne_true)] at q
   walk_at "p"
   refine ⟨l, i, rfl, s1 _ _ hl, fun t2 H2 n2 e2 s2 => ?_⟩
   have hW2 := hW1.same s2
   obtain ⟨dw2, hw2⟩ := hW2.wo
   have q2 := q H2 (s1.trans s2)
   walk_at "p"
   refine T.rWorld hw2 ?_
   refine rd_dinT hW2.bdo e2 ?_
   walk_at "p"
   refine ite_b (fun y => ?_) (fun y => ?_)
   ·rw [if_pos y] at q2
    walk_at "p"
    exact q2
   ·rw [if_neg (by rw [y]; exact Bool.false_ne_true)] at q2
    walk_at "p"
    exact q2
theorem ever_at (D : DS) (n : Nat) : (everM D (n : Int) = none ∧ Vbpoac.meterAt D.st n = none) ∨ ∃ k x, n = k + 1 ∧ D.meters[k]? = some x ∧ everM D (n : Int) = some x ∧ Vbpoac.meterAt D.st n = some x.m := by
 cases n with
 | zero => exact .inl ⟨by unfold everM; rw [if_neg (by omega)], rfl⟩
 | succ k =>
  have e1 : Vbpoac.meterAt D.st (k + 1) = (D.meters[k]?).map (·.m) := by
   show (D.meters.map (·.m))[_]? = _
   rw [List.getElem?_map]; rfl
  have e2 : (((k + 1 : Nat) : Int) - 1).toNat = k := by omega
  cases hx : D.meters[k]? with
  | none =>
   refine .inl ⟨?_, by rw [e1, hx]; rfl⟩
   unfold everM
   rw [e2, hx]
   simp
  | some x =>
   have hlt : k < D.meters.length := (List.getElem?_eq_some_iff.mp hx).1
   refine .inr ⟨k, x, rfl, hx, ?_, by rw [e1, hx]; rfl⟩
   unfold everM
   rw [if_pos ⟨by omega, by omega⟩, e2, hx]
noncomputable def ImpAt (H : Hp) (v : V) : Option Vbpoac.Imprint → Prop
 | none => v = .non
 | some i => ∃ l, v = .ref l ∧ H l = some (.lst (impV i))
theorem ImpAt.same {H H' : Hp} {v : V} {o : Option Vbpoac.Imprint} (h : ImpAt H v o) (s : Same H H') : ImpAt H' v o := by
 cases o with
 | none => exact h
 | some i => obtain ⟨l, e, g⟩ := h; exact ⟨l, e, s _ _ g⟩
noncomputable def spx3d (A : Adr) : Sp := fun vs H Q _ => ∃ (D : DS) (v : V) (o : Option Vbpoac.Imprint), vs = [.ref D.w, v] ∧ WAt A H D ∧ ImpAt H v o ∧ ∀ H', Same H H' → Q (.int (verd D.st o : Nat)) H'
theorem verd_some {D : DS} {i : Vbpoac.Imprint} {x : DM} (h : Vbpoac.meterAt D.st i.meter = some x.m) : verd D.st (some i) = if i.code ≠ Vbpoac.codeOf x.m.key [3, i.meter, i.piece, i.value, i.day] then 4 else if byDays D.day x.m.stopped i = 1 then byUse D i else byDays D.day x.m.stopped i := by
 unfold verd byDays byUse
 simp only [h]
 by_cases h4 : i.code ≠ Vbpoac.codeOf x.m.key [3, i.meter, i.piece, i.value, i.day]
 ·rw [if_pos h4, if_pos h4]
 ·rw [if_neg h4, if_neg h4]
  by_cases h5 : (match x.m.stopped with
   | some d => decide (d < i.day)
   | none => false) = true
  ·rw [if_pos h5, if_pos h5, if_neg (by decide)]
  ·rw [if_neg h5, if_neg h5]
   by_cases h6 : D.day < i.day
   ·rw [if_pos (show D.st.day < i.day from h6), if_pos h6, if_neg (by decide)]
   ·rw [if_neg (show ¬ D.st.day < i.day from h6), if_neg h6]
    by_cases h7 : i.day + Vbpoac.OLD < D.day
    ·rw [if_pos (show i.day + Vbpoac.OLD < D.st.day from h7), if_pos h7, if_neg (by decide)]
    ·rw [if_neg (show ¬ i.day + Vbpoac.OLD < D.st.day from h7), if_neg h7, if_pos rfl]
     rfl
theorem cx3d (P : Program) (w : World) (base : Heap) (T : Txt K mg A) : Cal P w K mg base 4 "verdict" ["world", "imprint"] (spx3d A) := by
 have Mx21 := cx21 P w base T
 have Cx2q := cx2q P w base T
 have Cx36 := cx36 P w base T
 have Cx3b := cx3b P w base T
 have Cx3c := cx3c P w base T
 obtain ⟨f, fd, F, hm, b⟩ := T.fx3d
 refine ⟨f, fd, F.ok (k := 3) scx3d (fun vs H Q E h => ?_) (fun cdv A' outer s H vs Q E hr h => ?_), hm, F.kp, b⟩
 ·obtain ⟨_, _, _, rfl, _⟩ := h
  rfl
 ·obtain ⟨D, v, o, rfl, h⟩ := h
  refine ⟨_, (pss_cons (ps_if (pt_cmp (pc_isN (pv 1))) (pss_one (ps_ret (pgi T.gx2s))) pss_nil)
   (pss_cons (pst 2 scx3d.nd (pmt (pv 0) T.clx1y Mx21 hr (pa_cons (pcl Cx36 hr rfl (pa_cons (pv 1) pa_nil)) pa_nil)))
   (pss_cons (ps_if (pt_cmp (pc_isN (pv 2))) (pss_one (ps_ret (pgi T.gx2t))) pss_nil)
   (pss_cons (ps_if (pt_not (ptt (pcl Cx2q hr rfl (pa_cons (pgi T.gx2n) (pa_cons (pv 1) (pa_cons (pfl (pv 2)) pa_nil)))))) (pss_one (ps_ret (pgi T.gx2u))) pss_nil)
   (pss_cons (pst 3 scx3d.nd (pcl Cx3b hr rfl (pa_cons (pv 0) (pa_cons (pv 2) (pa_cons (pv 1) pa_nil)))))
   (pss_one (ps_ret (pe_ifExp (pt_cmpR op_eq (pv 3) (pgi T.gx2r) (nomark _)) (pcl Cx3c hr rfl (pa_cons (pv 0) (pa_cons (pv 1) pa_nil))) (pv 3))))))))), ?_⟩
  obtain ⟨hW, hI, q⟩ := h
  obtain ⟨dw, hw⟩ := hW.wo
  walk_at "p"
  cases o with
  | none =>
   cases (show v = .non from hI)
   refine ite_d (fun _ => ?_) (fun z => absurd rfl z)
   walk_at "p"
   exact q H (Same.refl H)
  | some i =>
   obtain ⟨l, rfl, hl⟩ := hI
   refine ite_d (fun z => by cases z) (fun _ => ?_)
   walk_at "p"
   refine rd_met hw rfl ?_
   walk_at "p"
   refine ⟨l, i, rfl, hl, ?_⟩
   walk_at "p"
   refine ⟨D, (i.meter : Int), rfl, hW, ?_⟩
   walk_at "p"
   rcases ever_at D i.meter with ⟨ee, em⟩ | ⟨k, x, hk, hx, ee, em⟩
   ·rw [ee]
    refine ite_d (fun _ => ?_) (fun z => absurd rfl z)
    walk_at "p"
    have e : verd D.st (some i) = 3 := by unfold verd; simp only [em]
    have := q H (Same.refl H)
    rw [e] at this; exact this
   ·rw [ee]
    have ev := verd_some em
    rw [ev] at q
    obtain ⟨⟨dx, hm⟩, _⟩ := hW.mo hx
    refine ite_d (fun z => by cases z) (fun _ => ?_)
    walk_at "p"
    refine T.rMeter hm ?_
    walk_at "p"
    refine ⟨3, l, [(i.meter : Int), (i.piece : Int), (i.value : Int), (i.day : Int)], (i.code : Int), (x.m.key : Int), rfl, hl, (by show 4 < 1000; decide), fun H1 s1 => ?_⟩
    have ec : codeI (x.m.key : Int) [3, (i.meter : Int), (i.piece : Int), (i.value : Int), (i.day : Int)] = ((Vbpoac.codeOf x.m.key [3, i.meter, i.piece, i.value, i.day] : Nat) : Int) := code_eq x.m.key [3, i.meter, i.piece, i.value, i.day]
    rw [ec]
    have hW1 := hW.same s1
    walk_at "p"
    refine ite_nd (fun hcd => ?_) (fun hcd => ?_)
    ·walk_at "p"
     have := q H1 s1
     rw [if_pos (by omega)] at this
     exact this
    ·rw [if_neg (by omega)] at q
     walk_at "p"
     refine ⟨D, k, x, l, i, rfl, hW1, hx, s1 _ _ hl, ?_⟩
     walk_at "p"
     refine ite_d (fun z => ?_) (fun z => ?_)
     ·walk_at "p"
      refine ⟨D, l, i, rfl, hW1, s1 _ _ hl, fun H2 s2 => ?_⟩
      have := q H2 (s1.trans s2)
      rw [if_pos (by omega)] at this
      exact this
     ·walk_at "p"
      have := q H1 s1
      rw [if_neg (by omega)] at this
      exact this
theorem read_bytes {A : Adr} {H : Hp} {Q : VK} {l : Addr} {b : Vbpoac.Bytes} {E : XK} (hl : H l = some (.lst (intsV (natsB b)))) (hz : b.length ≤ 1000) (q : ∀ v H', Same H H' → ImpAt H' v (Vbpoac.readImprint b) → (∀ p, v = .ref p → H p = none) → Q v H') : spx1b A [.ref l] H Q E := by
 have e := readI_eq b
 refine ⟨l, natsB b, rfl, hl, by rw [natsB_len]; exact hz, fun H' s' hn => ?_, fun p H' five hp g s' hs => ?_⟩
 ·rw [hn] at e
  have e0 : Vbpoac.readImprint b = none := by
   cases h : Vbpoac.readImprint b with
   | none => rfl
   | some i => rw [h] at e; cases e
  exact q .non H' s' (by rw [e0]; rfl) (fun p z => by cases z)
 ·rw [hs] at e
  cases h : Vbpoac.readImprint b with
  | none => rw [h] at e; cases e
  | some i =>
   rw [h] at e
   have ef : fiveOf i = five := Option.some.inj e
   refine q (.ref p) H' s' ?_ (fun p' z => by cases z; exact hp)
   rw [h]
   exact ⟨p, rfl, by rw [g, ← ef]; rfl⟩
theorem step_scan (S : Vbpoac.State) (b : Vbpoac.Bytes) : Vbpoac.step S (.scan b) = if Vbpoac.inText b = false then Vbpoac.no S 1 else (match (verd S (Vbpoac.readImprint b), Vbpoac.readImprint b) with
   | (1, some i) => Vbpoac.yes { S with seen := S.seen ++ [(i.meter, i.piece)] } 1 [Vbpoac.ints [i.value]]
   | (j, _) => Vbpoac.yes S j [[]]) := by
 rw [← judged_eq]; rfl
theorem step_judge (S : Vbpoac.State) (b : Vbpoac.Bytes) : Vbpoac.step S (.judge b) = if Vbpoac.inText b = false then Vbpoac.no S 1 else Vbpoac.yes S (verd S (Vbpoac.readImprint b)) [(match Vbpoac.readImprint b with
   | some i => Vbpoac.ints [i.meter, i.piece, i.value, i.day, i.code]
   | none => [])] := by
 have e := judged_eq S b
 have e1 : (Vbpoac.judged S b).1 = verd S (Vbpoac.readImprint b) := by rw [e]
 have e2 : (Vbpoac.judged S b).2 = Vbpoac.readImprint b := by rw [e]
 rw [← e1, ← e2]; rfl
theorem inText_iff (b : Vbpoac.Bytes) : Vbpoac.inText b = false ↔ 200 < b.length := by
 unfold Vbpoac.inText
 rw [decide_eq_false_iff_not]; omega
theorem verd_one {D : DS} {o : Option Vbpoac.Imprint} (h : verd D.st o = 1) : ∃ i, o = some i ∧ D.seen.contains (i.meter, i.piece) = false ∧ D.spoiled.contains (i.meter, i.piece) = false := by
 cases o with
 | none => exact absurd h (by show ¬ 2 = 1; decide)
 | some i =>
  refine ⟨i, rfl, ?_⟩
  rcases ever_at D i.meter with ⟨_, em⟩ | ⟨k, x, _, _, _, em⟩
  ·unfold verd at h
   simp only [em] at h
   cases h
  ·rw [verd_some em] at h
   by_cases h4 : i.code ≠ Vbpoac.codeOf x.m.key [3, i.meter, i.piece, i.value, i.day]
   ·rw [if_pos h4] at h; cases h
   ·rw [if_neg h4] at h
    by_cases h1 : byDays D.day x.m.stopped i = 1
    ·rw [if_pos h1] at h
     unfold byUse at h
     by_cases h8 : D.seen.contains (i.meter, i.piece) = true
     ·rw [if_pos h8] at h; cases h
     ·rw [if_neg h8] at h
      by_cases h9 : D.spoiled.contains (i.meter, i.piece) = true
      ·rw [if_pos h9] at h; cases h
      ·exact ⟨Bool.eq_false_iff.mpr h8, Bool.eq_false_iff.mpr h9⟩
    ·rw [if_neg h1] at h
     exact absurd h h1
noncomputable def spT1 (A : Adr) (call : Vbpoac.Bytes → Vbpoac.Call) : Sp := fun vs H Q _ => ∃ (c : Nat) (D : DS) (l : Addr) (b : Vbpoac.Bytes), vs = [.ref D.w, .ref l] ∧ H l = some (.lst (intsV (natsB b))) ∧ b.length ≤ 1000 ∧ Goes A H Q c D (call b)
noncomputable abbrev spx3e (A : Adr) : Sp := spT1 A .scan
theorem scan_else {S : Vbpoac.State} {o : Option Vbpoac.Imprint} {n : Nat} (h : n ≠ 1) : (match (n, o) with
   | (1, some i) => Vbpoac.yes { S with seen := S.seen ++ [(i.meter, i.piece)] } 1 [Vbpoac.ints [i.value]]
   | (j, _) => Vbpoac.yes S j [[]]) = Vbpoac.yes S n [[]] := by
 split
 ·rename_i e
  injection e with e1 e2
  exact absurd e1 h
 ·rename_i e
  injection e with e1 e2
  rw [e1]
theorem cx3e (P : Program) (w : World) (base : Heap) (T : Txt K mg A) : Cal P w K mg base 5 "scan" ["world", "text"] (spx3e A) := by
 have Cx37 := cx37 P w base T
 have Cx1b := cx1b P w base T
 have Cx38 := cx38 P w base T
 have Cx3d := cx3d P w base T
 have Cxl := cxl P w base T
 obtain ⟨f, fd, F, hm, b⟩ := T.fx3e
 refine ⟨f, fd, F.ok (k := 4) scx3e (fun vs H Q E h => ?_) (fun cdv A' outer s H vs Q E hr h => ?_), hm, F.kp, b⟩
 ·obtain ⟨_, _, _, _, rfl, _⟩ := h
  rfl
 ·obtain ⟨c, D, l, bb, rfl, h⟩ := h
  refine ⟨_, (pss_cons (ps_if (pt_cmpR op_gt (pe_callB call_len_seq (by rfl) T.b_len (by decide +kernel) (pa_cons (pv 1) pa_nil)) (pgi T.gxm) (nomark _)) (pss_one (ps_ret (pe_lst (pa_cons (pgi T.gxd) pa_nil)))) pss_nil)
   (pss_cons (pst 2 scx3e.nd (pcl Cx1b hr rfl (pa_cons (pv 1) pa_nil)))
   (pss_cons (pst 3 scx3e.nd (pcl Cx3d hr rfl (pa_cons (pv 0) (pa_cons (pv 2) pa_nil))))
   (pss_cons (ps_if (pt_cmpR op_ne (pv 3) (pgi T.gx2r) (nomark _)) (pss_one (ps_ret (pcl Cxl hr rfl (pa_cons (pv 3) (pa_cons (pe_lst (pa_cons (pe_lst pa_nil) pa_nil)) pa_nil))))) pss_nil)
   (pss_cons (ps_dput (hu_of hr) (pfl (pv 0)) (pcl Cx37 hr rfl (pa_cons (pv 2) pa_nil)) pe_bl rfl)
   (pss_one (ps_ret (pcl Cxl hr rfl (pa_cons (pv 3) (pa_cons (pe_lst (pa_cons (pe_lst (pa_cons (pcl Cx38 hr rfl (pa_cons (pv 2) pa_nil)) pa_nil)) pa_nil)) pa_nil)))))))))), ?_⟩
  obtain ⟨hl, hbl, hW, hG, hc, q⟩ := h
  have el : (intsV (natsB bb)).length = bb.length := by unfold intsV; rw [List.length_map, natsB_len]
  walk_at "p"
  refine ⟨l, _, rfl, .inl (SqL.of hl), ?_⟩
  rw [el]
  walk_at "p"
  refine ite_d (fun h2 => ?_) (fun h2 => ?_)
  ·walk_at "p"
   refine nl (fun p H1 hp e1 s1 k1 => q D H1 p ?_)
   exact (Ans.no hW hp e1 s1 k1).mk' ((step_scan _ _).trans (if_pos ((inText_iff bb).mpr (by omega))))
  ·have e0 := (step_scan D.st bb).trans (if_neg (fun z => by have := (inText_iff bb).mp z; omega))
   walk_at "p"
   refine read_bytes hl hbl (fun v H1 s1 hI hfr => ?_)
   have hW1 := hW.same s1
   walk_at "p"
   refine ⟨D, v, _, rfl, hW1, hI, fun H2 s2 => ?_⟩
   have s02 := s1.trans s2
   have hW2 := hW.same s02
   walk_at "p"
   refine ite_nd (fun hn => ?_) (fun hn => ?_)
   ·have e1 := e0.trans (scan_else (by omega))
    walk_at "p"
    refine nl (fun l3 H3 n3 g3 s3 _ => ?_)
    walk_at "p"
    refine nl (fun l4 H4 n4 g4 s4 _ => ?_)
    walk_at "p"
    refine ⟨_, l4, [(l3, [])], rfl, g4, fun r hr' => ?_, (by show 1 < 1000000; decide), fun p H5 hp e5 s5 => ?_⟩
    ·simp only [List.mem_singleton] at hr'
     subst hr'
     exact s4 _ _ g3
    ·have s04 := (s02.trans s3).trans s4
     exact q D H5 p ((Ans.rows (rs := [(l3, [])]) (H1 := H4) (hW.same s04) (Fr.same s04) rfl hp e5 s5 rfl).mk' e1)
   ·have hv1 : verd D.st (Vbpoac.readImprint bb) = 1 := by omega
    obtain ⟨i, ei, hns, hnb⟩ := verd_one hv1
    rw [ei] at hI
    obtain ⟨li, rfl, hli⟩ := hI
    have fli := hfr li rfl
    have e1 : Vbpoac.step D.st (.scan bb) = Vbpoac.yes { D.st with seen := D.st.seen ++ [(i.meter, i.piece)] } 1 [Vbpoac.ints [i.value]] := by
     rw [e0, hv1, ei]
     rfl
    obtain ⟨dw2, hw2⟩ := hW2.wo
    walk_at "p"
    refine T.rWorld hw2 ?_
    walk_at "p"
    refine ⟨li, i, rfl, s2 _ _ hli, fun t3 H3 n3 e3 s3 => ?_⟩
    have hW3 := hW2.same s3
    have hsl : D.seen.length < sizeLine := by
     have h1 : D.seen.length ≤ c := hG.seen
     exact Nat.lt_of_le_of_lt (Nat.le_trans h1 hc) (by decide)
    refine rd_dputT hW3.sdo e3 hsl hns (fun H4 g4 k4 => ?_)
    obtain ⟨w4, f4⟩ := hW3.see (H' := H4) (i.meter, i.piece) g4 fun b u hb hn' => (k4 b hn').trans hb
    have nsd : li ≠ D.sd := fun z => by
     have := hW.sdo
     rw [← z, fli] at this; cases this
    have hli4 : H4 li = some (.lst (impV i)) := (k4 _ nsd).trans (s3 _ _ (s2 _ _ hli))
    walk_at "p"
    refine ⟨li, i, rfl, hli4, ?_⟩
    walk_at "p"
    refine nl (fun l5 H5 n5 g5 s5 _ => ?_)
    walk_at "p"
    refine nl (fun l6 H6 n6 g6 s6 _ => ?_)
    walk_at "p"
    refine ⟨_, l6, [(l5, Vbpoac.ints [i.value])], rfl, g6, fun r hr' => ?_, (by show 2 < 1000000; decide), fun p H7 hp e7 s7 => ?_⟩
    ·simp only [List.mem_singleton] at hr'
     subst hr'
     exact s6 _ _ g5
    ·have s46 := s5.trans s6
     rw [hv1] at e7
     exact q _ H7 p ((Ans.rows (n := 1) (rs := [(l5, Vbpoac.ints [i.value])]) (H1 := H6) (w4.same s46) (((Fr.same (s02.trans s3)).trans f4).trans (Fr.same s46)) rfl hp e7 s7 rfl).mk' e1)
noncomputable abbrev spx3f (A : Adr) : Sp := spT1 A .judge
theorem cx3f (P : Program) (w : World) (base : Heap) (T : Txt K mg A) : Cal P w K mg base 5 "judge" ["world", "text"] (spx3f A) := by
 have Cx1b := cx1b P w base T
 have Cx3d := cx3d P w base T
 have Cxl := cxl P w base T
 obtain ⟨f, fd, F, hm, b⟩ := T.fx3f
 refine ⟨f, fd, F.ok (k := 4) scx3f (fun vs H Q E h => ?_) (fun cdv A' outer s H vs Q E hr h => ?_), hm, F.kp, b⟩
 ·obtain ⟨_, _, _, _, rfl, _⟩ := h
  rfl
 ·obtain ⟨c, D, l, bb, rfl, h⟩ := h
  refine ⟨_, (pss_cons (ps_if (pt_cmpR op_gt (pe_callB call_len_seq (by rfl) T.b_len (by decide +kernel) (pa_cons (pv 1) pa_nil)) (pgi T.gxm) (nomark _)) (pss_one (ps_ret (pe_lst (pa_cons (pgi T.gxd) pa_nil)))) pss_nil)
   (pss_cons (pst 2 scx3f.nd (pcl Cx1b hr rfl (pa_cons (pv 1) pa_nil)))
   (pss_one (ps_ret (pcl Cxl hr rfl (pa_cons (pcl Cx3d hr rfl (pa_cons (pv 0) (pa_cons (pv 2) pa_nil))) (pa_cons (pe_lst (pa_cons (pe_ifExp (pt_cmp (pc_isN (pv 2))) (pe_lst pa_nil) (pv 2)) pa_nil)) pa_nil))))))), ?_⟩
  obtain ⟨hl, hbl, hW, hG, hc, q⟩ := h
  have el : (intsV (natsB bb)).length = bb.length := by unfold intsV; rw [List.length_map, natsB_len]
  walk_at "p"
  refine ⟨l, _, rfl, .inl (SqL.of hl), ?_⟩
  rw [el]
  walk_at "p"
  refine ite_d (fun h2 => ?_) (fun h2 => ?_)
  ·walk_at "p"
   refine nl (fun p H1 hp e1 s1 k1 => q D H1 p ?_)
   exact (Ans.no hW hp e1 s1 k1).mk' ((step_judge _ _).trans (if_pos ((inText_iff bb).mpr (by omega))))
  ·have e0 := (step_judge D.st bb).trans (if_neg (fun z => by have := (inText_iff bb).mp z; omega))
   walk_at "p"
   refine read_bytes hl hbl (fun v H1 s1 hI hfr => ?_)
   have hW1 := hW.same s1
   walk_at "p"
   refine ⟨D, v, _, rfl, hW1, hI, fun H2 s2 => ?_⟩
   have s02 := s1.trans s2
   have hI2 := hI.same s2
   walk_at "p"
   cases ho : Vbpoac.readImprint bb with
   | none =>
    rw [ho] at hI2 e0
    cases (show v = .non from hI2)
    refine ite_d (fun _ => ?_) (fun z => absurd rfl z)
    walk_at "p"
    refine nl (fun l3 H3 n3 g3 s3 _ => ?_)
    walk_at "p"
    refine nl (fun l4 H4 n4 g4 s4 _ => ?_)
    walk_at "p"
    refine ⟨_, l4, [(l3, [])], rfl, g4, fun r hr' => ?_, (by show 1 < 1000000; decide), fun p H5 hp e5 s5 => ?_⟩
    ·simp only [List.mem_singleton] at hr'
     subst hr'
     exact s4 _ _ g3
    ·have s04 := (s02.trans s3).trans s4
     exact q D H5 p ((Ans.rows (rs := [(l3, [])]) (H1 := H4) (hW.same s04) (Fr.same s04) rfl hp e5 s5 rfl).mk' e0)
   | some i =>
    rw [ho] at hI2 e0
    obtain ⟨li, rfl, hli⟩ := hI2
    refine ite_d (fun z => by cases z) (fun _ => ?_)
    walk_at "p"
    refine nl (fun l4 H4 n4 g4 s4 _ => ?_)
    walk_at "p"
    refine ⟨_, l4, [(li, Vbpoac.ints (fiveOf i))], rfl, g4, fun r hr' => ?_, (by show 6 < 1000000; decide), fun p H5 hp e5 s5 => ?_⟩
    ·simp only [List.mem_singleton] at hr'
     subst hr'
     exact s4 _ _ hli
    ·have s04 := s02.trans s4
     exact q D H5 p ((Ans.rows (rs := [(li, Vbpoac.ints (fiveOf i))]) (H1 := H4) (hW.same s04) (Fr.same s04) rfl hp e5 s5 rfl).mk' e0)
noncomputable def spx3g (A : Adr) : Sp := fun vs H Q _ => ∃ (D : DS) (a : Int) (l : Addr) (i : Vbpoac.Imprint), vs = [.ref D.w, .int a, .ref l] ∧ WAt A H D ∧ H l = some (.lst (impV i)) ∧ (1 ≤ a ∧ a ≤ 10) ∧ Q (.bl ((Vbpoac.meterAt D.st i.meter).any fun x => x.account == a.toNat)) H
theorem cx3g (P : Program) (w : World) (base : Heap) (T : Txt K mg A) : Cal P w K mg base 2 "is_of_account" ["world", "account", "imprint"] (spx3g A) := by
 have Mx21 := cx21 P w base T
 have Cx36 := cx36 P w base T
 obtain ⟨f, fd, F, hm, b⟩ := T.fx3g
 refine ⟨f, fd, F.ok (k := 1) scx3g (fun vs H Q E h => ?_) (fun cdv A' outer s H vs Q E hr h => ?_), hm, F.kp, b⟩
 ·obtain ⟨_, _, _, _, rfl, _⟩ := h
  rfl
 ·obtain ⟨D, a, l, i, rfl, h⟩ := h
  refine ⟨_, (pss_cons (pst 3 scx3g.nd (pmt (pv 0) T.clx1y Mx21 hr (pa_cons (pcl Cx36 hr rfl (pa_cons (pv 2) pa_nil)) pa_nil)))
   (pss_one (ps_ret (pe_and (pe_cmp (pc_notN (pv 3))) (pe_one (pe_cmpR op_eq (pfl (pv 3)) (pv 1) (nomark _))))))), ?_⟩
  obtain ⟨hW, hl, ha, q⟩ := h
  obtain ⟨dw, hw⟩ := hW.wo
  walk_at "p"
  refine rd_met hw rfl ?_
  walk_at "p"
  refine ⟨l, i, rfl, hl, ?_⟩
  walk_at "p"
  refine ⟨D, (i.meter : Int), rfl, hW, ?_⟩
  walk_at "p"
  rcases ever_at D i.meter with ⟨ee, em⟩ | ⟨k, x, hk, hx, ee, em⟩
  ·rw [ee]
   rw [em] at q
   refine ite_nd (fun z => absurd rfl z) (fun _ => ?_)
   exact q
  ·rw [ee]
   rw [em] at q
   obtain ⟨⟨dx, hm⟩, _⟩ := hW.mo hx
   refine ite_nd (fun _ => ?_) (fun z => by cases z)
   walk_at "p"
   refine T.rMeter hm ?_
   walk_at "p"
   have e : decide ((x.m.account : Int) = a) = (Option.some x.m).any fun x => x.account == a.toNat := by
    show decide ((x.m.account : Int) = a) = (x.m.account == a.toNat)
    by_cases z : x.m.account = a.toNat
    ·rw [z, beq_self_eq_true, decide_eq_true (by omega)]
    ·rw [beq_eq_false_iff_ne.mpr z, decide_eq_false (by omega)]
   rw [e]; exact q
noncomputable def backOk (D : DS) (i : Vbpoac.Imprint) : Bool := decide (¬ (¬ (verd D.st (some i) = 1 ∨ verd D.st (some i) = 7) ∨ i.day + Vbpoac.SPOIL < D.day ∨ D.seen.contains (i.meter, i.piece) = true ∨ D.spoiled.contains (i.meter, i.piece) = true))
noncomputable def spx3h (A : Adr) : Sp := fun vs H Q _ => ∃ (D : DS) (l : Addr) (i : Vbpoac.Imprint), vs = [.ref D.w, .ref l] ∧ WAt A H D ∧ H l = some (.lst (impV i)) ∧ ∀ H', Same H H' → Q (.bl (backOk D i)) H'
theorem cx3h (P : Program) (w : World) (base : Heap) (T : Txt K mg A) : Cal P w K mg base 5 "can_be_given_back" ["world", "imprint"] (spx3h A) := by
 have Cx3a := cx3a P w base T
 have Cx3d := cx3d P w base T
 have Cx3c := cx3c P w base T
 obtain ⟨f, fd, F, hm, b⟩ := T.fx3h
 refine ⟨f, fd, F.ok (k := 4) scx3h (fun vs H Q E h => ?_) (fun cdv A' outer s H vs Q E hr h => ?_), hm, F.kp, b⟩
 ·obtain ⟨_, _, _, rfl, _⟩ := h
  rfl
 ·obtain ⟨D, l, i, rfl, h⟩ := h
  refine ⟨_, (pss_cons (ps_if (PW.pt (pw_or (pt_cmpR op_notIn_seq (pcl Cx3d hr rfl (pa_cons (pv 0) (pa_cons (pv 1) pa_nil))) (pe_tup (pa_cons (pgi T.gx2r) (pa_cons (pgi T.gx2x) pa_nil))) (by with_unfolding_all rfl)) (pw_or1 (pt_cmpR op_gt (pcl Cx3a hr rfl (pa_cons (pv 0) (pa_cons (pv 1) pa_nil))) (pgi T.gx31) (nomark _))))) (pss_one (ps_ret pe_bl)) pss_nil)
   (pss_one (ps_ret (pe_cmpR op_eq (pcl Cx3c hr rfl (pa_cons (pv 0) (pa_cons (pv 1) pa_nil))) (pgi T.gx2r) (nomark _))))), ?_⟩
  obtain ⟨hW, hl, q⟩ := h
  walk_at "p"
  refine ⟨D, .ref l, some i, rfl, hW, ⟨l, rfl, hl⟩, fun H1 s1 => ?_⟩
  have hW1 := hW.same s1
  walk_at "p"
  refine nt (fun t2 H2 n2 e2 s2 _ => ?_)
  have s02 := s1.trans s2
  have hW2 := hW.same s02
  refine rd_ninT (ns := [1, 7]) e2 ?_
  walk_at "p"
  have no_ : ∀ H', Same H H' → (¬ (verd D.st (some i) = 1 ∨ verd D.st (some i) = 7) ∨ i.day + Vbpoac.SPOIL < D.day ∨ D.seen.contains (i.meter, i.piece) = true ∨ D.spoiled.contains (i.meter, i.piece) = true) → Q (.bl false) H' := fun H' s' z => by
   have e : backOk D i = false := by unfold backOk; rw [decide_eq_false (fun y => y z)]
   have := q H' s'
   rw [e] at this; exact this
  refine ite_nd (fun hn => ?_) (fun hn => ?_)
  ·refine iteT ?_
   walk_at "p"
   refine no_ H2 s02 (.inl fun z => hn ?_)
   simp only [List.mem_cons, List.not_mem_nil, or_false]
   omega
  ·have h17 : verd D.st (some i) = 1 ∨ verd D.st (some i) = 7 := by
    simp only [List.mem_cons, List.not_mem_nil, or_false] at hn
    omega
   walk_at "p"
   refine ⟨D, l, i, rfl, hW2, s02 _ _ hl, ?_⟩
   walk_at "p"
   refine ite_d (fun h60 => ?_) (fun h60 => ?_)
   ·walk_at "p"
    exact no_ H2 s02 (.inr (.inl (by unfold Vbpoac.SPOIL; omega)))
   ·walk_at "p"
    refine ⟨D, l, i, rfl, hW2, s02 _ _ hl, fun H3 s3 => ?_⟩
    walk_at "p"
    have e : decide (((byUse D i : Nat) : Int) = 1) = backOk D i := by
     unfold backOk byUse Vbpoac.SPOIL
     by_cases h8 : D.seen.contains (i.meter, i.piece) = true
     ·rw [if_pos h8, decide_eq_false (by omega), decide_eq_false (fun z => z (.inr (.inr (.inl h8))))]
     ·rw [if_neg h8]
      by_cases h9 : D.spoiled.contains (i.meter, i.piece) = true
      ·rw [if_pos h9, decide_eq_false (by omega), decide_eq_false (fun z => z (.inr (.inr (.inr h9))))]
      ·rw [if_neg h9, decide_eq_true (by omega), decide_eq_true]
       rintro (z | z | z | z)
       ·exact z h17
       ·omega
       ·exact h8 z
       ·exact h9 z
    rw [e]
    exact q H3 (s02.trans s3)
noncomputable def spx3i (A : Adr) : Sp := fun vs H Q _ => ∃ v : Nat, vs = [.int v] ∧ Q (.int (Vbpoac.backFor v : Nat)) H
theorem cx3i (P : Program) (w : World) (base : Heap) (T : Txt K mg A) : Cal P w K mg base 1 "less_a_twentieth" ["value"] (spx3i A) := by
 obtain ⟨f, fd, F, hm, b⟩ := T.fx3i
 refine ⟨f, fd, F.ok (k := 0) scx3i (fun vs H Q E h => ?_) (fun cdv A' outer s H vs Q E hr h => ?_), hm, F.kp, b⟩
 ·obtain ⟨_, rfl, _⟩ := h
  rfl
 ·obtain ⟨v, rfl, h⟩ := h
  refine ⟨_, (pss_one (ps_ret (pe_op op_sub (pv 0) (pe_op op_fdiv (pe_op op_add (pv 0) pe_int) pe_int)))), ?_⟩
  have q : Q (.int (Vbpoac.backFor v : Nat)) H := h
  walk_at "p"
  refine i_rI ⟨by decide, by decide⟩ ?_
  walk_at "p"
  have e : (v : Int) - ((v : Int) + 19) / 20 = ((Vbpoac.backFor v : Nat) : Int) := by unfold Vbpoac.backFor; omega
  rw [e]; exact q
end
section
variable {P : Program} {w : World} {K : PySem.W.Frag} {mg : Str → Option Value} {base : Heap} {A : Adr}
theorem step_spoil (S : Vbpoac.State) (a : Int) (b : Vbpoac.Bytes) : Vbpoac.step S (.spoil a b) = if Vbpoac.inText b = false then Vbpoac.no S 1 else Vbpoac.onAccount S a fun n => match Vbpoac.readImprint b with
 | none => Vbpoac.no S 2
 | some i =>
  if (Vbpoac.meterAt S i.meter).any (fun x => x.account == n) = false then Vbpoac.no S 6
  else if ¬(verd S (some i) = 1 ∨ verd S (some i) = 7) ∨ i.day + Vbpoac.SPOIL < S.day ∨ S.seen.contains (i.meter, i.piece) = true ∨ S.spoiled.contains (i.meter, i.piece) = true then Vbpoac.no S 7
  else if (Vbpoac.GREAT : Int) < Vbpoac.balance S n + (Vbpoac.backFor i.value : Int) then Vbpoac.no S 8
  else Vbpoac.yes (Vbpoac.wrote { S with spoiled := S.spoiled ++ [(i.meter, i.piece)] } n 5 (Vbpoac.backFor i.value) i.meter) (Vbpoac.backFor i.value) [] := by
 show (if Vbpoac.inText b = false then Vbpoac.no S 1 else Vbpoac.doSpoil S a b) = _
 congr 1
 unfold Vbpoac.doSpoil
 congr 1
 funext n
 rw [judged_eq]
 cases Vbpoac.readImprint b <;> rfl
noncomputable def spT2 (A : Adr) (call : Int → Vbpoac.Bytes → Vbpoac.Call) : Sp := fun vs H Q _ => ∃ (c : Nat) (D : DS) (a : Int) (l : Addr) (b : Vbpoac.Bytes), vs = [.ref D.w, .int a, .ref l] ∧ H l = some (.lst (intsV (natsB b))) ∧ b.length ≤ 1000 ∧ Goes A H Q c D (call a b)
noncomputable abbrev spx3j (A : Adr) : Sp := spT2 A .spoil
theorem cx3j (P : Program) (w : World) (base : Heap) (T : Txt K mg A) : Cal P w K mg base 6 "spoil" ["world", "account", "text"] (spx3j A) := by
 have Mx23 := cx23 P w base T
 have Mx26 := cx26 P w base T
 have Mx25 := cx25 P w base T
 have Cx3h := cx3h P w base T
 have Cx3g := cx3g P w base T
 have Cx3i := cx3i P w base T
 have Cx36 := cx36 P w base T
 have Cx37 := cx37 P w base T
 have Cx1b := cx1b P w base T
 have Cx38 := cx38 P w base T
 obtain ⟨f, fd, F, hm, b⟩ := T.fx3j
 refine ⟨f, fd, F.ok (k := 5) scx3j (fun vs H Q E h => ?_) (fun cdv A' outer s H vs Q E hr h => ?_), hm, F.kp, b⟩
 ·obtain ⟨_, _, _, _, _, rfl, _⟩ := h
  rfl
 ·obtain ⟨c, D, a, l, bb, rfl, h⟩ := h
  refine ⟨_, (pss_cons (ps_if (pt_cmpR op_gt (pe_callB call_len_seq (by rfl) T.b_len (by decide +kernel) (pa_cons (pv 2) pa_nil)) (pgi T.gxm) (nomark _)) (pss_one (ps_ret (pe_lst (pa_cons (pgi T.gxd) pa_nil)))) pss_nil)
   (pss_cons (pst 3 scx3j.nd (pmt (pv 0) T.clx1y Mx23 hr (pa_cons (pv 1) pa_nil)))
   (pss_cons (ps_if (pt_cmpR op_lt (pv 3) pe_int (nomark _)) (pss_one (ps_ret (pe_lst (pa_cons (pv 3) pa_nil)))) pss_nil)
   (pss_cons (pst 4 scx3j.nd (pcl Cx1b hr rfl (pa_cons (pv 2) pa_nil)))
   (pss_cons (ps_if (pt_cmp (pc_isN (pv 4))) (pss_one (ps_ret (pe_lst (pa_cons (pgi T.gxe) pa_nil)))) pss_nil)
   (pss_cons (ps_if (pt_not (ptt (pcl Cx3g hr rfl (pa_cons (pv 0) (pa_cons (pv 1) (pa_cons (pv 4) pa_nil)))))) (pss_one (ps_ret (pe_lst (pa_cons (pgi T.gxi) pa_nil)))) pss_nil)
   (pss_cons (ps_if (pt_not (ptt (pcl Cx3h hr rfl (pa_cons (pv 0) (pa_cons (pv 4) pa_nil))))) (pss_one (ps_ret (pe_lst (pa_cons (pgi T.gxj) pa_nil)))) pss_nil)
   (pss_cons (pst 5 scx3j.nd (pcl Cx3i hr rfl (pa_cons (pcl Cx38 hr rfl (pa_cons (pv 4) pa_nil)) pa_nil)))
   (pss_cons (ps_if (ptt (pmt (pv 0) T.clx1y Mx25 hr (pa_cons (pv 1) (pa_cons (pv 5) pa_nil)))) (pss_one (ps_ret (pe_lst (pa_cons (pgi T.gxk) pa_nil)))) pss_nil)
   (pss_cons (ps_dput (hu_of hr) (pfl (pv 0)) (pcl Cx37 hr rfl (pa_cons (pv 4) pa_nil)) pe_bl rfl)
   (pss_cons (ps_expr (pmt (pv 0) T.clx1y Mx26 hr (pa_cons (pv 1) (pa_cons (pgi T.gx4) (pa_cons (pv 5) (pa_cons (pcl Cx36 hr rfl (pa_cons (pv 4) pa_nil)) pa_nil))))))
   (pss_one (ps_ret (pe_lst (pa_cons (pv 5) pa_nil))))))))))))))), ?_⟩
  obtain ⟨hl, hbl, hW, hG, hc, q⟩ := h
  obtain ⟨dw, hw⟩ := hW.wo
  have hz := jlen hG hc
  have el : (intsV (natsB bb)).length = bb.length := by unfold intsV; rw [List.length_map, natsB_len]
  walk_at "p"
  refine ⟨l, _, rfl, .inl (SqL.of hl), ?_⟩
  rw [el]
  walk_at "p"
  refine ite_d (fun h2 => ?_) (fun h2 => ?_)
  ·walk_at "p"
   refine nl (fun p H1 hp e1 s1 k1 => q D H1 p ?_)
   exact (Ans.no hW hp e1 s1 k1).mk' ((step_spoil _ _ _).trans (if_pos ((inText_iff bb).mpr (by omega))))
  ·have e0 := (step_spoil D.st a bb).trans (if_neg (fun z => by have := (inText_iff bb).mp z; omega))
   walk_at "p"
   refine rd_met hw rfl ?_
   walk_at "p"
   refine ⟨D, a, rfl, hW, ?_⟩
   walk_at "p"
   rcases accRef_cases D a with ⟨er, es⟩ | ⟨er, es⟩ | ⟨er, ha, es⟩
   ·refine ite_d (fun _ => ?_) (fun z => absurd (show accRef D a < 0 by omega) z)
    walk_at "p"
    refine nl (fun p H1 hp e1 s1 k1 => q D H1 p ?_)
    rw [er] at e1
    exact (Ans.no hW hp e1 s1 k1).mk' (e0.trans (es _))
   ·refine ite_d (fun _ => ?_) (fun z => absurd (show accRef D a < 0 by omega) z)
    walk_at "p"
    refine nl (fun p H1 hp e1 s1 k1 => q D H1 p ?_)
    rw [er] at e1
    exact (Ans.no hW hp e1 s1 k1).mk' (e0.trans (es _))
   ·refine ite_d (fun z => absurd z (show ¬ accRef D a < 0 by omega)) (fun _ => ?_)
    have e1 := e0.trans (es _)
    have no_ : ∀ {H1 : Hp} {p : Addr} {H2 : Hp} {k : Nat}, Same H H1 → Vbpoac.step D.st (.spoil a bb) = Vbpoac.no D.st k → H1 p = none → H2 p = some (.lst [.int (-(k : Int))]) → Same H1 H2 → (∀ b, b ≠ p → H2 b = H1 b) → Q (.ref p) H2 := fun {H1 p H2 k} s1 es hp e2 s2 k2 =>
     q D H2 p ((Ans.since s1 (Ans.no (hW.same s1) hp e2 s2 k2)).mk' es)
    walk_at "p"
    refine read_bytes hl hbl (fun v H1 s1 hI hfr => ?_)
    have hW1 := hW.same s1
    walk_at "p"
    cases ho : Vbpoac.readImprint bb with
    | none =>
     rw [ho] at hI e1
     cases (show v = .non from hI)
     refine ite_d (fun _ => ?_) (fun z => absurd rfl z)
     walk_at "p"
     exact nl (fun p H2 hp e2 s2 k2 => no_ (k := 2) s1 e1 hp e2 s2 k2)
    | some i =>
     rw [ho] at hI e1
     obtain ⟨li, rfl, hli⟩ := hI
     have fli := hfr li rfl
     refine ite_d (fun z => by cases z) (fun _ => ?_)
     walk_at "p"
     refine ⟨D, a, li, i, rfl, hW1, hli, ha, ?_⟩
     walk_at "p"
     refine ite_nb (fun h6 => ?_) (fun h6 => ?_)
     ·walk_at "p"
      exact nl (fun p H2 hp e2 s2 k2 => no_ (k := 6) s1 (e1.trans (if_pos h6)) hp e2 s2 k2)
     ·have e2 := e1.trans (if_neg (by rw [h6]; exact Bool.false_ne_true.symm))
      walk_at "p"
      refine ⟨D, li, i, rfl, hW1, hli, fun H2 s2 => ?_⟩
      have s02 := s1.trans s2
      have hW2 := hW.same s02
      obtain ⟨dw2, hw2⟩ := hW2.wo
      walk_at "p"
      refine ite_nb (fun h7 => ?_) (fun h7 => ?_)
      ·have c7 := of_decide_eq_false h7
       walk_at "p"
       exact nl (fun p H3 hp e3 s3 k3 => no_ (k := 7) s02 (e2.trans (if_pos (Classical.byContradiction c7))) hp e3 s3 k3)
      ·have c7 := of_decide_eq_true h7
       have e3 := e2.trans (if_neg c7)
       have hnb : D.spoiled.contains (i.meter, i.piece) = false := Bool.eq_false_iff.mpr fun z => c7 (.inr (.inr (.inr z)))
       walk_at "p"
       refine ⟨li, i, rfl, s2 _ _ hli, ?_⟩
       walk_at "p"
       refine ⟨i.value, rfl, ?_⟩
       walk_at "p"
       refine rd_met hw2 rfl ?_
       walk_at "p"
       refine ⟨D, a, (Vbpoac.backFor i.value : Nat), rfl, hW2, hz, fun H3 s3 => ?_⟩
       have s03 := s02.trans s3
       have hW3 := hW.same s03
       obtain ⟨dw3, hw3⟩ := hW3.wo
       rw [← bal_eq' D ha]
       walk_at "p"
       refine ite_d (fun n8 => ?_) (fun n8 => ?_)
       ·walk_at "p"
        exact nl (fun p H4 hp e4 s4 k4 => no_ (k := 8) s03 (e3.trans (if_pos n8)) hp e4 s4 k4)
       ·have e4 := e3.trans (if_neg n8)
        have hli3 := s3 _ _ (s2 _ _ hli)
        walk_at "p"
        refine T.rWorld hw3 ?_
        walk_at "p"
        refine ⟨li, i, rfl, hli3, fun t4 H4 n4 g4 s4 => ?_⟩
        have hW4 := hW3.same s4
        have hsl : D.spoiled.length < sizeLine := by
         have h1 : D.spoiled.length ≤ c := hG.spoiled
         exact Nat.lt_of_le_of_lt (Nat.le_trans h1 hc) (by decide)
        refine rd_dputT hW4.bdo g4 hsl hnb (fun H5 g5 k5 => ?_)
        obtain ⟨w5, f5⟩ := hW4.giveBack (H' := H5) (i.meter, i.piece) g5 fun b u hb hn' => (k5 b hn').trans hb
        obtain ⟨dw5, hw5⟩ := w5.wo
        have nbd : li ≠ D.bd := fun z => by
         have := hW.bdo
         rw [← z, fli] at this; cases this
        have hli5 : H5 li = some (.lst (impV i)) := (k5 _ nbd).trans (s4 _ _ hli3)
        walk_at "p"
        refine rd_met hw5 rfl ?_
        walk_at "p"
        refine ⟨li, i, rfl, hli5, ?_⟩
        walk_at "p"
        have ea : V.int a = V.int (a.toNat : Int) := by congr 1; omega
        refine ⟨_, a.toNat, 5, Vbpoac.backFor i.value, i.meter, by rw [ea]; rfl, w5, hz, fun p6 H6 w6 f6 => ?_⟩
        walk_at "p"
        refine nl (fun p H7 hp e7 s7 k7 => ?_)
        refine q _ H7 p ((Ans.num (n := Vbpoac.backFor i.value) w6 (((Fr.same (s03.trans s4)).trans f5).trans f6) rfl hp e7 s7).mk' (e4.trans ?_))
        congr 1
        unfold Vbpoac.wrote
        simp [DS.st]
noncomputable def spC4 (A : Adr) (call : Int → Int → Int → Int → Vbpoac.Call) : Sp := fun vs H Q _ => ∃ c D a b d e, vs = [.ref D.w, .int a, .int b, .int d, .int e] ∧ Goes A H Q c D (call a b d e)
theorem step_text (S : Vbpoac.State) (m p v d : Int) : Vbpoac.step S (.text m p v d) = if Vbpoac.inside p 1 999999999 = false ∨ Vbpoac.inside v 0 99999999999 = false ∨ Vbpoac.inside d 0 100000 = false then Vbpoac.no S 1 else Vbpoac.onMeter S m fun n x =>
   Vbpoac.yes S 0 [Vbpoac.bytes (Vbpoac.imprintText ⟨n, p.toNat, v.toNat, d.toNat, Vbpoac.codeOf x.key [3, n, p.toNat, v.toNat, d.toNat]⟩)] := rfl
noncomputable abbrev spx3k (A : Adr) : Sp := spC4 A .text
theorem cx3k (P : Program) (w : World) (base : Heap) (T : Txt K mg A) : Cal P w K mg base 5 "write_text" ["world", "number", "piece", "value", "day"] (spx3k A) := by
 have Mx22 := cx22 P w base T
 have Mx24 := cx24 P w base T
 have Cx35 := cx35 P w base T
 have Cxl := cxl P w base T
 obtain ⟨f, fd, F, hm, b⟩ := T.fx3k
 refine ⟨f, fd, F.ok (k := 4) scx3k (fun vs H Q E h => ?_) (fun cdv A' outer s H vs Q E hr h => ?_), hm, F.kp, b⟩
 ·obtain ⟨_, _, _, _, _, _, rfl, _⟩ := h
  rfl
 ·obtain ⟨c, D, m, pc, v, d, rfl, h⟩ := h
  refine ⟨_, (pss_cons (ps_if (PW.pt (pw_or (pt_not (pt_chain op_le op_le pe_int (pv 2) (pgi T.gx32))) (pw_or (pt_not (pt_chain op_le op_le pe_int (pv 3) (pgi T.gx33))) (pw_or1 (pt_not (pt_chain op_le op_le pe_int (pv 4) (pgi T.gx34))))))) (pss_one (ps_ret (pe_lst (pa_cons (pgi T.gxd) pa_nil)))) pss_nil)
   (pss_cons (pst 5 scx3k.nd (pmt (pv 0) T.clx1y Mx24 hr (pa_cons (pv 1) pa_nil)))
   (pss_cons (ps_if (pt_cmpR op_lt (pv 5) pe_int (nomark _)) (pss_one (ps_ret (pe_lst (pa_cons (pv 5) pa_nil)))) pss_nil)
   (pss_one (ps_ret (pcl Cxl hr rfl (pa_cons pe_int (pa_cons (pe_lst (pa_cons (pcl Cx35 hr rfl (pa_cons (pmt (pv 0) T.clx1y Mx22 hr (pa_cons (pv 1) pa_nil)) (pa_cons (pv 2) (pa_cons (pv 3) (pa_cons (pv 4) pa_nil))))) pa_nil)) pa_nil)))))))), ?_⟩
  obtain ⟨hW, hG, hc, q⟩ := h
  obtain ⟨dw, hw⟩ := hW.wo
  have no1 : ¬ ((1 ≤ pc ∧ pc ≤ 999999999) ∧ (0 ≤ v ∧ v ≤ 99999999999) ∧ (0 ≤ d ∧ d ≤ 100000)) → ∀ p H1, H p = none → H1 p = some (.lst [.int (-1)]) → Same H H1 → (∀ b, b ≠ p → H1 b = H b) → Q (.ref p) H1 := fun z p H1 hp e1 s1 k1 => by
   refine q D H1 p ((Ans.no (n := 1) hW hp e1 s1 k1).mk' ((step_text _ _ _ _ _).trans (if_pos ?_)))
   rw [inside_iff, inside_iff, inside_iff]
   omega
  walk_at "p"
  refine ite_out (fun no => ?_) (fun h1 h2 => ?_)
  ·refine iteT ?_
   walk_at "p"
   exact nl (no1 fun z => no z.1)
  ·walk_at "p"
   refine ite_out (fun no => ?_) (fun h3 h4 => ?_)
   ·refine iteT ?_
    walk_at "p"
    exact nl (no1 fun z => no z.2.1)
   ·walk_at "p"
    refine ite_out (fun no => ?_) (fun h5 h6 => ?_)
    ·walk_at "p"
     exact nl (no1 fun z => no z.2.2)
    ·have e0 := (step_text D.st m pc v d).trans (if_neg (by rw [inside_iff, inside_iff, inside_iff]; omega))
     walk_at "p"
     refine rd_met hw rfl ?_
     walk_at "p"
     refine ⟨D, m, rfl, hW, ?_⟩
     walk_at "p"
     rcases metRef_cases D m with ⟨er, es⟩ | ⟨er, es⟩ | ⟨er, i, x, rfl, hx, hg, ef, es⟩
     ·refine ite_d (fun _ => ?_) (fun z => absurd (show metRef D m < 0 by omega) z)
      walk_at "p"
      refine nl (fun p H1 hp e1 s1 k1 => q D H1 p ?_)
      rw [er] at e1
      exact (Ans.no hW hp e1 s1 k1).mk' (e0.trans (es _))
     ·refine ite_d (fun _ => ?_) (fun z => absurd (show metRef D m < 0 by omega) z)
      walk_at "p"
      refine nl (fun p H1 hp e1 s1 k1 => q D H1 p ?_)
      rw [er] at e1
      exact (Ans.no hW hp e1 s1 k1).mk' (e0.trans (es _))
     ·refine ite_d (fun z => absurd z (show ¬ metRef D _ < 0 by omega)) (fun _ => ?_)
      have e1 := e0.trans (es _)
      have hi10 : i < 10 := by
       have := hG.met
       have h2 : D.st.meters.length = D.meters.length := List.length_map _
       have h3 := (List.getElem?_eq_some_iff.mp hx).1
       omega
      have ep : V.int pc = V.int (pc.toNat : Int) := by congr 1; omega
      have ev : V.int v = V.int (v.toNat : Int) := by congr 1; omega
      have ed : V.int d = V.int (d.toNat : Int) := by congr 1; omega
      walk_at "p"
      refine rd_met hw rfl ?_
      walk_at "p"
      refine ⟨D, _, rfl, hW, ?_⟩
      rw [ef]
      walk_at "p"
      refine ⟨D, i, x, pc.toNat, v.toNat, d.toNat, by rw [ep, ev, ed]; rfl, hW, hx, ⟨by omega, by omega, by omega, by omega⟩, fun l3 H3 n3 g3 s3 => ?_⟩
      walk_at "p"
      refine nl (fun l4 H4 n4 g4 s4 _ => ?_)
      walk_at "p"
      have hcl := code_lt x.m.key [3, i + 1, pc.toNat, v.toNat, d.toNat]
      have hrow : Vbpoac.bytes (Vbpoac.imprintText ⟨i + 1, pc.toNat, v.toNat, d.toNat, Vbpoac.codeOf x.m.key [3, i + 1, pc.toNat, v.toNat, d.toNat]⟩) = (impL (i + 1) pc.toNat v.toNat d.toNat (Vbpoac.codeOf x.m.key [3, i + 1, pc.toNat, v.toNat, d.toNat])).map fun (n : Nat) => (n : Int) := by
       rw [bytes_eq, imp_eq _ _ _ _ _ (by omega)]
      have hlen : (Vbpoac.bytes (Vbpoac.imprintText ⟨i + 1, pc.toNat, v.toNat, d.toNat, Vbpoac.codeOf x.m.key [3, i + 1, pc.toNat, v.toNat, d.toNat]⟩)).length < 1000 := by
       rw [hrow, List.length_map]
       have a1 := numL_small (n := i + 1) (by omega)
       have a2 := numL_small (n := pc.toNat) (by omega)
       have a3 := numL_small (n := d.toNat) (by omega)
       have a4 := numL_small (n := Vbpoac.codeOf x.m.key [3, i + 1, pc.toNat, v.toNat, d.toNat]) (by omega)
       have a5 := numL_small (n := v.toNat / 100) (by omega)
       have a6 := numL_small (n := v.toNat % 100) (by omega)
       unfold impL moneyL padL
       simp only [List.length_append, List.length_cons, List.length_replicate]
       omega
      refine ⟨0, l4, [(l3, Vbpoac.bytes (Vbpoac.imprintText ⟨i + 1, pc.toNat, v.toNat, d.toNat, Vbpoac.codeOf x.m.key [3, i + 1, pc.toNat, v.toNat, d.toNat]⟩))], rfl, g4, fun r hr' => ?_, ?_, fun p H5 hp e5 s5 => ?_⟩
      ·simp only [List.mem_singleton] at hr'
       subst hr'
       show H4 l3 = some (.lst ((Vbpoac.bytes _).map V.int))
       rw [hrow, ← intsV_map]
       exact s4 _ _ g3
      ·unfold rowsI
       simp only [List.flatMap_cons, List.flatMap_nil, List.append_nil, List.length_cons]
       omega
      ·have s34 := s3.trans s4
       exact q D H5 p ((Ans.rows (n := 0) (H1 := H4) (hW.same s34) (Fr.same s34) rfl hp e5 s5 rfl).mk' e1)
theorem step_check (S : Vbpoac.State) (b : Vbpoac.Bytes) : Vbpoac.step S (.check b) = if Vbpoac.inText b = false then Vbpoac.no S 1 else (match Vbpoac.readVoucher b with
   | none => Vbpoac.yes S 0 []
   | some n => Vbpoac.yes S 1 [Vbpoac.ints [n]]) := rfl
noncomputable def spx2i (A : Adr) : Sp := fun vs H Q _ => ∃ (c : Nat) (D : DS) (l : Addr) (b : Vbpoac.Bytes), vs = [.ref l] ∧ H l = some (.lst (intsV (natsB b))) ∧ b.length ≤ 1000 ∧ Goes A H Q c D (.check b)
theorem cx2i (P : Program) (w : World) (base : Heap) (T : Txt K mg A) : Cal P w K mg base 4 "check_voucher" ["text"] (spx2i A) := by
 have Cx1e := cx1e P w base T
 have Cxl := cxl P w base T
 obtain ⟨f, fd, F, hm, b⟩ := T.fx2i
 refine ⟨f, fd, F.ok (k := 3) scx2i (fun vs H Q E h => ?_) (fun cdv A' outer s H vs Q E hr h => ?_), hm, F.kp, b⟩
 ·obtain ⟨_, _, _, _, rfl, _⟩ := h
  rfl
 ·obtain ⟨c, D, l, bb, rfl, h⟩ := h
  refine ⟨_, (pss_cons (ps_if (pt_cmpR op_gt (pe_callB call_len_seq (by rfl) T.b_len (by decide +kernel) (pa_cons (pv 0) pa_nil)) (pgi T.gxm) (nomark _)) (pss_one (ps_ret (pe_lst (pa_cons (pgi T.gxd) pa_nil)))) pss_nil)
   (pss_cons (pst 1 scx2i.nd (pcl Cx1e hr rfl (pa_cons (pv 0) pa_nil)))
   (pss_one (ps_ret (pe_ifExp (pt_cmp (pc_isN (pv 1))) (pe_lst (pa_cons pe_int pa_nil)) (pcl Cxl hr rfl (pa_cons pe_int (pa_cons (pe_lst (pa_cons (pe_lst (pa_cons (pv 1) pa_nil)) pa_nil)) pa_nil)))))))), ?_⟩
  obtain ⟨hl, hbl, hW, hG, hc, q⟩ := h
  have el : (intsV (natsB bb)).length = bb.length := by unfold intsV; rw [List.length_map, natsB_len]
  walk_at "p"
  refine ⟨l, _, rfl, .inl (SqL.of hl), ?_⟩
  rw [el]
  walk_at "p"
  refine ite_d (fun h2 => ?_) (fun h2 => ?_)
  ·walk_at "p"
   refine nl (fun p H1 hp e1 s1 k1 => q D H1 p ?_)
   exact (Ans.no hW hp e1 s1 k1).mk' ((step_check _ _).trans (if_pos ((inText_iff bb).mpr (by omega))))
  ·have e0 := (step_check D.st bb).trans (if_neg (fun z => by have := (inText_iff bb).mp z; omega))
   rw [readV_eq] at e0
   walk_at "p"
   refine ⟨l, natsB bb, rfl, hl, by rw [natsB_len]; omega, fun H1 s1 => ?_⟩
   walk_at "p"
   cases hr' : readN (natsB bb) with
   | none =>
    rw [hr'] at e0
    refine ite_d (fun _ => ?_) (fun z => absurd rfl z)
    walk_at "p"
    refine nl (fun p H2 hp e2 s2 k2 => q D H2 p ?_)
    exact (Ans.num (n := 0) (hW.same s1) (Fr.same s1) rfl hp e2 s2).mk' e0
   | some n =>
    rw [hr'] at e0
    refine ite_d (fun z => by cases z) (fun _ => ?_)
    walk_at "p"
    refine nl (fun l3 H3 n3 g3 s3 _ => ?_)
    walk_at "p"
    refine nl (fun l4 H4 n4 g4 s4 _ => ?_)
    walk_at "p"
    refine ⟨1, l4, [(l3, Vbpoac.ints [n])], rfl, g4, fun r hr' => ?_, (by show 2 < 1000000; decide), fun p H5 hp e5 s5 => ?_⟩
    ·simp only [List.mem_singleton] at hr'
     subst hr'
     exact s4 _ _ g3
    ·have s04 := (s1.trans s3).trans s4
     exact q D H5 p ((Ans.rows (n := 1) (rs := [(l3, Vbpoac.ints [n])]) (H1 := H4) (hW.same s04) (Fr.same s04) rfl hp e5 s5 rfl).mk' e0)
end
section
noncomputable abbrev Raw := List (List Int)
noncomputable def Shaped (c : Raw) : Prop := (∃ p xs, PyVbpoac.shape p = some (List.length xs, 0) ∧ c = [p :: xs]) ∨ ∃ p xs row, PyVbpoac.shape p = some (List.length xs, 1) ∧ c = [p :: xs, row]
theorem calls_step {shape : Int → Option (Nat × Nat)} {f : Nat} {p : Int} {r : List Int} {cs : List Raw} (hk : ∀ p n k, shape p = some (n, k) → k = 0 ∨ k = 1) (h : PyFlat.calls shape f (p :: r) = some cs) :
    ∃ f' n c t cs', cs = c :: cs' ∧ PyFlat.calls shape f' t = some cs' ∧ n ≤ r.length ∧
      ((shape p = some (n, 0) ∧ c = [p :: r.take n] ∧ t = r.drop n) ∨
       (shape p = some (n, 1) ∧ ∃ (m : Nat) (s : List Int), r.drop n = (m : Int) :: s ∧ m ≤ s.length ∧ c = [p :: r.take n, s.take m] ∧ t = s.drop m)) := by
  cases f with
  | zero => cases h
  | succ f =>
    unfold PyFlat.calls at h
    cases e : PyFlat.call shape (p :: r) with
    | none => rw [e] at h; cases h
    | some ct =>
      obtain ⟨c, t⟩ := ct
      rw [e] at h
      simp only [] at h
      cases e2 : PyFlat.calls shape f t with
      | none => rw [e2] at h; cases h
      | some cs' =>
        rw [e2] at h
        have hcs : c :: cs' = cs := Option.some.inj h
        have e : (match shape p with
          | none => none
          | some (n, k) => if r.length < n then none else match PyFlat.rows k (r.drop n) with
            | none => none
            | some (xs, t) => some ((p :: r.take n) :: xs, t)) = some (c, t) := e
        cases e3 : shape p with
        | none => rw [e3] at e; cases e
        | some nk =>
          obtain ⟨n, k⟩ := nk
          rw [e3] at e
          simp only [] at e
          by_cases hl : r.length < n
          · rw [if_pos hl] at e; cases e
          · rw [if_neg hl] at e
            refine ⟨f, n, c, t, cs', hcs.symm, e2, by omega, ?_⟩
            rcases hk p n k e3 with rfl | rfl
            · have e' : some ((p :: r.take n) :: [], r.drop n) = some (c, t) := e
              injection e' with e'
              injection e' with a b
              exact .inl ⟨rfl, a.symm, b.symm⟩
            · have e' : (match PyFlat.rows 1 (r.drop n) with
                | none => none
                | some (xs, t) => some ((p :: r.take n) :: xs, t)) = some (c, t) := e
              unfold PyFlat.rows at e'
              cases e4 : r.drop n with
              | nil => rw [e4] at e'; cases e'
              | cons m s =>
                rw [e4] at e'
                by_cases hm : 0 ≤ m ∧ m.toNat ≤ s.length
                · have e5 : PyFlat.row (m :: s) = some (s.take m.toNat, s.drop m.toNat) := if_pos hm
                  rw [e5] at e'
                  have e6 : some ((p :: r.take n) :: [s.take m.toNat], s.drop m.toNat) = some (c, t) := e'
                  injection e6 with e6
                  injection e6 with a b
                  exact .inr ⟨rfl, m.toNat, s, by rw [Int.toNat_of_nonneg hm.1], hm.2, a.symm, b.symm⟩
                · have e5 : PyFlat.row (m :: s) = none := if_neg hm
                  rw [e5] at e'; cases e'
theorem shape_rng {p : Int} {nk : Nat × Nat} (h : PyVbpoac.shape p = some nk) : 0 ≤ p ∧ p ≤ 28 := by
 unfold PyVbpoac.shape at h
 by_cases z : 0 ≤ p ∧ p ≤ 28
 ·exact z
 ·iterate 29 rw [if_neg (by omega)] at h
  cases h
theorem shape_cases {p : Int} {nk : Nat × Nat} (h : PyVbpoac.shape p = some nk) : (p = 0 ∧ nk = (0, 0)) ∨ (p = 1 ∧ nk = (1, 0)) ∨ (p = 2 ∧ nk = (0, 0)) ∨ (p = 3 ∧ nk = (2, 0)) ∨ (p = 4 ∧ nk = (2, 0)) ∨ (p = 5 ∧ nk = (1, 1)) ∨ (p = 6 ∧ nk = (2, 0)) ∨ (p = 7 ∧ nk = (1, 0)) ∨ (p = 8 ∧ nk = (1, 0)) ∨ (p = 9 ∧ nk = (3, 0)) ∨
  (p = 10 ∧ nk = (1, 0)) ∨ (p = 11 ∧ nk = (2, 0)) ∨ (p = 12 ∧ nk = (1, 0)) ∨ (p = 13 ∧ nk = (2, 0)) ∨ (p = 14 ∧ nk = (2, 0)) ∨ (p = 15 ∧ nk = (2, 0)) ∨ (p = 16 ∧ nk = (3, 0)) ∨ (p = 17 ∧ nk = (0, 1)) ∨ (p = 18 ∧ nk = (1, 1)) ∨ (p = 19 ∧ nk = (0, 1)) ∨
  (p = 20 ∧ nk = (1, 0)) ∨ (p = 21 ∧ nk = (1, 0)) ∨ (p = 22 ∧ nk = (1, 0)) ∨ (p = 23 ∧ nk = (1, 0)) ∨ (p = 24 ∧ nk = (2, 0)) ∨ (p = 25 ∧ nk = (0, 0)) ∨ (p = 26 ∧ nk = (0, 0)) ∨ (p = 27 ∧ nk = (4, 0)) ∨ (p = 28 ∧ nk = (0, 1)) := by
 have hr := shape_rng h
 obtain ⟨n, rfl⟩ : ∃ n : Nat, p = n := ⟨p.toNat, by omega⟩
 have hn : n < 29 := by omega
 have e : nk = (PyVbpoac.shape n).getD (9, 9) := by rw [h]; rfl
 clear h hr
 subst e; revert n; set_option synthInstance.maxSize 9999 in set_option synthInstance.maxHeartbeats 0 in decide +kernel
theorem shape_k (p : Int) (n k : Nat) (h : PyVbpoac.shape p = some (n, k)) : k = 0 ∨ k = 1 := by
 have z := shape_cases h
 simp only [Prod.mk.injEq] at z
 omega
theorem calls_nil {shape : Int → Option (Nat × Nat)} {f : Nat} {cs : List Raw} (h : PyFlat.calls shape f [] = some cs) : cs = [] := by
 cases f with
 | zero => exact (Option.some.inj h).symm
 | succ f => exact (Option.some.inj h).symm
inductive Forms : Raw → Prop
 | f0 : Forms [[0]]
 | f1 (x0 : Int) : Forms [[1, x0]]
 | f2 : Forms [[2]]
 | f3 (x0 x1 : Int) : Forms [[3, x0, x1]]
 | f4 (x0 x1 : Int) : Forms [[4, x0, x1]]
 | f5 (x0 : Int) (b : List Int) : Forms [[5, x0], b]
 | f6 (x0 x1 : Int) : Forms [[6, x0, x1]]
 | f7 (x0 : Int) : Forms [[7, x0]]
 | f8 (x0 : Int) : Forms [[8, x0]]
 | f9 (x0 x1 x2 : Int) : Forms [[9, x0, x1, x2]]
 | f10 (x0 : Int) : Forms [[10, x0]]
 | f11 (x0 x1 : Int) : Forms [[11, x0, x1]]
 | f12 (x0 : Int) : Forms [[12, x0]]
 | f13 (x0 x1 : Int) : Forms [[13, x0, x1]]
 | f14 (x0 x1 : Int) : Forms [[14, x0, x1]]
 | f15 (x0 x1 : Int) : Forms [[15, x0, x1]]
 | f16 (x0 x1 x2 : Int) : Forms [[16, x0, x1, x2]]
 | f17 (b : List Int) : Forms [[17], b]
 | f18 (x0 : Int) (b : List Int) : Forms [[18, x0], b]
 | f19 (b : List Int) : Forms [[19], b]
 | f20 (x0 : Int) : Forms [[20, x0]]
 | f21 (x0 : Int) : Forms [[21, x0]]
 | f22 (x0 : Int) : Forms [[22, x0]]
 | f23 (x0 : Int) : Forms [[23, x0]]
 | f24 (x0 x1 : Int) : Forms [[24, x0, x1]]
 | f25 : Forms [[25]]
 | f26 : Forms [[26]]
 | f27 (x0 x1 x2 x3 : Int) : Forms [[27, x0, x1, x2, x3]]
 | f28 (b : List Int) : Forms [[28], b]
theorem forms_of {c : Raw} (h : Shaped c) : Forms c := by
 rcases h with ⟨p, xs, h, rfl⟩ | ⟨p, xs, b, h, rfl⟩
 all_goals
  have z := shape_cases h
  simp only [Prod.mk.injEq] at z
  rcases z with ⟨rfl, e, k⟩ | ⟨rfl, e, k⟩ | ⟨rfl, e, k⟩ | ⟨rfl, e, k⟩ | ⟨rfl, e, k⟩ | ⟨rfl, e, k⟩ | ⟨rfl, e, k⟩ | ⟨rfl, e, k⟩ | ⟨rfl, e, k⟩ | ⟨rfl, e, k⟩ | ⟨rfl, e, k⟩ | ⟨rfl, e, k⟩ | ⟨rfl, e, k⟩ | ⟨rfl, e, k⟩ | ⟨rfl, e, k⟩ | ⟨rfl, e, k⟩ | ⟨rfl, e, k⟩ | ⟨rfl, e, k⟩ | ⟨rfl, e, k⟩ | ⟨rfl, e, k⟩ | ⟨rfl, e, k⟩ | ⟨rfl, e, k⟩ | ⟨rfl, e, k⟩ | ⟨rfl, e, k⟩ | ⟨rfl, e, k⟩ | ⟨rfl, e, k⟩ | ⟨rfl, e, k⟩ | ⟨rfl, e, k⟩ | ⟨rfl, e, k⟩
  all_goals first
   | (cases k; done)
   | (rcases xs with _ | ⟨_, _ | ⟨_, _ | ⟨_, _ | ⟨_, _ | ⟨_, _⟩⟩⟩⟩⟩ <;> first | constructor | (cases e; done) | (simp at e; done))
theorem whole_of {c : Raw} (h : Forms c) : PyVbpoac.whole c = c := by
 cases h <;> rfl
theorem shaped_all : ∀ {cs : List Raw} {f : Nat} {l : List Int}, PyFlat.calls PyVbpoac.shape f l = some cs → ∀ c ∈ cs, Shaped c
 | [], _, _, _, c, hc => by cases hc
 | c0 :: cs, f, [], h, c, hc => by cases (calls_nil h)
 | c0 :: cs, f, p :: r, h, c, hc => by
  obtain ⟨f', n, c1, t, cs', e, h', hn, hs⟩ := calls_step shape_k h
  injection e with e1 e2
  subst e1 e2
  have hl : (r.take n).length = n := by rw [List.length_take]; omega
  rcases List.mem_cons.mp hc with rfl | hc
  ·rcases hs with ⟨a, b, _⟩ | ⟨a, m, s, _, _, b, _⟩
   ·exact .inl ⟨p, r.take n, by rw [hl]; exact a, b⟩
   ·exact .inr ⟨p, r.take n, s.take m, by rw [hl]; exact a, b⟩
  ·exact shaped_all h' c hc
theorem whole_map {cs : List Raw} (h : ∀ c ∈ cs, Shaped c) : cs.map PyVbpoac.whole = cs := by
 induction cs with
 | nil => rfl
 | cons c cs ih => rw [List.map_cons, whole_of (forms_of (h c List.mem_cons_self)), ih fun c hc => h c (List.mem_cons_of_mem _ hc)]
theorem answers_eq {l : List Int} {cs : List Raw} (h : PyFlat.calls PyVbpoac.shape l.length l = some cs) : PyVbpoac.answers l = PyFlat.told (PyFlat.played VbpoacNeutral.step VbpoacNeutral.start cs) := by
 unfold PyVbpoac.answers PyVbpoac.calls
 rw [h]
 show PyFlat.told (PyFlat.played _ _ (cs.map PyVbpoac.whole)) = _
 rw [whole_map (shaped_all h)]
theorem asked_of {l : List Int} (h : PyVbpoac.answers_asked l = true) : ∃ cs, PyFlat.calls PyVbpoac.shape l.length l = some cs ∧ cs ≠ [] ∧ cs.length ≤ 400 ∧ (PyVbpoac.answers l).length ≤ 10000000 ∧ ∀ c ∈ cs, VbpoacNeutral.asked1 c = true := by
 unfold PyVbpoac.answers_asked at h
 cases e : PyFlat.calls PyVbpoac.shape l.length l with
 | none => rw [e] at h; cases h
 | some raw =>
  rw [e] at h
  simp only [whole_map (shaped_all e), Bool.and_eq_true] at h
  obtain ⟨⟨⟨⟨h1, h2⟩, h3⟩, h4⟩, h5⟩ := h
  unfold VbpoacNeutral.asked at h4
  rw [Bool.and_eq_true] at h4
  exact ⟨raw, rfl, fun z => by rw [z] at h1; simp at h1, of_decide_eq_true h2, of_decide_eq_true h5, fun c hc => List.all_eq_true.mp h4.1 c hc⟩
end
section
variable {P : Program} {w : World} {K : PySem.W.Frag} {mg : Str → Option Value} {base : Heap} {A : Adr}
theorem i_gd {kvs : List (Int × Int)} {ti : TE} {σ : L2.St} {H : Hp} {Q : VK} (h : ti σ H fun y H1 => rdGD kvs y H1 Q) : tGD kvs ti σ H Q := h
theorem rd_gd {kvs : List (Int × Int)} {k v : Int} {H : Hp} {Q : VK} (hk : kvs.lookup k = some v) (q : Q (.int v) H) : rdGD kvs (.int k) H Q := ⟨k, v, rfl, hk, q⟩
noncomputable def wholeN : List (Int × Int) := [(0, 0), (1, 1), (2, 0), (3, 2), (4, 2), (5, 1), (6, 2), (7, 1), (8, 1), (9, 3), (10, 1), (11, 2), (12, 1), (13, 2), (14, 2), (15, 2), (16, 3), (17, 0), (18, 1), (19, 0), (20, 1), (21, 1), (22, 1), (23, 1), (24, 2), (25, 0), (26, 0), (27, 4), (28, 0)]
theorem whole_look {p : Int} {n k : Nat} (h : PyVbpoac.shape p = some (n, k)) : wholeN.lookup p = some (n : Int) ∧ (k = 1 ↔ p ∈ [5, 17, 18, 19, 28]) := by
 have z := shape_cases h
 simp only [Prod.mk.injEq] at z
 rcases z with ⟨rfl, rfl, rfl⟩ | z
 ·exact ⟨rfl, by decide⟩
 rcases z with ⟨rfl, rfl, rfl⟩ | z
 ·exact ⟨rfl, by decide⟩
 rcases z with ⟨rfl, rfl, rfl⟩ | z
 ·exact ⟨rfl, by decide⟩
 rcases z with ⟨rfl, rfl, rfl⟩ | z
 ·exact ⟨rfl, by decide⟩
 rcases z with ⟨rfl, rfl, rfl⟩ | z
 ·exact ⟨rfl, by decide⟩
 rcases z with ⟨rfl, rfl, rfl⟩ | z
 ·exact ⟨rfl, by decide⟩
 rcases z with ⟨rfl, rfl, rfl⟩ | z
 ·exact ⟨rfl, by decide⟩
 rcases z with ⟨rfl, rfl, rfl⟩ | z
 ·exact ⟨rfl, by decide⟩
 rcases z with ⟨rfl, rfl, rfl⟩ | z
 ·exact ⟨rfl, by decide⟩
 rcases z with ⟨rfl, rfl, rfl⟩ | z
 ·exact ⟨rfl, by decide⟩
 rcases z with ⟨rfl, rfl, rfl⟩ | z
 ·exact ⟨rfl, by decide⟩
 rcases z with ⟨rfl, rfl, rfl⟩ | z
 ·exact ⟨rfl, by decide⟩
 rcases z with ⟨rfl, rfl, rfl⟩ | z
 ·exact ⟨rfl, by decide⟩
 rcases z with ⟨rfl, rfl, rfl⟩ | z
 ·exact ⟨rfl, by decide⟩
 rcases z with ⟨rfl, rfl, rfl⟩ | z
 ·exact ⟨rfl, by decide⟩
 rcases z with ⟨rfl, rfl, rfl⟩ | z
 ·exact ⟨rfl, by decide⟩
 rcases z with ⟨rfl, rfl, rfl⟩ | z
 ·exact ⟨rfl, by decide⟩
 rcases z with ⟨rfl, rfl, rfl⟩ | z
 ·exact ⟨rfl, by decide⟩
 rcases z with ⟨rfl, rfl, rfl⟩ | z
 ·exact ⟨rfl, by decide⟩
 rcases z with ⟨rfl, rfl, rfl⟩ | z
 ·exact ⟨rfl, by decide⟩
 rcases z with ⟨rfl, rfl, rfl⟩ | z
 ·exact ⟨rfl, by decide⟩
 rcases z with ⟨rfl, rfl, rfl⟩ | z
 ·exact ⟨rfl, by decide⟩
 rcases z with ⟨rfl, rfl, rfl⟩ | z
 ·exact ⟨rfl, by decide⟩
 rcases z with ⟨rfl, rfl, rfl⟩ | z
 ·exact ⟨rfl, by decide⟩
 rcases z with ⟨rfl, rfl, rfl⟩ | z
 ·exact ⟨rfl, by decide⟩
 rcases z with ⟨rfl, rfl, rfl⟩ | z
 ·exact ⟨rfl, by decide⟩
 rcases z with ⟨rfl, rfl, rfl⟩ | z
 ·exact ⟨rfl, by decide⟩
 rcases z with ⟨rfl, rfl, rfl⟩ | ⟨rfl, rfl, rfl⟩
 ·exact ⟨rfl, by decide⟩
 ·exact ⟨rfl, by decide⟩
structure Part where
 t : Addr
 k : Int
 l : Addr
 xs : List Int
 lt : Addr
 row : List Int
 txt : Bool
noncomputable def Part.raw (z : Part) : Raw := if z.txt = true then [z.k :: z.xs, z.row] else [z.k :: z.xs]
noncomputable def Part.At (H : Hp) (z : Part) : Prop := H z.t = some (.tup [.int z.k, .ref z.l, .ref z.lt]) ∧ H z.l = some (.lst (z.xs.map V.int)) ∧ H z.lt = some (.lst (z.row.map V.int)) ∧ (z.txt = false → z.row = [])
noncomputable def Part.New (H : Hp) (z : Part) : Prop := H z.t = none ∧ H z.l = none ∧ H z.lt = none
noncomputable def spx5k (K : PySem.W.Frag) (A : Adr) : Sp := fun vs H Q _ => ∃ (a : Addr) (ns : List Int) (cs : List Raw), vs = [.ref a] ∧ SqL K H a (ns.map V.int) ∧ ns.length ≤ 16000 ∧ PyFlat.calls PyVbpoac.shape ns.length ns = some cs ∧
 ∀ p H' (zs : List Part), H p = none → H' p = some (.lst (zs.map fun z => V.ref z.t)) → (∀ z ∈ zs, z.At H' ∧ z.New H) → zs.map Part.raw = cs → Same H H' → Q (.ref p) H'
theorem cutI_mid {ns : List Int} {i j : Int} (h0 : 0 ≤ i) (h1 : i ≤ j) : cutV (ns.map V.int) (some i) (some j) = ((ns.drop i.toNat).take (j.toNat - i.toNat)).map V.int := by
 rw [cut_mid h0 h1, List.map_take, List.map_drop]
theorem cx5k (P : Program) (w : World) (base : Heap) (T : Txt K mg A) : Cal P w K mg base 1 "split_calls" ["calls"] (spx5k K A) := by
 obtain ⟨ax5j, hx5j, tx5j⟩ := T.gx5j
 obtain ⟨f, fd, F, hm, b⟩ := T.fx5k
 refine ⟨f, fd, F.ok (k := 0) scx5k (fun vs H Q E h => ?_) (fun cdv A' outer s H vs Q E hr h => ?_), hm, F.kp, b⟩
 ·obtain ⟨_, _, _, rfl, _⟩ := h
  rfl
 ·obtain ⟨a, ns, cs, rfl, h⟩ := h
  refine ⟨_, (pss_cons (pst 1 scx5k.nd (pe_lst pa_nil))
   (pss_cons (pst 2 scx5k.nd pe_int)
   (pss_cons (ps_while PassesOwn.never (pt_cmpR op_lt (pv 2) (pe_callB call_len_seq (by rfl) T.b_len (by decide +kernel) (pa_cons (pv 0) pa_nil)) (nomark _)) (pss_cons (pst 3 scx5k.nd (pe_ix ix_list (pv 0) (pv 2) (fun _ _ => rfl)))
   (pss_cons (pst 4 scx5k.nd (pe_op op_add (pe_op op_add (pv 2) pe_int) (pgd T.gx5i (pv 3))))
   (pss_cons (pst 5 scx5k.nd (pe_slice sl_list (pv 0) (po_some (pe_op op_add (pv 2) pe_int)) (po_some (pv 4))))
   (pss_cons (pst 6 scx5k.nd (pe_lst pa_nil))
   (pss_cons (ps_if (pt_cmpR op_in_seq (pv 3) (pgr hx5j) (by with_unfolding_all rfl)) (pss_cons (pst 6 scx5k.nd (pe_slice sl_list (pv 0) (po_some (pe_op op_add (pv 4) pe_int)) (po_some (pe_op op_add (pe_op op_add (pv 4) pe_int) (pe_ix ix_list (pv 0) (pv 4) (fun _ _ => rfl))))))
   (pss_one (pag 4 scx5k.nd (pe_op op_add pe_int (pe_callB call_len_seq (by rfl) T.b_len (by decide +kernel) (pa_cons (pv 6) pa_nil))) ip_add))) pss_nil)
   (pss_cons (ps_expr (pe_bm PySem.F.plainAttrs_list PySem.F.slot_list_append PySem.F.type_list_append mt_append (pv 1) (pa_cons (pe_tup (pa_cons (pv 3) (pa_cons (pv 5) (pa_cons (pv 6) pa_nil)))) pa_nil)))
   (pss_one (pst 2 scx5k.nd (pv 4))))))))))
   (pss_one (ps_ret (pv 1)))))), ?_⟩
  obtain ⟨hs, hz, hcs, q⟩ := h
  walk_at "p"
  refine nl (fun p H0 n0 g0 s0 _ => ?_)
  walk_at "p"
  refine ⟨fun m σ H' => ∃ (P : Nat) (zs : List Part) (f : Nat) (cs' : List Raw) (v3 v4 v5 v6 : Option V), m = ns.length - P ∧ σ = [some (.ref a), some (.ref p), some (.int (P : Int)), v3, v4, v5, v6] ∧ P ≤ ns.length ∧ zs.length ≤ P ∧ H' p = some (.lst (zs.map fun z => V.ref z.t)) ∧
   (∀ z ∈ zs, z.At H' ∧ z.t ≠ p ∧ z.l ≠ p ∧ z.lt ≠ p ∧ z.New H) ∧ Same H H' ∧ PyFlat.calls PyVbpoac.shape f (ns.drop P) = some cs' ∧ zs.map Part.raw ++ cs' = cs, ⟨ns.length, 0, [], ns.length, cs, none, none, none, none, rfl, rfl, Nat.zero_le _, Nat.zero_le _, g0, fun z hz => (by cases hz), s0, hcs, rfl⟩, ?_⟩
  rintro m σ H1 ⟨P, zs, f', cs', v3, v4, v5, v6, rfl, rfl, hP, hzP, hp, hzs, s1, hcs', ecs⟩
  have hs1 := s1.seq hs
  walk_at "p"
  refine ⟨a, _, rfl, .inl hs1, ?_⟩
  rw [List.length_map]
  walk_at "p"
  refine ite_d (fun hlt => ?_) (fun hlt => ?_)
  ·have hlt : P < ns.length := by omega
   obtain ⟨k, hk⟩ : ∃ k, ns[P]? = some k := ⟨_, List.getElem?_eq_getElem hlt⟩
   have hdrop : ns.drop P = k :: ns.drop (P + 1) := by
    have e := (List.getElem?_eq_some_iff.mp hk).2
    rw [List.drop_eq_getElem_cons hlt, e]
   rw [hdrop] at hcs'
   obtain ⟨f2, n, c, t, cs2, rfl, h2, hn, hcase⟩ := calls_step shape_k hcs'
   rw [List.length_drop] at hn
   refine ⟨fun σ' H' => ∃ (P' : Nat) (z : Part) (f2 : Nat) (v3 v4 v5 v6 : Option V), P < P' ∧ σ' = [some (.ref a), some (.ref p), some (.int (P' : Int)), v3, v4, v5, v6] ∧ P' ≤ ns.length ∧ H' p = some (.lst ((zs ++ [z]).map fun z => V.ref z.t)) ∧
    (∀ y ∈ zs ++ [z], y.At H' ∧ y.t ≠ p ∧ y.l ≠ p ∧ y.lt ≠ p ∧ y.New H) ∧ Same H H' ∧ PyFlat.calls PyVbpoac.shape f2 (ns.drop P') = some cs2 ∧ z.raw = c, ?_, ?_⟩
   ·rintro σ' H' ⟨P', z, f3, w3, w4, w5, w6, hPP, rfl, hP', hp', hz', s', hc', er⟩
    refine ⟨ns.length - P', by omega, P', zs ++ [z], f3, cs2, w3, w4, w5, w6, rfl, rfl, hP', ?_, hp', hz', s', hc', ?_⟩
    ·rw [List.length_append]; simp only [List.length_cons, List.length_nil]; omega
    ·rw [List.map_append, ← ecs, List.append_assoc]
     show _ ++ ([z.raw] ++ cs2) = _
     rw [er]; rfl
   ·have key : ∀ (H2 : Hp) (l lt T : Addr) (row : List Int) (txt : Bool), Same H1 H2 → H1 l = none → H1 lt = none → H2 l = some (.lst (((ns.drop (P + 1)).take n).map V.int)) → H2 lt = some (.lst (row.map V.int)) → H2 T = none → (txt = false → row = []) →
      ∀ H3 : Hp, H3 T = some (.tup [.int k, .ref l, .ref lt]) → Same H2 H3 → ∀ H4 : Hp, H4 p = some (.lst ((zs.map fun z => V.ref z.t) ++ [V.ref T])) → (∀ b, b ≠ p → H4 b = H3 b) →
      H4 p = some (.lst ((zs ++ [(⟨T, k, l, (ns.drop (P + 1)).take n, lt, row, txt⟩ : Part)]).map fun z => V.ref z.t)) ∧ (∀ y ∈ zs ++ [(⟨T, k, l, (ns.drop (P + 1)).take n, lt, row, txt⟩ : Part)], y.At H4 ∧ y.t ≠ p ∧ y.l ≠ p ∧ y.lt ≠ p ∧ y.New H) ∧ Same H H4 := fun H2 l lt T row txt s12 fl flt gl glt fT ht H3 gT s23 H4 g4 k4 => by
     have np : ∀ {b : Addr}, H1 b = none → b ≠ p := fun h z => by rw [z, hp] at h; cases h
     have fT1 : H1 T = none := s12.free fT
     refine ⟨by rw [g4, List.map_append]; rfl, fun y hy => ?_, fun b o e => ?_⟩
     ·rcases List.mem_append.mp hy with m | m
      ·obtain ⟨ha, h1, h2, h3, hN⟩ := hzs y m
       refine ⟨⟨(k4 _ h1).trans (s23 _ _ (s12 _ _ ha.1)), (k4 _ h2).trans (s23 _ _ (s12 _ _ ha.2.1)), (k4 _ h3).trans (s23 _ _ (s12 _ _ ha.2.2.1)), ha.2.2.2⟩, h1, h2, h3, hN⟩
      ·rw [List.mem_singleton.mp m]
       exact ⟨⟨(k4 _ (np fT1)).trans gT, (k4 _ (np fl)).trans (s23 _ _ gl), (k4 _ (np flt)).trans (s23 _ _ glt), ht⟩, np fT1, np fl, np flt, s1.free fT1, s1.free fl, s1.free flt⟩
     ·have nb : b ≠ p := fun z => by rw [z, n0] at e; cases e
      exact (k4 b nb).trans (s23 _ _ (s12 _ _ (s1 _ _ e)))
    have hzl : (zs.map fun z => V.ref z.t).length < sizeLine := by rw [List.length_map]; show _ < 2 ^ 24; omega
    have sh : ∃ kk, PyVbpoac.shape k = some (n, kk) := by
     rcases hcase with ⟨a, _⟩ | ⟨a, _⟩
     ·exact ⟨_, a⟩
     ·exact ⟨_, a⟩
    obtain ⟨kk, hsh⟩ := sh
    obtain ⟨hlook, hin⟩ := whole_look hsh
    walk_at "p"
    refine ⟨a, _, _, .int k, rfl, rfl, hs1, at_of (j := P) (by omega) (by rw [List.getElem?_map, hk]; rfl), ?_⟩
    walk_at "p"
    refine i_gd ?_
    walk_at "p"
    refine rd_gd hlook ?_
    walk_at "p"
    refine rd_sl hs1 (fun l2 H2 n2 g2 s2 _ => ?_)
    rw [cutI_mid (by omega) (by omega), show ((P : Int) + 1).toNat = P + 1 by omega, show ((P : Int) + 1 + (n : Int)).toNat - (P + 1) = n by omega] at g2
    walk_at "p"
    refine nl (fun l3 H3 n3 g3 s3 _ => ?_)
    have s13 := s2.trans s3
    have hs3 := s13.seq hs1
    walk_at "p"
    refine rd_inT tx5j ?_
    walk_at "p"
    refine ite_d (fun hin1 => ?_) (fun hin1 => ?_)
    ·have hk1 := hin.mpr hin1
     subst hk1
     rcases hcase with ⟨a0, _⟩ | ⟨_, mm, ss, hmm, hms, rfl, rfl⟩
     ·rw [hsh] at a0; cases a0
     ·rw [List.drop_drop] at hmm
      have hmlt : P + 1 + n < ns.length := by
       rcases Nat.lt_or_ge (P + 1 + n) ns.length with y | y
       ·exact y
       ·rw [List.drop_of_length_le (by omega)] at hmm; cases hmm
      have hm0 : ns[P + 1 + n]? = some (mm : Int) := by
       have e := List.drop_eq_getElem_cons hmlt
       rw [hmm] at e
       injection e with e1 e2
       rw [List.getElem?_eq_getElem hmlt, ← e1]
      have hss : ns.drop (P + 1 + n + 1) = ss := by
       have e := List.drop_eq_getElem_cons hmlt
       rw [hmm] at e
       injection e with e1 e2
       exact e2.symm
      have hsl : ss.length = ns.length - (P + 1 + n + 1) := by rw [← hss, List.length_drop]
      walk_at "p"
      refine ⟨a, _, _, .int (mm : Int), rfl, rfl, hs3, at_of (j := P + 1 + n) (by omega) (by rw [List.getElem?_map, hm0]; rfl), ?_⟩
      walk_at "p"
      refine rd_sl hs3 (fun l4 H4 n4 g4 s4 _ => ?_)
      rw [cutI_mid (by omega) (by omega), show ((P : Int) + 1 + (n : Int) + 1).toNat = P + 1 + n + 1 by omega, show ((P : Int) + 1 + (n : Int) + 1 + (mm : Int)).toNat - (P + 1 + n + 1) = mm by omega, hss] at g4
      walk_at "p"
      refine ⟨l4, _, rfl, .inl (SqL.of g4), ?_⟩
      rw [List.length_map, List.length_take, Nat.min_eq_left hms]
      walk_at "p"
      have s14 := s13.trans s4
      refine rd_bmL (s14 _ _ hp) ?_
      walk_at "p"
      refine nt (fun t5 H5 n5 g5 s5 _ => ?_)
      walk_at "p"
      refine do_append (s5 _ _ (s14 _ _ hp)) hzl (fun H6 g6 k6 => ?_)
      walk_at "p"
      obtain ⟨r1, r2, r3⟩ := key H4 l2 l4 t5 (ss.take mm) true s14 n2 (s13.free n4) ((s3.trans s4) _ _ g2) g4 n5 (fun z => by cases z) H5 g5 s5 H6 g6 k6
      have eP : ns.drop (P + 1 + n + (1 + mm)) = ss.drop mm := by rw [← hss, List.drop_drop]; congr 1; omega
      refine ⟨P + 1 + n + (1 + mm), ⟨t5, k, l2, (ns.drop (P + 1)).take n, l4, ss.take mm, true⟩, f2, some (.int k), some (.int ((P : Int) + 1 + (n : Int) + (1 + (mm : Int)))), some (.ref l2), some (.ref l4), by omega, ?_, by omega, r1, r2, r3, by rw [eP]; exact h2, rfl⟩
      rw [show ((P + 1 + n + (1 + mm) : Nat) : Int) = (P : Int) + 1 + (n : Int) + (1 + (mm : Int)) by omega]
      rfl
    ·have hk0 : kk = 0 := by
      rcases shape_k k n kk hsh with z | z
      ·exact z
      ·exact absurd (hin.mp z) hin1
     subst hk0
     rcases hcase with ⟨_, rfl, rfl⟩ | ⟨a0, _⟩
     ·walk_at "p"
      refine rd_bmL (s13 _ _ hp) ?_
      walk_at "p"
      refine nt (fun t5 H5 n5 g5 s5 _ => ?_)
      walk_at "p"
      refine do_append (s5 _ _ (s13 _ _ hp)) hzl (fun H6 g6 k6 => ?_)
      walk_at "p"
      obtain ⟨r1, r2, r3⟩ := key H3 l2 l3 t5 [] false s13 n2 (s2.free n3) (s3 _ _ g2) g3 n5 (fun _ => rfl) H5 g5 s5 H6 g6 k6
      rw [List.drop_drop] at h2
      refine ⟨P + 1 + n, ⟨t5, k, l2, (ns.drop (P + 1)).take n, l3, [], false⟩, f2, some (.int k), some (.int ((P : Int) + 1 + (n : Int))), some (.ref l2), some (.ref l3), by omega, ?_, by omega, r1, r2, r3, h2, rfl⟩
      rw [show ((P + 1 + n : Nat) : Int) = (P : Int) + 1 + (n : Int) by omega]
      rfl
     ·rw [hsh] at a0; cases a0
  ·have hPe : P = ns.length := by omega
   subst hPe
   rw [List.drop_length] at hcs'
   have ec := calls_nil hcs'
   subst ec
   rw [List.append_nil] at ecs
   walk_at "p"
   exact q p H1 zs n0 hp (fun z hz' => ⟨(hzs z hz').1, (hzs z hz').2.2.2.2⟩) ecs s1
end
section
variable {P : Program} {w : World} {K : PySem.W.Frag} {mg : Str → Option Value} {base : Heap} {A : Adr}
inductive Cll : Int → List Int → Vbpoac.Bytes → Vbpoac.Call → Prop
 | c0 (b : Vbpoac.Bytes) : Cll 0 [] b .begin
 | c1 (b : Vbpoac.Bytes) (x0 : Int) : Cll 1 [x0] b (.day x0)
 | c2 (b : Vbpoac.Bytes) : Cll 2 [] b .account
 | c3 (b : Vbpoac.Bytes) (x0 x1 : Int) : Cll 3 [x0, x1] b (.deposit x0 x1)
 | c4 (b : Vbpoac.Bytes) (x0 x1 : Int) : Cll 4 [x0, x1] b (.voucher x0 x1)
 | c5 (b : Vbpoac.Bytes) (x0 : Int) : Cll 5 [x0] b (.redeem x0 b)
 | c6 (b : Vbpoac.Bytes) (x0 x1 : Int) : Cll 6 [x0, x1] b (.meter x0 x1)
 | c7 (b : Vbpoac.Bytes) (x0 : Int) : Cll 7 [x0] b (.stopped x0)
 | c8 (b : Vbpoac.Bytes) (x0 : Int) : Cll 8 [x0] b (.withdraw x0)
 | c9 (b : Vbpoac.Bytes) (x0 x1 x2 : Int) : Cll 9 [x0, x1, x2] b (.imprint x0 x1 x2)
 | c10 (b : Vbpoac.Bytes) (x0 : Int) : Cll 10 [x0] b (.boot x0)
 | c11 (b : Vbpoac.Bytes) (x0 x1 : Int) : Cll 11 [x0, x1] b (.ask x0 x1)
 | c12 (b : Vbpoac.Bytes) (x0 : Int) : Cll 12 [x0] b (.toHouse x0)
 | c13 (b : Vbpoac.Bytes) (x0 x1 : Int) : Cll 13 [x0, x1] b (.toMeter x0 x1)
 | c14 (b : Vbpoac.Bytes) (x0 x1 : Int) : Cll 14 [x0, x1] b (.lose x0 x1)
 | c15 (b : Vbpoac.Bytes) (x0 x1 : Int) : Cll 15 [x0, x1] b (.double x0 x1)
 | c16 (b : Vbpoac.Bytes) (x0 x1 x2 : Int) : Cll 16 [x0, x1, x2] b (.garble x0 x1 x2)
 | c17 (b : Vbpoac.Bytes) : Cll 17 [] b (.scan b)
 | c18 (b : Vbpoac.Bytes) (x0 : Int) : Cll 18 [x0] b (.spoil x0 b)
 | c19 (b : Vbpoac.Bytes) : Cll 19 [] b (.judge b)
 | c20 (b : Vbpoac.Bytes) (x0 : Int) : Cll 20 [x0] b (.registers x0)
 | c21 (b : Vbpoac.Bytes) (x0 : Int) : Cll 21 [x0] b (.banks x0)
 | c22 (b : Vbpoac.Bytes) (x0 : Int) : Cll 22 [x0] b (.told x0)
 | c23 (b : Vbpoac.Bytes) (x0 : Int) : Cll 23 [x0] b (.balance x0)
 | c24 (b : Vbpoac.Bytes) (x0 x1 : Int) : Cll 24 [x0, x1] b (.statement x0 x1)
 | c25 (b : Vbpoac.Bytes) : Cll 25 [] b .lines
 | c26 (b : Vbpoac.Bytes) : Cll 26 [] b .counts
 | c27 (b : Vbpoac.Bytes) (x0 x1 x2 x3 : Int) : Cll 27 [x0, x1, x2, x3] b (.text x0 x1 x2 x3)
 | c28 (b : Vbpoac.Bytes) : Cll 28 [] b (.check b)
theorem cll_rng {k : Int} {xs : List Int} {b : Vbpoac.Bytes} {call : Vbpoac.Call} (h : Cll k xs b call) : 0 ≤ k ∧ k ≤ 28 := by
 cases h <;> decide
theorem bytes_of : ∀ {row : List Int}, row.all (fun (z : Int) => VbpoacNeutral.natural z 8) = true → ∃ b : Vbpoac.Bytes, VbpoacNeutral.bytes? row = some b ∧ row = Vbpoac.bytes b
 | [], _ => ⟨[], rfl, rfl⟩
 | z :: r, h => by
  rw [List.all_cons, Bool.and_eq_true] at h
  obtain ⟨b, e, er⟩ := bytes_of h.2
  have hz : 0 ≤ z ∧ z < 2 ^ 8 := by
   have := h.1
   unfold VbpoacNeutral.natural at this
   rw [Bool.and_eq_true, decide_eq_true_eq, decide_eq_true_eq] at this
   exact this
  have hz' : 0 ≤ z ∧ z ≤ 255 := by omega
  have e1 : VbpoacNeutral.byte? z = some (UInt8.ofNat z.toNat) := by unfold VbpoacNeutral.byte?; rw [if_pos hz']
  have e2 : ((UInt8.ofNat z.toNat).toNat : Int) = z := by
   have : (UInt8.ofNat z.toNat).toNat = z.toNat := by simp; omega
   rw [this]; omega
  refine ⟨UInt8.ofNat z.toNat :: b, ?_, ?_⟩
  ·have e' : r.mapM VbpoacNeutral.byte? = some b := e
   show (z :: r).mapM VbpoacNeutral.byte? = _
   rw [List.mapM_cons, e1, e']; rfl
  ·show z :: r = ((UInt8.ofNat z.toNat).toNat : Int) :: Vbpoac.bytes b
   rw [e2, ← er]
theorem forms1 {k : Int} {xs : List Int} (h : Forms [k :: xs]) : ∃ call, VbpoacNeutral.callOf [k :: xs] = some call ∧ Cll k xs [] call := by
 cases h <;> exact ⟨_, rfl, by constructor⟩
theorem forms2 {k : Int} {xs row : List Int} (h : Forms [k :: xs, row]) (ha : VbpoacNeutral.asked1 [k :: xs, row] = true) : ∃ b call, VbpoacNeutral.callOf [k :: xs, row] = some call ∧ Cll k xs b call ∧ row = Vbpoac.bytes b ∧ row.length ≤ 1000 := by
  cases h <;> first
    | (have ha' := Bool.and_eq_true _ _ |>.mp ha
       have hb := Bool.and_eq_true _ _ |>.mp ha'.2
       obtain ⟨b, e, er⟩ := bytes_of hb.1
       exact ⟨b, _, by show (VbpoacNeutral.bytes? row).map _ = _; rw [e]; rfl, by constructor, er, of_decide_eq_true hb.2⟩)
    | (have hb := Bool.and_eq_true _ _ |>.mp ha
       obtain ⟨b, e, er⟩ := bytes_of hb.1
       exact ⟨b, _, by show (VbpoacNeutral.bytes? row).map _ = _; rw [e]; rfl, by constructor, er, of_decide_eq_true hb.2⟩)
theorem part_call {z : Part} (hf : Forms z.raw) (ha : VbpoacNeutral.asked1 z.raw = true) (hr : z.txt = false → z.row = []) : ∃ b call, VbpoacNeutral.callOf z.raw = some call ∧ Cll z.k z.xs b call ∧ z.row.map V.int = intsV (natsB b) ∧ b.length ≤ 1000 := by
 cases ht : z.txt with
 | false =>
  have e : z.raw = [z.k :: z.xs] := by unfold Part.raw; rw [ht]; rfl
  rw [e] at hf ⊢
  obtain ⟨call, h1, h2⟩ := forms1 hf
  exact ⟨[], call, h1, h2, by rw [hr ht]; rfl, Nat.zero_le _⟩
 | true =>
  have e : z.raw = [z.k :: z.xs, z.row] := by unfold Part.raw; rw [ht]; rfl
  rw [e] at hf ha ⊢
  obtain ⟨b, call, h1, h2, h3, h4⟩ := forms2 hf ha
  refine ⟨b, call, h1, h2, by rw [h3, bytes_eq, intsV_map], ?_⟩
  have := congrArg List.length h3
  unfold Vbpoac.bytes at this
  rw [List.length_map] at this
  omega
noncomputable def spA (A : Adr) (lo hi : Int) : Sp := fun vs H Q _ => ∃ (c : Nat) (D : DS) (k : Int) (l : Addr) (xs : List Int) (lt : Addr) (b : Vbpoac.Bytes) (call : Vbpoac.Call), vs = [.ref D.w, .int k, .ref l, .ref lt] ∧ H l = some (.lst (xs.map V.int)) ∧ H lt = some (.lst (intsV (natsB b))) ∧ b.length ≤ 1000 ∧ Cll k xs b call ∧ (lo ≤ k ∧ k ≤ hi) ∧ Goes A H Q c D call
noncomputable def spB (A : Adr) (lo hi : Int) : Sp := fun vs H Q _ => ∃ (c : Nat) (D : DS) (k : Int) (l : Addr) (xs : List Int) (b : Vbpoac.Bytes) (call : Vbpoac.Call), vs = [.ref D.w, .int k, .ref l] ∧ H l = some (.lst (xs.map V.int)) ∧ Cll k xs b call ∧ (lo ≤ k ∧ k ≤ hi) ∧ Goes A H Q c D call
noncomputable abbrev spx5l (A : Adr) : Sp := spA A 1 5
theorem cx5l (P : Program) (w : World) (base : Heap) (T : Txt K mg A) : Cal P w K mg base 6 "answer_on_accounts" ["world", "call", "numbers", "text"] (spx5l A) := by
  have Cx2f := cx2f P w base T
  have Cx2d := cx2d P w base T
  have Cx2e := cx2e P w base T
  have Cx2g := cx2g P w base T
  have Cx2h := cx2h P w base T
  obtain ⟨f, fd, F, hm, b⟩ := T.fx5l
  refine ⟨f, fd, F.ok (k := 5) scx5l (fun vs H Q E h => ?_) (fun cdv A' outer s H vs Q E hr h => ?_), hm, F.kp, b⟩
  · obtain ⟨_, _, _, _, _, _, _, _, rfl, _⟩ := h
    rfl
  · obtain ⟨c, D, k, l, xs, lt, bb, call, rfl, h⟩ := h
    refine ⟨_, (pss_cons (ps_if (pt_cmpR op_eq (pv 1) (pgi T.gx4r) (nomark _)) (pss_one (ps_ret (pcl Cx2d hr rfl (pa_cons (pv 0) (pa_cons (pe_ix ix_list (pv 2) pe_int (fun _ _ => rfl)) pa_nil))))) pss_nil)
      (pss_cons (ps_if (pt_cmpR op_eq (pv 1) (pgi T.gx4s) (nomark _)) (pss_one (ps_ret (pcl Cx2e hr rfl (pa_cons (pv 0) pa_nil)))) pss_nil)
      (pss_cons (ps_if (pt_cmpR op_eq (pv 1) (pgi T.gx4t) (nomark _)) (pss_one (ps_ret (pcl Cx2f hr rfl (pa_cons (pv 0) (pa_cons (pe_ix ix_list (pv 2) pe_int (fun _ _ => rfl)) (pa_cons (pe_ix ix_list (pv 2) pe_int (fun _ _ => rfl)) pa_nil)))))) pss_nil)
      (pss_cons (ps_if (pt_cmpR op_eq (pv 1) (pgi T.gx4u) (nomark _)) (pss_one (ps_ret (pcl Cx2g hr rfl (pa_cons (pv 0) (pa_cons (pe_ix ix_list (pv 2) pe_int (fun _ _ => rfl)) (pa_cons (pe_ix ix_list (pv 2) pe_int (fun _ _ => rfl)) pa_nil)))))) pss_nil)
      (pss_one (ps_ret (pcl Cx2h hr rfl (pa_cons (pv 0) (pa_cons (pe_ix ix_list (pv 2) pe_int (fun _ _ => rfl)) (pa_cons (pv 3) pa_nil)))))))))), ?_⟩
    obtain ⟨hl, hlt, hbl, hC, hk, hg⟩ := h
    cases hC <;> first
      | (exfalso; revert hk; decide)
      | ((repeat first | walk_at "pm" | refine ite_d (fun z => absurd z (by decide)) (fun _ => ?_) | refine ite_d (fun _ => ?_) (fun z => absurd rfl z) | refine rd_ix 0 hl ?_ | refine rd_ix 1 hl ?_ | refine rd_ix 2 hl ?_ | refine rd_ix 3 hl ?_)
         first | exact ⟨c, D, rfl, hg⟩ | exact ⟨c, D, _, rfl, hg⟩ | exact ⟨c, D, _, _, rfl, hg⟩ | exact ⟨c, D, _, _, _, rfl, hg⟩ | exact ⟨c, D, _, _, _, _, rfl, hg⟩ | exact ⟨c, D, lt, bb, rfl, hlt, hbl, hg⟩ | exact ⟨c, D, _, lt, bb, rfl, hlt, hbl, hg⟩)
noncomputable abbrev spx5m (A : Adr) : Sp := spB A 6 10
theorem cx5m (P : Program) (w : World) (base : Heap) (T : Txt K mg A) : Cal P w K mg base 6 "answer_on_meters" ["world", "call", "numbers"] (spx5m A) := by
  have Cx4f := cx4f P w base T
  have Cx49 := cx49 P w base T
  have Cx4e := cx4e P w base T
  have Cx4a := cx4a P w base T
  have Cx4c := cx4c P w base T
  obtain ⟨f, fd, F, hm, b⟩ := T.fx5m
  refine ⟨f, fd, F.ok (k := 5) scx5m (fun vs H Q E h => ?_) (fun cdv A' outer s H vs Q E hr h => ?_), hm, F.kp, b⟩
  · obtain ⟨_, _, _, _, _, _, _, rfl, _⟩ := h
    rfl
  · obtain ⟨c, D, k, l, xs, bb, call, rfl, h⟩ := h
    refine ⟨_, (pss_cons (ps_if (pt_cmpR op_eq (pv 1) (pgi T.gx4w) (nomark _)) (pss_one (ps_ret (pcl Cx49 hr rfl (pa_cons (pv 0) (pa_cons (pe_ix ix_list (pv 2) pe_int (fun _ _ => rfl)) (pa_cons (pe_ix ix_list (pv 2) pe_int (fun _ _ => rfl)) pa_nil)))))) pss_nil)
      (pss_cons (ps_if (pt_cmpR op_eq (pv 1) (pgi T.gx4x) (nomark _)) (pss_one (ps_ret (pcl Cx4a hr rfl (pa_cons (pv 0) (pa_cons (pe_ix ix_list (pv 2) pe_int (fun _ _ => rfl)) pa_nil))))) pss_nil)
      (pss_cons (ps_if (pt_cmpR op_eq (pv 1) (pgi T.gx4y) (nomark _)) (pss_one (ps_ret (pcl Cx4c hr rfl (pa_cons (pv 0) (pa_cons (pe_ix ix_list (pv 2) pe_int (fun _ _ => rfl)) pa_nil))))) pss_nil)
      (pss_cons (ps_if (pt_cmpR op_eq (pv 1) (pgi T.gx4z) (nomark _)) (pss_one (ps_ret (pcl Cx4e hr rfl (pa_cons (pv 0) (pa_cons (pe_ix ix_list (pv 2) pe_int (fun _ _ => rfl)) (pa_cons (pe_ix ix_list (pv 2) pe_int (fun _ _ => rfl)) (pa_cons (pe_ix ix_list (pv 2) pe_int (fun _ _ => rfl)) pa_nil))))))) pss_nil)
      (pss_one (ps_ret (pcl Cx4f hr rfl (pa_cons (pv 0) (pa_cons (pe_ix ix_list (pv 2) pe_int (fun _ _ => rfl)) pa_nil))))))))), ?_⟩
    obtain ⟨hl, hC, hk, hg⟩ := h
    cases hC <;> first
      | (exfalso; revert hk; decide)
      | ((repeat first | walk_at "pm" | refine ite_d (fun z => absurd z (by decide)) (fun _ => ?_) | refine ite_d (fun _ => ?_) (fun z => absurd rfl z) | refine rd_ix 0 hl ?_ | refine rd_ix 1 hl ?_ | refine rd_ix 2 hl ?_ | refine rd_ix 3 hl ?_)
         first | exact ⟨c, D, rfl, hg⟩ | exact ⟨c, D, _, rfl, hg⟩ | exact ⟨c, D, _, _, rfl, hg⟩ | exact ⟨c, D, _, _, _, rfl, hg⟩ | exact ⟨c, D, _, _, _, _, rfl, hg⟩)
noncomputable abbrev spx5n (A : Adr) : Sp := spB A 11 16
theorem cx5n (P : Program) (w : World) (base : Heap) (T : Txt K mg A) : Cal P w K mg base 8 "answer_on_lines" ["world", "call", "numbers"] (spx5n A) := by
  have Cx3y := cx3y P w base T
  have Cx3z := cx3z P w base T
  have Cx40 := cx40 P w base T
  have Cx44 := cx44 P w base T
  have Cx45 := cx45 P w base T
  have Cx43 := cx43 P w base T
  obtain ⟨f, fd, F, hm, b⟩ := T.fx5n
  refine ⟨f, fd, F.ok (k := 7) scx5n (fun vs H Q E h => ?_) (fun cdv A' outer s H vs Q E hr h => ?_), hm, F.kp, b⟩
  · obtain ⟨_, _, _, _, _, _, _, rfl, _⟩ := h
    rfl
  · obtain ⟨c, D, k, l, xs, bb, call, rfl, h⟩ := h
    refine ⟨_, (pss_cons (ps_if (pt_cmpR op_eq (pv 1) (pgi T.gx51) (nomark _)) (pss_one (ps_ret (pcl Cx3y hr rfl (pa_cons (pv 0) (pa_cons (pe_ix ix_list (pv 2) pe_int (fun _ _ => rfl)) (pa_cons (pe_ix ix_list (pv 2) pe_int (fun _ _ => rfl)) pa_nil)))))) pss_nil)
      (pss_cons (ps_if (pt_cmpR op_eq (pv 1) (pgi T.gx52) (nomark _)) (pss_one (ps_ret (pcl Cx3z hr rfl (pa_cons (pv 0) (pa_cons (pe_ix ix_list (pv 2) pe_int (fun _ _ => rfl)) pa_nil))))) pss_nil)
      (pss_cons (ps_if (pt_cmpR op_eq (pv 1) (pgi T.gx53) (nomark _)) (pss_one (ps_ret (pcl Cx40 hr rfl (pa_cons (pv 0) (pa_cons (pe_ix ix_list (pv 2) pe_int (fun _ _ => rfl)) (pa_cons (pe_ix ix_list (pv 2) pe_int (fun _ _ => rfl)) pa_nil)))))) pss_nil)
      (pss_cons (ps_if (pt_cmpR op_eq (pv 1) (pgi T.gx54) (nomark _)) (pss_one (ps_ret (pcl Cx43 hr rfl (pa_cons (pv 0) (pa_cons (pe_ix ix_list (pv 2) pe_int (fun _ _ => rfl)) (pa_cons (pe_ix ix_list (pv 2) pe_int (fun _ _ => rfl)) pa_nil)))))) pss_nil)
      (pss_cons (ps_if (pt_cmpR op_eq (pv 1) (pgi T.gx55) (nomark _)) (pss_one (ps_ret (pcl Cx44 hr rfl (pa_cons (pv 0) (pa_cons (pe_ix ix_list (pv 2) pe_int (fun _ _ => rfl)) (pa_cons (pe_ix ix_list (pv 2) pe_int (fun _ _ => rfl)) pa_nil)))))) pss_nil)
      (pss_one (ps_ret (pcl Cx45 hr rfl (pa_cons (pv 0) (pa_cons (pe_ix ix_list (pv 2) pe_int (fun _ _ => rfl)) (pa_cons (pe_ix ix_list (pv 2) pe_int (fun _ _ => rfl)) (pa_cons (pe_ix ix_list (pv 2) pe_int (fun _ _ => rfl)) pa_nil)))))))))))), ?_⟩
    obtain ⟨hl, hC, hk, hg⟩ := h
    cases hC <;> first
      | (exfalso; revert hk; decide)
      | ((repeat first | walk_at "pm" | refine ite_d (fun z => absurd z (by decide)) (fun _ => ?_) | refine ite_d (fun _ => ?_) (fun z => absurd rfl z) | refine rd_ix 0 hl ?_ | refine rd_ix 1 hl ?_ | refine rd_ix 2 hl ?_ | refine rd_ix 3 hl ?_)
         first | exact ⟨c, D, rfl, hg⟩ | exact ⟨c, D, _, rfl, hg⟩ | exact ⟨c, D, _, _, rfl, hg⟩ | exact ⟨c, D, _, _, _, rfl, hg⟩ | exact ⟨c, D, _, _, _, _, rfl, hg⟩)
noncomputable abbrev spx5o (A : Adr) : Sp := spA A 17 19
theorem cx5o (P : Program) (w : World) (base : Heap) (T : Txt K mg A) : Cal P w K mg base 7 "answer_on_imprints" ["world", "call", "numbers", "text"] (spx5o A) := by
  have Cx3f := cx3f P w base T
  have Cx3e := cx3e P w base T
  have Cx3j := cx3j P w base T
  obtain ⟨f, fd, F, hm, b⟩ := T.fx5o
  refine ⟨f, fd, F.ok (k := 6) scx5o (fun vs H Q E h => ?_) (fun cdv A' outer s H vs Q E hr h => ?_), hm, F.kp, b⟩
  · obtain ⟨_, _, _, _, _, _, _, _, rfl, _⟩ := h
    rfl
  · obtain ⟨c, D, k, l, xs, lt, bb, call, rfl, h⟩ := h
    refine ⟨_, (pss_cons (ps_if (pt_cmpR op_eq (pv 1) (pgi T.gx57) (nomark _)) (pss_one (ps_ret (pcl Cx3e hr rfl (pa_cons (pv 0) (pa_cons (pv 3) pa_nil))))) pss_nil)
      (pss_cons (ps_if (pt_cmpR op_eq (pv 1) (pgi T.gx58) (nomark _)) (pss_one (ps_ret (pcl Cx3j hr rfl (pa_cons (pv 0) (pa_cons (pe_ix ix_list (pv 2) pe_int (fun _ _ => rfl)) (pa_cons (pv 3) pa_nil)))))) pss_nil)
      (pss_one (ps_ret (pcl Cx3f hr rfl (pa_cons (pv 0) (pa_cons (pv 3) pa_nil))))))), ?_⟩
    obtain ⟨hl, hlt, hbl, hC, hk, hg⟩ := h
    cases hC <;> first
      | (exfalso; revert hk; decide)
      | ((repeat first | walk_at "pm" | refine ite_d (fun z => absurd z (by decide)) (fun _ => ?_) | refine ite_d (fun _ => ?_) (fun z => absurd rfl z) | refine rd_ix 0 hl ?_ | refine rd_ix 1 hl ?_ | refine rd_ix 2 hl ?_ | refine rd_ix 3 hl ?_)
         first | exact ⟨c, D, rfl, hg⟩ | exact ⟨c, D, _, rfl, hg⟩ | exact ⟨c, D, _, _, rfl, hg⟩ | exact ⟨c, D, _, _, _, rfl, hg⟩ | exact ⟨c, D, _, _, _, _, rfl, hg⟩ | exact ⟨c, D, lt, bb, rfl, hlt, hbl, hg⟩ | exact ⟨c, D, _, lt, bb, rfl, hlt, hbl, hg⟩)
noncomputable abbrev spx5p (A : Adr) : Sp := spB A 20 26
theorem cx5p (P : Program) (w : World) (base : Heap) (T : Txt K mg A) : Cal P w K mg base 5 "answer_with_report" ["world", "call", "numbers"] (spx5p A) := by
  have Cx4m := cx4m P w base T
  have Cx4k := cx4k P w base T
  have Cx4p := cx4p P w base T
  have Cx4o := cx4o P w base T
  have Cx4l := cx4l P w base T
  have Cx4j := cx4j P w base T
  have Cx4n := cx4n P w base T
  obtain ⟨f, fd, F, hm, b⟩ := T.fx5p
  refine ⟨f, fd, F.ok (k := 4) scx5p (fun vs H Q E h => ?_) (fun cdv A' outer s H vs Q E hr h => ?_), hm, F.kp, b⟩
  · obtain ⟨_, _, _, _, _, _, _, rfl, _⟩ := h
    rfl
  · obtain ⟨c, D, k, l, xs, bb, call, rfl, h⟩ := h
    refine ⟨_, (pss_cons (ps_if (pt_cmpR op_eq (pv 1) (pgi T.gx5a) (nomark _)) (pss_one (ps_ret (pcl Cx4j hr rfl (pa_cons (pv 0) (pa_cons (pe_ix ix_list (pv 2) pe_int (fun _ _ => rfl)) pa_nil))))) pss_nil)
      (pss_cons (ps_if (pt_cmpR op_eq (pv 1) (pgi T.gx5b) (nomark _)) (pss_one (ps_ret (pcl Cx4k hr rfl (pa_cons (pv 0) (pa_cons (pe_ix ix_list (pv 2) pe_int (fun _ _ => rfl)) pa_nil))))) pss_nil)
      (pss_cons (ps_if (pt_cmpR op_eq (pv 1) (pgi T.gx5c) (nomark _)) (pss_one (ps_ret (pcl Cx4l hr rfl (pa_cons (pv 0) (pa_cons (pe_ix ix_list (pv 2) pe_int (fun _ _ => rfl)) pa_nil))))) pss_nil)
      (pss_cons (ps_if (pt_cmpR op_eq (pv 1) (pgi T.gx5d) (nomark _)) (pss_one (ps_ret (pcl Cx4m hr rfl (pa_cons (pv 0) (pa_cons (pe_ix ix_list (pv 2) pe_int (fun _ _ => rfl)) pa_nil))))) pss_nil)
      (pss_cons (ps_if (pt_cmpR op_eq (pv 1) (pgi T.gx5e) (nomark _)) (pss_one (ps_ret (pcl Cx4n hr rfl (pa_cons (pv 0) (pa_cons (pe_ix ix_list (pv 2) pe_int (fun _ _ => rfl)) (pa_cons (pe_ix ix_list (pv 2) pe_int (fun _ _ => rfl)) pa_nil)))))) pss_nil)
      (pss_cons (ps_if (pt_cmpR op_eq (pv 1) (pgi T.gx5f) (nomark _)) (pss_one (ps_ret (pcl Cx4o hr rfl (pa_cons (pv 0) pa_nil)))) pss_nil)
      (pss_one (ps_ret (pcl Cx4p hr rfl (pa_cons (pv 0) pa_nil)))))))))), ?_⟩
    obtain ⟨hl, hC, hk, hg⟩ := h
    cases hC <;> first
      | (exfalso; revert hk; decide)
      | ((repeat first | walk_at "pm" | refine ite_d (fun z => absurd z (by decide)) (fun _ => ?_) | refine ite_d (fun _ => ?_) (fun z => absurd rfl z) | refine rd_ix 0 hl ?_ | refine rd_ix 1 hl ?_ | refine rd_ix 2 hl ?_ | refine rd_ix 3 hl ?_)
         first | exact ⟨c, D, rfl, hg⟩ | exact ⟨c, D, _, rfl, hg⟩ | exact ⟨c, D, _, _, rfl, hg⟩ | exact ⟨c, D, _, _, _, rfl, hg⟩ | exact ⟨c, D, _, _, _, _, rfl, hg⟩)
noncomputable abbrev spx5q (A : Adr) : Sp := spA A 27 28
theorem cx5q (P : Program) (w : World) (base : Heap) (T : Txt K mg A) : Cal P w K mg base 6 "answer_on_texts" ["world", "call", "numbers", "text"] (spx5q A) := by
  have Cx2i := cx2i P w base T
  have Cx3k := cx3k P w base T
  obtain ⟨f, fd, F, hm, b⟩ := T.fx5q
  refine ⟨f, fd, F.ok (k := 5) scx5q (fun vs H Q E h => ?_) (fun cdv A' outer s H vs Q E hr h => ?_), hm, F.kp, b⟩
  · obtain ⟨_, _, _, _, _, _, _, _, rfl, _⟩ := h
    rfl
  · obtain ⟨c, D, k, l, xs, lt, bb, call, rfl, h⟩ := h
    refine ⟨_, (pss_cons (ps_if (pt_cmpR op_eq (pv 1) (pgi T.gx5h) (nomark _)) (pss_one (ps_ret (pcl Cx3k hr rfl (pa_cons (pv 0) (pa_cons (pe_ix ix_list (pv 2) pe_int (fun _ _ => rfl)) (pa_cons (pe_ix ix_list (pv 2) pe_int (fun _ _ => rfl)) (pa_cons (pe_ix ix_list (pv 2) pe_int (fun _ _ => rfl)) (pa_cons (pe_ix ix_list (pv 2) pe_int (fun _ _ => rfl)) pa_nil)))))))) pss_nil)
      (pss_one (ps_ret (pcl Cx2i hr rfl (pa_cons (pv 3) pa_nil))))), ?_⟩
    obtain ⟨hl, hlt, hbl, hC, hk, hg⟩ := h
    cases hC <;> first
      | (exfalso; revert hk; decide)
      | ((repeat first | walk_at "pm" | refine ite_d (fun z => absurd z (by decide)) (fun _ => ?_) | refine ite_d (fun _ => ?_) (fun z => absurd rfl z) | refine rd_ix 0 hl ?_ | refine rd_ix 1 hl ?_ | refine rd_ix 2 hl ?_ | refine rd_ix 3 hl ?_)
         first | exact ⟨c, D, rfl, hg⟩ | exact ⟨c, D, _, rfl, hg⟩ | exact ⟨c, D, _, _, rfl, hg⟩ | exact ⟨c, D, _, _, _, rfl, hg⟩ | exact ⟨c, D, _, _, _, _, rfl, hg⟩ | exact ⟨c, D, lt, bb, rfl, hlt, hbl, hg⟩ | exact ⟨c, D, _, lt, bb, rfl, hlt, hbl, hg⟩)
end
section
variable {P : Program} {w : World} {K : PySem.W.Frag} {mg : Str → Option Value} {base : Heap} {A : Adr}
theorem Ans.begin_ {A : Adr} {D D' : DS} {H H1 H' : Hp} {p : Addr} (n : New A H D.w D' H1) (hp : H1 p = none) (h1 : H' p = some (.lst [.int 0])) (s : Same H1 H') : Ans A D H D' H' p (Vbpoac.step D.st .begin) :=
 ⟨n.st, n.w_, n.at_.same s, n.fr.trans (Fr.same s), h1, n.fr.live p hp, n.at_.fresh hp⟩
noncomputable abbrev spx5r (A : Adr) : Sp := spA A 0 28
theorem cx5r (P : Program) (w : World) (base : Heap) (T : Txt K mg A) : Cal P w K mg base 9 "answer" ["world", "call", "numbers", "text"] (spx5r A) := by
 have Mx20 := cx20 P w base T
 have Cx5l := cx5l P w base T
 have Cx5o := cx5o P w base T
 have Cx5n := cx5n P w base T
 have Cx5m := cx5m P w base T
 have Cx5q := cx5q P w base T
 have Cx5p := cx5p P w base T
 obtain ⟨f, fd, F, hm, b⟩ := T.fx5r
 refine ⟨f, fd, F.ok (k := 8) scx5r (fun vs H Q E h => ?_) (fun cdv A' outer s H vs Q E hr h => ?_), hm, F.kp, b⟩
 ·obtain ⟨_, _, _, _, _, _, _, _, rfl, _⟩ := h
  rfl
 ·obtain ⟨c, D, k, l, xs, lt, bb, call, rfl, h⟩ := h
  refine ⟨_, (pss_cons (ps_if (pt_cmpR op_eq (pv 1) (pgi T.gx4q) (nomark _)) (pss_cons (ps_expr (pmt0 (pv 0) T.clx1y Mx20 hr))
   (pss_one (ps_ret (pe_lst (pa_cons pe_int pa_nil))))) pss_nil)
   (pss_cons (ps_if (pt_cmpR op_le (pv 1) (pgi T.gx4v) (nomark _)) (pss_one (ps_ret (pcl Cx5l hr rfl (pa_cons (pv 0) (pa_cons (pv 1) (pa_cons (pv 2) (pa_cons (pv 3) pa_nil))))))) pss_nil)
   (pss_cons (ps_if (pt_cmpR op_le (pv 1) (pgi T.gx50) (nomark _)) (pss_one (ps_ret (pcl Cx5m hr rfl (pa_cons (pv 0) (pa_cons (pv 1) (pa_cons (pv 2) pa_nil)))))) pss_nil)
   (pss_cons (ps_if (pt_cmpR op_le (pv 1) (pgi T.gx56) (nomark _)) (pss_one (ps_ret (pcl Cx5n hr rfl (pa_cons (pv 0) (pa_cons (pv 1) (pa_cons (pv 2) pa_nil)))))) pss_nil)
   (pss_cons (ps_if (pt_cmpR op_le (pv 1) (pgi T.gx59) (nomark _)) (pss_one (ps_ret (pcl Cx5o hr rfl (pa_cons (pv 0) (pa_cons (pv 1) (pa_cons (pv 2) (pa_cons (pv 3) pa_nil))))))) pss_nil)
   (pss_cons (ps_if (pt_cmpR op_le (pv 1) (pgi T.gx5g) (nomark _)) (pss_one (ps_ret (pcl Cx5p hr rfl (pa_cons (pv 0) (pa_cons (pv 1) (pa_cons (pv 2) pa_nil)))))) pss_nil)
   (pss_one (ps_ret (pcl Cx5q hr rfl (pa_cons (pv 0) (pa_cons (pv 1) (pa_cons (pv 2) (pa_cons (pv 3) pa_nil))))))))))))), ?_⟩
  obtain ⟨hl, hlt, hbl, hC, hk, hg⟩ := h
  walk_at "p"
  refine ite_d (fun z => ?_) (fun z0 => ?_)
  ·subst z
   cases hC
   obtain ⟨hW, hG, hc, q⟩ := hg
   obtain ⟨dw, hw⟩ := hW.wo
   walk_at "p"
   refine rd_met hw rfl ?_
   walk_at "p"
   refine ⟨D.w, dw, _, rfl, hw, .inr ⟨_, _, _, _, _, _, _, _, _, rfl⟩, fun D' H1 n1 => ?_⟩
   walk_at "p"
   exact nl (fun p H2 hp e2 s2 k2 => q D' H2 p (Ans.begin_ n1 hp e2 s2))
  ·walk_at "p"
   refine ite_d (fun z => ?_) (fun z1 => ?_)
   ·walk_at "p"
    exact ⟨c, D, k, l, xs, lt, bb, call, rfl, hl, hlt, hbl, hC, ⟨by omega, by omega⟩, hg⟩
   ·walk_at "p"
    refine ite_d (fun z => ?_) (fun z2 => ?_)
    ·walk_at "p"
     exact ⟨c, D, k, l, xs, bb, call, rfl, hl, hC, ⟨by omega, by omega⟩, hg⟩
    ·walk_at "p"
     refine ite_d (fun z => ?_) (fun z3 => ?_)
     ·walk_at "p"
      exact ⟨c, D, k, l, xs, bb, call, rfl, hl, hC, ⟨by omega, by omega⟩, hg⟩
     ·walk_at "p"
      refine ite_d (fun z => ?_) (fun z4 => ?_)
      ·walk_at "p"
       exact ⟨c, D, k, l, xs, lt, bb, call, rfl, hl, hlt, hbl, hC, ⟨by omega, by omega⟩, hg⟩
      ·walk_at "p"
       refine ite_d (fun z => ?_) (fun z5 => ?_)
       ·walk_at "p"
        exact ⟨c, D, k, l, xs, bb, call, rfl, hl, hC, ⟨by omega, by omega⟩, hg⟩
       ·walk_at "p"
        exact ⟨c, D, k, l, xs, lt, bb, call, rfl, hl, hlt, hbl, hC, ⟨by omega, by omega⟩, hg⟩
noncomputable def stAfter (s : VbpoacNeutral.S) (cs : List Raw) : VbpoacNeutral.S := cs.foldl (fun s c => (VbpoacNeutral.step s c).1) s
theorem played_snoc : ∀ (cs : List Raw) (s : VbpoacNeutral.S) (c : Raw), PyFlat.played VbpoacNeutral.step s (cs ++ [c]) = PyFlat.played VbpoacNeutral.step s cs ++ [(VbpoacNeutral.step (stAfter s cs) c).2]
 | [], _, _ => rfl
 | d :: cs, s, c => by
  show (VbpoacNeutral.step s d).2 :: PyFlat.played VbpoacNeutral.step (VbpoacNeutral.step s d).1 (cs ++ [c]) = _
  rw [played_snoc cs]; rfl
theorem st_snoc (cs : List Raw) (s : VbpoacNeutral.S) (c : Raw) : stAfter s (cs ++ [c]) = (VbpoacNeutral.step (stAfter s cs) c).1 := by
 unfold stAfter
 rw [List.foldl_append]; rfl
theorem told_app (a b : List (List Int)) : PyFlat.told (a ++ b) = PyFlat.told a ++ PyFlat.told b := by unfold PyFlat.told; rw [List.flatMap_append]
noncomputable def toldAt (cs : List Raw) : List Int := PyFlat.told (PyFlat.played VbpoacNeutral.step VbpoacNeutral.start cs)
theorem told_snoc {cs : List Raw} {c : Raw} {call : Vbpoac.Call} (h : VbpoacNeutral.callOf c = some call) : toldAt (cs ++ [c]) = toldAt cs ++ (((VbpoacNeutral.flat (Vbpoac.step (stAfter VbpoacNeutral.start cs) call).2).length : Int) :: VbpoacNeutral.flat (Vbpoac.step (stAfter VbpoacNeutral.start cs) call).2) ∧
  stAfter VbpoacNeutral.start (cs ++ [c]) = (Vbpoac.step (stAfter VbpoacNeutral.start cs) call).1 := by
 have e : VbpoacNeutral.step (stAfter VbpoacNeutral.start cs) c = ((Vbpoac.step (stAfter VbpoacNeutral.start cs) call).1, VbpoacNeutral.flat (Vbpoac.step (stAfter VbpoacNeutral.start cs) call).2) := by
  unfold VbpoacNeutral.step; rw [h]
 refine ⟨?_, by rw [st_snoc, e]⟩
 unfold toldAt
 rw [played_snoc, told_app, e]
 congr 1
 show PyFlat.told [_] = _
 unfold PyFlat.told
 simp
theorem told_pre (cs : List Raw) (i : Nat) : (toldAt (cs.take i)).length ≤ (toldAt cs).length := by
 have g : ∀ (a b : List Raw) (s : VbpoacNeutral.S), (PyFlat.told (PyFlat.played VbpoacNeutral.step s a)).length ≤ (PyFlat.told (PyFlat.played VbpoacNeutral.step s (a ++ b))).length := fun a => by
  induction a with
  | nil => intro b s; exact Nat.zero_le _
  | cons d a ih =>
   intro b s
   have e : ∀ x : List Raw, PyFlat.told (PyFlat.played VbpoacNeutral.step s (d :: x)) = (((VbpoacNeutral.step s d).2.length : Int) :: (VbpoacNeutral.step s d).2) ++ PyFlat.told (PyFlat.played VbpoacNeutral.step (VbpoacNeutral.step s d).1 x) := fun x => rfl
   rw [List.cons_append, e, e, List.length_append, List.length_append]
   have := ih b (VbpoacNeutral.step s d).1
   omega
 have := g (cs.take i) (cs.drop i) VbpoacNeutral.start
 rw [List.take_append_drop] at this
 exact this
noncomputable def Safe (A : Adr) (D : DS) (H : Hp) (t b : Addr) (o : HO) : Prop := H b = some o ∧ ¬ Foot A D b ∧ b ≠ t
theorem Safe.step {A : Adr} {D D' : DS} {H H' : Hp} {t b : Addr} {o : HO} (h : Safe A D H t b o) (f : Fr A D H D' H') : Safe A D' H' t b o := ⟨f.keep _ _ h.1 h.2.1, f.out h.2.1 h.1, h.2.2⟩
theorem Safe.keep {A : Adr} {D : DS} {H H' : Hp} {t b : Addr} {o : HO} (h : Safe A D H t b o) (k : ∀ b, b ≠ t → H' b = H b) : Safe A D H' t b o := ⟨(k _ h.2.2).trans h.1, h.2⟩
noncomputable def PSafe (A : Adr) (D : DS) (H : Hp) (t : Addr) (z : Part) : Prop := Safe A D H t z.t (.tup [.int z.k, .ref z.l, .ref z.lt]) ∧ Safe A D H t z.l (.lst (z.xs.map V.int)) ∧ Safe A D H t z.lt (.lst (z.row.map V.int)) ∧ (z.txt = false → z.row = [])
theorem PSafe.step {A : Adr} {D D' : DS} {H H' : Hp} {t : Addr} {z : Part} (h : PSafe A D H t z) (f : Fr A D H D' H') : PSafe A D' H' t z := ⟨h.1.step f, h.2.1.step f, h.2.2.1.step f, h.2.2.2⟩
theorem PSafe.keep {A : Adr} {D : DS} {H H' : Hp} {t : Addr} {z : Part} (h : PSafe A D H t z) (k : ∀ b, b ≠ t → H' b = H b) : PSafe A D H' t z := ⟨h.1.keep k, h.2.1.keep k, h.2.2.1.keep k, h.2.2.2⟩
noncomputable def spx5s (K : PySem.W.Frag) (A : Adr) : Sp := fun vs H Q _ => ∃ (a : Addr) (ns : List Int), vs = [.ref a] ∧ SqL K H a (ns.map V.int) ∧ ns.length ≤ 16000 ∧ PyVbpoac.answers_asked ns = true ∧ ∀ (H' : Hp) (p : Addr), H' p = some (.lst ((PyVbpoac.answers ns).map V.int)) → Q (.ref p) H'
theorem okx5s (T : Txt K mg A) {f : Addr} {fd : FuncData} (F : Fun K "answers" "answers" sx5s f fd) : FnOk P w K mg base CX0 10 f fd ["calls"] (spx5s K A) := by
 have Mx1y := cx1z P w base T
 have Cx5r := cx5r P w base T
 have Cx5k := cx5k P w base T
 refine F.ok (k := 9) scx5s (fun vs H Q E h => ?_) (fun cdv A' outer s H vs Q E hr h => ?_)
 ·obtain ⟨_, _, rfl, _⟩ := h
  rfl
 ·obtain ⟨a, ns, rfl, h⟩ := h
  refine ⟨_, (pss_cons (pst 1 scx5s.nd (pmk0 Mx1y hr rfl))
   (pss_cons (pst 2 scx5s.nd (pe_lst pa_nil))
   (pss_cons (ps_for PassesOwn.never rfl (pi_list (pcl Cx5k hr rfl (pa_cons (pv 0) pa_nil))) (pg_tup rfl (pgs_cons (pgn 3 scx5s.nd) (pgs_cons (pgn 4 scx5s.nd) (pgs_cons (pgn 5 scx5s.nd) pgs_nil))))
    (pss_cons (pst 6 scx5s.nd (pcl Cx5r hr rfl (pa_cons (pv 1) (pa_cons (pv 3) (pa_cons (pv 4) (pa_cons (pv 5) pa_nil))))))
   (pss_cons (ps_expr (pe_bm PySem.F.plainAttrs_list PySem.F.slot_list_append PySem.F.type_list_append mt_append (pv 2) (pa_cons (pe_callB call_len_seq (by rfl) T.b_len (by decide +kernel) (pa_cons (pv 6) pa_nil)) pa_nil)))
   (pss_one (ps_expr (pe_bm PySem.F.plainAttrs_list PySem.F.slot_list_extend PySem.F.type_list_extend mt_extend (pv 2) (pa_cons (pv 6) pa_nil)))))))
   (pss_one (ps_ret (pv 2)))))), ?_⟩
  obtain ⟨hs, hz, hask, q⟩ := h
  obtain ⟨cs, hcs, hne, h400, hshort, h1⟩ := asked_of hask
  have eans := answers_eq hcs
  rw [eans] at hshort q
  have hsh := shaped_all hcs
  walk_at "p"
  intro x dx nx nd ne
  refine ⟨x, dx, rfl, upd_same, fun D0 H1 nw => ⟨rfl, ?_⟩⟩
  have s01 : Same H H1 := fun b o e => by
   have hb1 := ne_of_none e nx
   exact nw.keep b o (by rw [upd_ne hb1, upd_ne (ne_of_none e nd)]; exact e) hb1
  walk_at "p"
  refine nl (fun t H2 n2 g2 s2 _ => ?_)
  walk_at "p"
  have hW2 := nw.at_.same s2
  have ft : ¬ Foot A D0 t := nw.at_.fresh n2
  refine ⟨a, ns, cs, rfl, (s01.trans s2).seq hs, hz, hcs, fun p H3 zs np gp hzs ez s3 => ?_⟩
  have hW3 := hW2.same s3
  have g3 := s3 _ _ g2
  have fresh : ∀ {b : Addr} {o : HO}, H2 b = none → H3 b = some o → Safe A D0 H3 t b o := fun {b o} n g => ⟨g, hW2.fresh n, fun w => by rw [w, g2] at n; cases n⟩
  have hp3 : Safe A D0 H3 t p (.lst (zs.map fun z => V.ref z.t)) := fresh np gp
  have hz3 : ∀ z ∈ zs, PSafe A D0 H3 t z := fun z m => by
   obtain ⟨a1, a2⟩ := hzs z m
   exact ⟨fresh a2.1 a1.1, fresh a2.2.1 a1.2.1, fresh a2.2.2 a1.2.2.1, a1.2.2.2⟩
  have lz : zs.length = cs.length := by rw [← ez, List.length_map]
  refine rd_for (SqL.of gp) (fun i σ H' => ∃ (D : DS) (v3 v4 v5 v6 : Option V), σ = [some (.ref a), some (.ref x), some (.ref t), v3, v4, v5, v6] ∧ WAt A H' D ∧ D.w = x ∧ D.st = stAfter VbpoacNeutral.start (cs.take i) ∧ Good i D.st ∧ H' t = some (.lst ((toldAt (cs.take i)).map V.int)) ∧ ¬ Foot A D t ∧
   Safe A D H' t p (.lst (zs.map fun z => V.ref z.t)) ∧ ∀ z ∈ zs, PSafe A D H' t z) ⟨D0, none, none, none, none, rfl, hW3, nw.w_, nw.st, by rw [nw.st]; exact good_start, g3, ft, hp3, hz3⟩
   (fun i σ H' _ ⟨_, _, _, _, _, _, _, _, _, _, _, _, hp, _⟩ => SqL.of hp.1) ?_ ?_
  ·rintro i y σ H' hi ⟨D, v3, v4, v5, v6, rfl, hW, hDw, hst, hG, ht, hft, hp, hzz⟩
   obtain ⟨z, hz', rfl⟩ := map_ref hi
   have hm := List.mem_of_getElem? hz'
   have hci : cs[i]? = some z.raw := by rw [← ez, List.getElem?_map, hz']; rfl
   have hil : i < cs.length := (List.getElem?_eq_some_iff.mp hci).1
   have hcm := List.mem_of_getElem? hci
   obtain ⟨q1, q2, q3, q4⟩ := hzz z hm
   obtain ⟨b, call, hcall, hC, hrow, hbl⟩ := part_call (forms_of (hsh _ hcm)) (h1 _ hcm) q4
   obtain ⟨et, es⟩ := told_snoc (cs := cs.take i) hcall
   rw [← take_snoc hci] at et es
   have hpre := told_pre cs (i + 1)
   have hsh2 : (toldAt cs).length ≤ 10000000 := hshort
   refine rd_tup3 q1.1 ?_
   walk_at "p"
   refine ⟨i, D, z.k, z.l, z.xs, z.lt, b, call, by rw [hDw], q2.1, by rw [q3.1, hrow], hbl, hC, cll_rng hC, hW, hG, by omega, fun D' H4 p4 an => ?_⟩
   have hW4 := an.at_
   have n4t : p4 ≠ t := fun w => by have := an.new; rw [w, ht] at this; cases this
   have ht4 : H4 t = some (.lst ((toldAt (cs.take i)).map V.int)) := an.fr.keep _ _ ht hft
   have hft4 : ¬ Foot A D' t := an.fr.out hft ht
   have ls4 := an.ls
   have lenE : (toldAt (cs.take (i + 1))).length = (toldAt (cs.take i)).length + ((VbpoacNeutral.flat (Vbpoac.step D.st call).2).length + 1) := by
    rw [et, List.length_append, List.length_cons, hst]
   walk_at "p"
   refine rd_bmL ht4 ?_
   walk_at "p"
   refine ⟨p4, _, rfl, .inl (SqL.of ls4), ?_⟩
   rw [List.length_map]
   walk_at "p"
   refine do_append ht4 (by rw [List.length_map]; show _ < 2 ^ 24; omega) (fun H5 g5 k5 => ?_)
   walk_at "p"
   refine rd_bmL g5 ?_
   walk_at "p"
   refine do_extend g5 ((k5 _ n4t).trans ls4) (by rw [List.length_append, List.length_map, List.length_map]; show _ ≤ 2 ^ 24; simp only [List.length_cons, List.length_nil]; omega) (fun H6 g6 k6 => ?_)
   have k46 : ∀ b, b ≠ t → H6 b = H4 b := fun b hb => (k6 b hb).trans (k5 b hb)
   refine ⟨D', some (.int z.k), some (.ref z.l), some (.ref z.lt), some (.ref p4), rfl, hW4.kept (a := t) (fun b u e n => (k46 b n).trans e) hft4, an.w.trans hDw, ?_, ?_, ?_, hft4, (hp.step an.fr).keep k46, fun y hy => ((hzz y hy).step an.fr).keep k46⟩
   ·rw [an.st, hst, es]
   ·rw [an.st]
    exact good_step hG call
   ·rw [g6, et, hst]
    simp
  ·rintro σ H' ⟨D, v3, v4, v5, v6, rfl, hW, hDw, hst, hG, ht, hft, hp, hzz⟩
   walk_at "p"
   rw [List.length_map, lz, List.take_length] at ht
   exact q H' t ht
end
section
section
open PySem.W (nsIn findIn isFn codeIn keepIn plainGet hasDictIn plainOver makesIn fnOf)
variable {K : PySem.W.Frag} {h : Heap} {mg : Str → Option Value}
theorem fn_at {x : Str} {st : Stmt} {ps : List Str} {f : Addr} {oc : Value} {od an : Option Addr} {osl : Array (Option Value)} {kV doc pm cdv ct : Value} (X : K.In h) (G : h.Ns mainGlobals mg)
  (hb : ∀ (kV doc pm : Value) (an : Option Addr) (cdv ct : Value) (us : List Value), us.length = ps.length → bindArgs (fnOf x x (defArgs st) (defBody st) (defScope st) .none kV doc pm an cdv ct) ⟨us, []⟩ = pure (ps.zip us))
  (a : nsIn K mainGlobals x = some (some (.ref f))) (l : K.lookup f = some ⟨oc, od, .func (fnOf x x (defArgs st) (defBody st) (defScope st) .none kV doc pm an cdv ct), osl⟩) (c : codeIn K cdv x = true) (k : keepIn K (.ref f) = true) : FT K mg x st ps :=
 ⟨f, _, fun_mk (st := st) l c k, PySem.W.mg_of X G a, (fun_mk (st := st) l c k).binds hb⟩
theorem me_at {C : Addr} {m q : Str} {st : Stmt} {ps : List Str} {f : Addr} {oc : Value} {od an : Option Addr} {osl : Array (Option Value)} {kV doc pm cdv ct : Value}
  (hb : ∀ (kV doc pm : Value) (an : Option Addr) (cdv ct : Value) (us : List Value), us.length = ps.length → bindArgs (fnOf m q (defArgs st) (defBody st) (defScope st) .none kV doc pm an cdv ct) ⟨us, []⟩ = pure (ps.zip us))
  (a : findIn K (.ref C) m = some (some (.ref f))) (i : isFn K (.ref f) = true) (l : K.lookup f = some ⟨oc, od, .func (fnOf m q (defArgs st) (defBody st) (defScope st) .none kV doc pm an cdv ct), osl⟩) (c : codeIn K cdv q = true) (k : keepIn K (.ref f) = true) : MT K C m q st ps :=
 ⟨f, _, fun_mk (st := st) l c k, a, i, (fun_mk (st := st) l c k).binds hb⟩
theorem gi_at {x : Str} {i : Int} {t : Tok} (X : K.In h) (G : h.Ns mainGlobals mg) (a : nsIn K mainGlobals x = some (some (.int i t))) : GI mg x i := ⟨t, PySem.W.mg_of X G a⟩
theorem gd_at {x : Str} {kvs : List (Int × Int)} {d : Addr} {o : Obj} (X : K.In h) (G : h.Ns mainGlobals mg) (a : nsIn K mainGlobals x = some (some (.ref d))) (l : K.lookup d = some o) (k : KdOk o kvs) : GD K mg x kvs := ⟨d, o, PySem.W.mg_of X G a, l, k⟩
noncomputable def TuOk (o : Obj) (ns : List Int) : Prop := ∃ (its : Array Value) (n : Nat), o.cls = .type "tuple" ∧ o.data = .seq its n ∧ its.size ≤ sizeLine ∧ Vals (ns.map V.int) its.toList
theorem gt_at {x : Str} {ns : List Int} {d : Addr} {o : Obj} (X : K.In h) (G : h.Ns mainGlobals mg) (a : nsIn K mainGlobals x = some (some (.ref d))) (l : K.lookup d = some o) (k : TuOk o ns) : GT K mg x ns := by
 obtain ⟨its, n, h1, h2, h3, h4⟩ := k
 exact ⟨d, PySem.W.mg_of X G a, o, its, n, l, h1, h2, h3, h4⟩
theorem no_cons {C : Addr} {f : Str} {l : List Str} (a : findIn K (.ref C) f = some none) (r : ∀ g ∈ l, NoAttr K C g) : ∀ g ∈ f :: l, NoAttr K C g := fun g hg => by
 rcases List.mem_cons.mp hg with rfl | hg
 ·exact a
 ·exact r g hg
theorem no_nil {C : Addr} : ∀ g ∈ ([] : List Str), NoAttr K C g := fun g hg => by cases hg
theorem mgn_of {n : Str} (X : K.In h) (G : h.Ns mainGlobals mg) (e : nsIn K mainGlobals n = some none) : mg n = none := PySem.W.mg_none_of X G e
theorem cl_at {C : Addr} (pg : plainGet K C Str.empty = true) (hd : hasDictIn K C = true) (po : plainOver K C = true) (sa : findIn K (.ref C) "__setattr__" = some (some (.builtin "object.__setattr__"))) : Cls K C := ⟨pg, hd, po, sa⟩
end
end
noncomputable def spT : PySem.W.Frag → L2.Sp := fun K vs H Q _ => ∃ (a : Addr) (ns : List Int), vs = [.ref a] ∧ L2.SqL K H a (ns.map L2.V.int) ∧ ns.length ≤ 16000 ∧ PyVbpoac.answers_asked ns = true ∧ ∀ (H' : L2.Hp) (p : Addr), H' p = some (.lst ((PyVbpoac.answers ns).map L2.V.int)) → Q (.ref p) H'
theorem ex6 {K : PySem.W.Frag} {h : Heap} {mg : Str → Option Value} (_ : K.In h) {W M Me J E Vo : Addr} (t : Txt K mg ⟨W, M, Me, J, E, Vo⟩) : ∃ A, Txt K mg A := ⟨_, t⟩
theorem f_end {P : Program} {w : World} {K : PySem.W.Frag} {mg : Str → Option Value} {A : Adr} {fa : Addr} (T : Txt K mg A) (hmg : mg "answers" = some (.ref fa)) : ∃ fd : FuncData, (∀ (s : Shared) (us : List Value), us.length = (["calls"] : List Str).length → BindsTo s fd ⟨us, []⟩ ((["calls"] : List Str).zip us)) ∧
  ∀ base : Heap, K.In base → base.Ns mainGlobals mg → FnOk P w K mg base CX0 40 fa fd ["calls"] (spT K) := by
 obtain ⟨f, fd, F, hm, b⟩ := T.fx5s
 have e := hmg.symm.trans hm
 cases e
 refine ⟨fd, ?_, fun base _ _ => (okx5s (P := P) (w := w) (base := base) T F).mono (by decide)⟩
 obtain ⟨oc, od, kV, doc, pm, an, cdv, ct, osl, rfl, lk, hcd⟩ := F.ex
 exact fun s us hu => match us, hu with | [_], _ => .of_eq rfl
end Pm
structure PySem.W.Fast:Prop where(tw14529200508836314341 tw12815165330353241088 tw18359770969043362146 tw5517089542408964710 tw8089212827467014470 tw11847949134201717090 tw13474425132288574353 tw5883565036094014250 tw11225229638883097379 tw14699997036183707081 tw15157015950638389750 tw4044139981658867848 tw4857306788496920426 tw10035174041212687142 tw15758577610715960814 tw4486482263975614987 tw2169468687974295026 tw5227163146024448584 tw7901127041105293678 tw275419946374355896 tw5749643633432457631 tw16280585134362421096 tw15784570013990256259 tw12193609768157791942 tw1982586353840236921 tw1473553509153764936 tw16142847579228707224 tw3378677565007071248 tw10590230754732622193 tw12381749161353669181 tw3157613452772745341 tw5940291961075890129 tw14904403321223156268 tw7844548913347640767 tw3423844277880140313 tw4172469081743901501 tw16779358418216561336 tw16071245173076136449 tw15387490683334922776 tw13771534539799447469 tw9788955992565312438 tw2973721567367293060 tw17236157482248795119 tw486547303368846968 tw823869614024715419 tw16333594143379999025 tw2875454147454773112 tw15829345250481395050 tw13265879185685713856 tw3009870083223543488 tw8616327944879490709 tw8153205805171953562 tw8695305144175604925 tw4759752393739443353 tw3356672710101967226 tw15167496016048528731 tw2979963046961467950 tw6201949401027880290 tw14961705170857289227 tw1234249484640515696 tw14585695837063707541 tw2511165820839536267 tw18286383042232105088 tw9391572641613468961 tw2458861490761798532 tw5004531507338313715 tw6123731382335809005 tw3113225247720410847 tw13351967800618276220 tw8415338332052673466 tw13399708290733633658 tw15093854550874202376 tw7063312445185093624 tw11824686973073797263 tw1232147252692803913 tw10102046225543682256 tw15596121286570164547 tw15251433326411570840 tw2979646289802820895 tw3359360766360080848 tw5628082053772588488 tw1029761648370971738 tw13181575845953988362 tw4816725076142715628 tw11836426600112889673 tw1402735264417481959 tw17948242276881242299 tw9081079167814423495 tw4271538178590664511 tw10008286264930988373 tw10830092105215140735 tw3669398887565303618 tw2917385723890236355 tw8459142720304477968 tw14965790490140279142 tw15270756373401006448 tw16540398523118217604 tw10339756750682406176 tw6100297517870162806 tw7210693765433511249 tw17759631004603878453 tw5375363540687468101 tw7304055995310223099 tw2654051924620590373 tw7184216983312610729 tw5131547518030650247 tw10470252716259497775 tw18146323549405277164 tw8647473682332426026 tw17212416756836293731 tw12292680551279723023 tw8977181436834130145 tw14482512334521493110 tw7794136728468248724 tw17173338477274663610 tw16922819686155741601 tw5201986496827818977 tw17552259901209959992 tw1617144186861060979 tw14818251630644524659 tw12730385961176850227 tw12893696801254982988 tw3901918215482160455 tw17063788086936606427 tw11199252440312474210 tw14613830944032591403 tw8242459223625640271 tw16892976316704873174 tw15292160424903264464 tw11179403163035389334 tw13718573943228798400 tw11264301339655591162 tw8631080579247610833 tw5638701400666237619 tw5227106210841152425 tw6371375116863918438 tw7036690450424806190 tw5985327286175794576 tw16260960867331317385 tw3178822538760883877 tw18264075350172846383 tw11344414626180758830 tw3063782110632282582 tw18048082916778950408 tw13407787865499849256 tw9532550579720215656 tw16734051482864599022 tw12405934244516614071 tw15006818477340885538 tw5818937404963182865 tw6306541905170364346 tw17711780693015115715 tw4303649086047089475 tw595162935136306184 tw8588475139337393385 tw9275900842802782755 tw17882237333648569273 tw14172440234430873575 tw396383926514039004 tw2972941036424560871 tw7114241891157086824 tw13803301341210237741 tw4483512999291253092 tw16439494650115983088 tw14643428523258621158 tw16949447154418089269 tw8961587990195932051 tw7864429392651870129 tw6611214131505676876 tw1299291259256789223 tw11211973210866792174 tw6358056159400857853 tw1212900124502106321 tw16060852843143750204 tw11964828942680186992 tw14254134363371974781 tw3012098440309278245 tw1056364430052241831 tw2553188598183551881 tw5213476304203602305 tw11964949748532247001 tw2341093685921046312 tw1769641012694636760 tw2852524154197283290 tw5208013615553423472 tw11487272722134957296 tw10850022597174686216 tw14205635283266931140 tw10222126166794636825 tw17012248943205384366 tw3877872840859158752 tw6840164788310602174 tw13816788611491283009 tw15164916540086968970 tw10030791780995254327 tw14792602317841557117 tw14732905834420246089 tw13437456758241437308 tw5328634062056153607 tw11583922407714190409 tw6934784706056712804 tw7807539898208817301 tw7571896604138761712 tw22621535785536413 tw7855733581138654833 tw6038735370677040484 tw14926771041062328509 tw12004542798441926485 tw10361051509586929288 tw1600861866745264803 tw7138496870467972650 tw2630758687980369511 tw9079156452162684239 tw17574428289262021766 tw15081385154563434180 tw15091469723637173791 tw335340682629937307 tw17033247867507736284 tw11355384125697436606 tw15131807454129919458 tw6019861832411118649 tw4573666017372677111 tw10331067763225424841 tw1044907331068251839 tw12259082415174298568 tw12248313654076585314 tw5420303020838116716 tw7569144514786950198 tw13634937939571475769 tw9043971801099276961 tw5073062296733069760 tw7655358508771245991 tw4953630360581803435 tw1388700494650000441 tw9264913430259201032 tw6489585196312147022 tw15446625893724365299 tw1047055247714686856 tw2683734875957125590 tw6690277718835411834 tw6874583935812937830 tw14738020320351717276 tw3658240778088464850 tw13976234675334185974 tw8979914931213720158 tw7160475905541771838 tw8131969988076910080 tw17975034903339744412 tw13294664578663461365 tw11474762956596118750 tw12888435926117821841 tw17000381921441686144 tw9689737479948823578 tw17893116637500543376 tw2404820607685597326 tw4493642077726785359 tw115413336941776116 tw8440698450672487615 tw1495374767006686682 tw7132543484648171190 tw3946269320988451572 tw17914236598720780871 tw1286132599404749058 tw3008655190683477669 tw17762426789864089852 tw11044082118128239758 tw7028567164698561524 tw12559328857193806952 tw17066433669494890853 tw2588166066255383844 tw184297040444789574 tw13045258972792139580 tw1721082579267365637 tw10675744390644507746 tw15471914048812441097 tw4614848822265081032 tw10798241198227262318 tw645896878113084058 tw535351197118137559 tw16634834394863647868 tw9810334992016040234 tw10343641350587474677 tw8652871049137206853 tw6320746052458050160 tw13249688012910005991 tw14431664572632706957 tw2060440179460479999 tw9933143744992800679 tw1892267528066198878 tw16559173889841840478 tw15583978433707826983 tw10624289797596570388 tw1383596430688465521 tw17070721452513004706 tw17462190067583338878 tw17161001704820035905 tw3033959748097709073 tw14577368335775482912 tw1869115035223282323 tw15757191201812489991 tw15079844702788412888 tw5512244503967573269 tw4019850903043958735 tw14930929698991607552 tw17432849434883954504 tw1189168218775068177 tw6178170745511714568 tw6318978657905838878 tw12084126132168898783 tw525376730977021238 tw5848874171957886550 tw8265620422366222403 tw2244349171154346766 tw17362558508229714411 tw14334234678348282220 tw5195301948079049723 tw2295633391901626162 tw3876171678091031953 tw17842457301848805623 tw7339127555516702397 tw10464084762834374160 tw15079904965184162414 tw7073873424196718540 tw4400894304714372138 tw11055717246558519951 tw14564415670724201446 tw9927021361138070124 tw1599048138344259727 tw7319723883424407499 tw11539820283077112416 tw59246727083309814 tw8033288159473017512 tw4288346777227365033 tw13718045320557794679 tw15353616870148885614 tw7223152221021527320 tw4582094575167296352 tw3921788515737492854 tw7319526122806668075 tw4996043899943740370 tw13962921760367203997 tw10886745094965472814 tw17086466786642803320 tw4475347641025615329 tw12961708536619192048 tw2762746567298353700 tw14764487732503027391 tw4141022346443317082 tw3739495767601138895 tw6339332554337635738 tw15705741862324700891 tw2178602683806609024 tw8331847351711969830 tw10826849599002491766 tw10762244789317178001 tw5883565265778058493 tw8568343447706450902 tw6563480353545812528 tw10892718587456259767 tw5959165809876471421 tw18174274039974141967 tw15704370736652195730 tw16749885779029409123 tw11149696384476253788 tw8482144160829401859 tw5604980722993285384 tw7972686496041658588 tw7933150439139143771 tw1151113015974401848 tw10911875387933231779 tw5153725559538134644 tw12293548976214872148 tw14719590898035040909 tw18280253553186694947 tw14525858739010975836 tw18336407395923970786 tw6108816320066275928 tw14066089326460148849 tw4371774812926480690 tw210880879470730585 tw3692652324257485860 tw7264972011526589468 tw7899062900828832834 tw14470181602346416944 tw5227388001519904416 tw6311035534075055378 tw15194673004266289977 tw9031073548212328591 tw7238742941249626109 tw15499032880118411564 tw1001760532144672318 tw7585792602056319157 tw2881254587100257606 tw10680050964682266220 tw9416313804878031443 tw8110037377628293945 tw2199865755250778653 tw5892361588593469125 tw3538825982678527894 tw16458929196888602176 tw12014560861576386582 tw12866543350056117492 tw11096059398104994636 tw10948318152768520644 tw14856879942861064852 tw9283976594864194579 tw4325570037891476541 tw16863817474380319377 tw5755223969096941838 tw1523707860271330926 tw2647105762070204254 tw8147759152974684848 tw14207627221086356631 tw14933197087105363731 tw14395764506190849880 tw10517230128015444699 tw738390305553646540 tw14719812188110270764 tw16217667309400212641 tw10240018974563588373 tw2152161804089846245 tw16334395049906743951 tw12354765576964405630 tw2256876317369458145 tw6818709857110205223 tw16785155624481396557 tw8661052742442817332 tw4941557263182541977 tw16630644778157309900 tw11630552299526196786 tw10373087273381528286 tw11390474402475472033 tw3533405720426796314 tw9614103546795596981 tw18080376413383396993 tw1338438571787335092 tw4922367578085599392 tw10260641956486183389 tw8967583480076086150 tw7122763822395765410 tw14725909433920789161 tw3213781759265847915 tw386416159849588764 tw2415976691578668214 tw11541134227861715641 tw12648195803177385161 tw14554436293668516219 tw14315983361664471740 tw12819864142635541866 tw17869095366425600875 tw14370692143293324466 tw13951952243806792653 tw18308974557899585564 tw6515106884815342418 tw5263244554230230854 tw10808998459197816853 tw14593621581368567681 tw12906633230175061554 tw3836359413951817527 tw4421493332613933949 tw11445728030940271843 tw13973925994661996428 tw512050520150386050 tw5434684674175983540 tw7905011505300813344 tw12777766088269747322 tw7178674578471060195 tw9545602111949582406 tw15980489416250306739 tw10294732824316505022 tw11314937477526508045 tw13926642348493986149 tw18124569313907107832 tw18199125750200849525 tw25273703607282176 tw13594578981605500862 tw10136375592802095322 tw1823898617289348621 tw11447075567748937775 tw8607099696196399452 tw1875603028515464682 tw5560368734847027508 tw5350916149618644370 tw13317384723703053169 tw13601937850364171401 tw13090785028897669767 tw203859679348467249 tw16573611879913834999 tw13877742199828775668 tw2771645728678215096 tw4623775915995126636 tw9674963670470439955 tw3477967102255390361 tw17353661913810559598 tw12328278359455453439 tw9256842493301933889 tw11398586418923097490 tw8237569949863784812 tw3443996753636347921 tw9084837208362237465 tw6662361283553314684 tw16667674041335734680 tw17955686699032274864:True)
namespace Hd
open PySem PySem.W PyProof.Rows
noncomputable def qS : Program := { PySem.Challenge.rw_postmeters_s01_answers.prog with main := { PySem.Challenge.rw_postmeters_s01_answers.prog.main with body := [PySem.Challenge.rw_postmeters_s01_answers.prog.main.body.getD 199 (.Pass ⟨0, 0, 0, 0⟩)] } }
noncomputable def looseS : List PySem.Str := List.map PySem.Str.ofString ["PAID_IN", "VOUCHER_USED", "REFILL_GRANTED", "HANDED_IN", "SPOILED", "Entry", "Journal", "OUT_OF_RANGE", "NOT_READ", "METER_OFF", "NOT_THERE", "ALREADY_SO", "AS_TOLD", "NOT_ENOUGH", "TOO_MUCH", "with_rows", "LONGEST_TEXT", "BLANK", "POINT", "FIRST_DIGIT", "LAST_DIGIT", "MOST_DIGITS", "HUNDREDTHS_DIGITS", "CODE_DIGITS", "METER_SIGN", "VALUE_SIGN", "DAY_SIGN", "CODE_SIGN", "VOUCHER_SIGN", "VOUCHER_DIGITS", "VOUCHER_LENGTH", "row_of", "padded", "money", "imprint_text", "all_digits", "digits_of", "number_of", "is_in_one_way", "is_padded", "split_at", "read_imprint", "check_digit", "voucher_text", "read_voucher", "GEN", "RISING", "FALLING", "PIECE", "REFILLS", "WHOLE_WRITE", "Memory", "MOST_ACCOUNTS", "MOST_METERS", "MOST_BALANCE", "Meter", "Voucher", "World", "LAST_DAY", "MOST_DAYS", "MOST_DEPOSIT", "MOST_VOUCHERS", "LAST_VOUCHER", "MOST_VOUCHER_VALUE", "move_day", "new_account", "deposit", "new_voucher", "redeem", "check_voucher", "MODULUS", "FACTOR", "ASK_codes", "GRANT", "IMPRINT_codes", "code_of", "sealed", "is_sealed", "COUNTS_imprints", "UNREADABLE", "NO_SUCH_METER", "WRONG_CODE", "BEHIND_THE_STOP", "LATER_THAN_TODAY", "TOO_OLD", "SEEN", "GIVEN_BACK", "MOST_DAYS_TO_COUNT", "MOST_DAYS_TO_SPOIL", "LAST_PIECE", "MOST_TEXT_VALUE", "LAST_TEXT_DAY", "right_text", "meter_of", "piece_of", "value_of", "day_of", "days_since", "verdict_by_days", "verdict_by_use", "verdict", "scan", "judge", "is_of_account", "can_be_given_back", "less_a_twentieth", "spoil", "write_text", "MOST_MESSAGES", "MOST_ASKED", "TO_HOUSE_lines", "TO_METERS", "METER_lines", "NUMBER", "AMOUNT", "TOTAL", "message_refusal", "put_grant", "grant_refill", "ask_arrives", "grant_arrives", "ask", "deliver_to_house", "deliver_to_meter", "messages_on", "place_refusal", "lose", "double", "garble", "MOST_KEY", "MOST_IMPRINT_VALUE", "PRINTED", "new_meter", "stop_meter", "left_in", "withdraw", "write_imprint", "print_imprint", "boot", "LAST_FROM", "MOST_TOLD", "power", "tell_registers", "tell_banks", "tell_meter", "tell_balance", "tell_statement", "tell_lines", "tell_counts", "BEGIN", "DAY", "ACCOUNT", "DEPOSIT", "VOUCHER", "REDEEM", "METER_house", "STOP", "WITHDRAW", "IMPRINT_house", "BOOT", "ASK_house", "TO_HOUSE_house", "TO_METER", "LOSE", "DOUBLE", "GARBLE", "SCAN", "SPOIL", "JUDGE", "REGISTERS", "BANKS", "TOLD", "BALANCE", "STATEMENT", "LINES", "COUNTS_house", "TEXT", "WHOLE_NUMBERS", "CALLS_WITH_TEXT", "split_calls", "answer_on_accounts", "answer_on_meters", "answer_on_lines", "answer_on_imprints", "answer_with_report", "answer_on_texts", "answer"]
theorem PySem.W.holds_os {q : Program} {loose : List PySem.Str} {Xt : Shared → Bool} {XP : (PySem.Str → Option Value) → Heap → Prop} {α : Type} {Yf : Shared → α} {Ya : World → α} {YP : World → Heap → Prop} {d : DefRec} {kwd : List (PySem.Str × Expr)} {N : Nat}
  (left : LeftO PySem.Challenge.rw_postmeters_s01_answers.prog qS looseS (fun s => recOk [] s) Yf Ya N) (hY : ∀ w s, Yf s = Ya w → YP w s.heap) (hYk : ∀ w h h', YP w h → (∀ b o, h.get? b = some o → h'.get? b = some o) → YP w h')
  (hX : ∀ s, Xt s = true → XP (s.heap.nsMap mainGlobals) s.heap) (hXk : ∀ mg h h', XP mg h → (∀ b o, h.get? b = some o → h'.get? b = some o) → XP mg h')
  (hdef : defOf qS PySem.Challenge.rw_postmeters_s01_answers.name = some (d, kwd)) (hp : PySem.Challenge.rw_postmeters_s01_answers.prog.theDef PySem.Challenge.rw_postmeters_s01_answers.name = some (d.params, d.body, d.scope)) (hk : kwWritten? d.params.kwonlyargs d.params.kw_defaults = some kwd)
  (hRf : ∀ s, Xt s = true → RecFacts [] s.heap) (hsh : ∀ as, PySem.Challenge.rw_postmeters_s01_answers.pre as = true → WShape.hasAll [] as (PySem.Challenge.rw_postmeters_s01_answers.args.map Codec.shape) = true)
  (k1 : PySem.Challenge.rw_postmeters_s01_answers.wellSaid = true) (ok : (chainsOk qS && opensWell PySem.Challenge.rw_postmeters_s01_answers.prog) = true) (hb : 0 = 0 ∧ 0 = 0 ∧ 0 = 0 ∧ 0 = 0 ∧ 0 = 0 ∧ 0 = 0) (hw : ∃ args, PySem.Challenge.rw_postmeters_s01_answers.pre args = true ∧ WData.layableAll args = true)
  (call : WalkOS qS looseS (fun _ _ => True) YP PySem.Challenge.rw_postmeters_s01_answers d kwd fun f vs => PySem.call f vs) : PySem.Challenge.rw_postmeters_s01_answers.Holds :=
 _root_.PySem.W.holds_os (r := PySem.Challenge.rw_postmeters_s01_answers) (q := qS) (loose := looseS) (Xt := fun s => recOk [] s) (XP := fun _ _ => True) left hY hYk (fun _ _ => trivial) (fun _ _ _ _ _ => trivial) hdef hp hk (fun s e => recFacts_of e) hsh k1 ok ba hw call
theorem hb1 {P : List Value → Prop} (h : ∀ a, P [a]) : ∀ us, us.length = 1 → P us
 | [a], _ => h a
theorem hb2 {P : List Value → Prop} (h : ∀ a b, P [a, b]) : ∀ us, us.length = 2 → P us
 | [a, b], _ => h a b
theorem hb3 {P : List Value → Prop} (h : ∀ a b c, P [a, b, c]) : ∀ us, us.length = 3 → P us
 | [a, b, c], _ => h a b c
theorem hb4 {P : List Value → Prop} (h : ∀ a b c d, P [a, b, c, d]) : ∀ us, us.length = 4 → P us
 | [a, b, c, d], _ => h a b c d
theorem hb5 {P : List Value → Prop} (h : ∀ a b c d e, P [a, b, c, d, e]) : ∀ us, us.length = 5 → P us
 | [a, b, c, d, e], _ => h a b c d e
theorem hb6 {P : List Value → Prop} (h : ∀ a b c d e f, P [a, b, c, d, e, f]) : ∀ us, us.length = 6 → P us
 | [a, b, c, d, e, f], _ => h a b c d e f
set_option maxHeartbeats 0 in
theorem main_ : PySem.Challenge.rw_postmeters_s01_answers.Holds := by
  have hws := ws
  w_on; k_headS; (case hw => exact ⟨[.list [.int 0]], by decide +kernel, by decide +kernel⟩)
  k_fillS
  refine L2.walk_specK (r := PySem.Challenge.rw_postmeters_s01_answers) (k := 40) (CX := L2.CX0) (ps := ["calls"]) (sp := Pm.spT) ws rfl rfl ⟨rfl, by decide, by decide⟩ (fun w h Y => PySem.W.kIn_of Y) ?F ?S (fun _ _ _ _ z => z)
  case F =>
    intro w mg fa h Y KX G hmg
    clear Y
    have T := by
      refine' Pm.ex6 (mg := mg) KX ?t
      case t =>
        constructor
        all_goals try dsimp only
        case mgx5 => exact PySem.W.mg_of KX G (by k_is)
        case mgx7 => exact PySem.W.mg_of KX G (by k_is)
        case mgx1l => exact PySem.W.mg_of KX G (by k_is)
        case mgx1u => exact PySem.W.mg_of KX G (by k_is)
        case mgx1w => exact PySem.W.mg_of KX G (by k_is)
        case mgx1y => exact PySem.W.mg_of KX G (by k_is)
        all_goals first
          | exact Pm.gi_at KX G (by k_is)
          | exact Pm.mgn_of KX G (by k_is)
          | exact Pm.cl_at (by k_is) (by k_is) (by k_is) (by k_is)
          | (refine' Pm.fn_at KX G ?hb ?a ?l ?c ?k
             (case a => k_is); (case l => k_is); (case c => k_is); (case k => k_is)
             (case hb => first
               | exact fun _ _ _ _ _ _ => hb1 fun _ => by kernel_rfl
               | exact fun _ _ _ _ _ _ => hb2 fun _ _ => by kernel_rfl
               | exact fun _ _ _ _ _ _ => hb3 fun _ _ _ => by kernel_rfl
               | exact fun _ _ _ _ _ _ => hb4 fun _ _ _ _ => by kernel_rfl
               | exact fun _ _ _ _ _ _ => hb5 fun _ _ _ _ _ => by kernel_rfl))
          | (refine' Pm.me_at ?hb ?a ?i ?l ?c ?k
             (case a => k_is); (case i => k_is); (case l => k_is); (case c => k_is); (case k => k_is)
             (case hb => first
               | exact fun _ _ _ _ _ _ => hb1 fun _ => by kernel_rfl
               | exact fun _ _ _ _ _ _ => hb2 fun _ _ => by kernel_rfl
               | exact fun _ _ _ _ _ _ => hb3 fun _ _ _ => by kernel_rfl
               | exact fun _ _ _ _ _ _ => hb4 fun _ _ _ _ => by kernel_rfl
               | exact fun _ _ _ _ _ _ => hb5 fun _ _ _ _ _ => by kernel_rfl
               | exact fun _ _ _ _ _ _ => hb6 fun _ _ _ _ _ _ => by kernel_rfl))
          | (refine' Pm.gd_at KX G ?a ?l ?k
             (case a => k_is); (case l => k_is)
             (case k => exact ⟨⟨rfl, rfl, rfl⟩, _, _, rfl, by repeat first | exact .nil | refine .cons ⟨rfl, ⟨_, rfl⟩, _, rfl⟩ ?_⟩))
          | (refine' Pm.gt_at KX G ?a ?l ?k
             (case a => k_is); (case l => k_is)
             (case k => exact ⟨_, _, rfl, rfl, by decide, by repeat first | exact .nil | refine .cons ⟨_, rfl⟩ ?_⟩))
          | ((repeat refine Pm.no_cons (by k_is) ?_); exact Pm.no_nil)
          | k_is
    obtain ⟨A, T⟩ := T
    exact Pm.f_end T hmg
  case S =>
    intro K H xs a hO hwi hask hx
    cases hx with
    | cons h1 h2 =>
      cases h2
      cases h1 with
      | lst hs ha =>
        have e := L2.ints_dw a.1 _ ha
        subst e
        have q : ((Codec.inLen 0 16000 a.1 && a.1.all (Codec.inInt (-9223372036854775808) 9223372036854775807)) && true) = true := hwi
        rw [Bool.and_eq_true, Bool.and_eq_true] at q
        exact ⟨_, a.1, rfl, hs, (Codec.inNat_iff.mp q.1.1).2, hask, fun H' p hp => .lst (L2.SqL.of hp) (L2.dw_ints _)⟩
end Hd
theorem PySem.Challenge.cw_postmeters_s01_answers_holds : PySem.Challenge.rw_postmeters_s01_answers.Holds :=
 Hd.main_
