import PyProof.Rows.All
import Wide.All
import OpenK.AllK
import Wide.FinOn
import HandS.ForMost
import HandS.WordsExc
import HandS.TryOnly
import KE.KDictKeyed
import KE.KDictDisplayH
import KE.KeyNested
import HandS.TupAny
import HandS.TupMul
import HandS.Deep
import HandS.Codes
import HandS.More
import HandS.IsInst
import HandS.Wide
import HandS.StrMore
import HandS.NoneIn
import HandS.EndBits
import HandS.SetFor
import HandS.Conv
import HandS.SortInts
import HandS.Zip
import PyProof.TypeEq
import HandS.Small
import KE.DatumOrd
import HandS.Style
import KE.SortData
import PyProof.ListStr
import KE.GoesSet
import HandS.Strs
import HandS.DictComp
import HandS.Text
import HandS.TupLe
import HandS.TupLen
import HandS.ExcIs
import HandS.ExcField
import KE.KSuper
import PySem.Challenge.RW_fdwires_k71_fates_of_heads
/-! Mi1.lean -/
set_option Elab.async false
set_option linter.all false
set_option maxRecDepth 100000
/-! A small functional reading of Python: frozen data, mutable objects held by one name, borrowed objects. -/
namespace Mi
open PySem L2 PySem.Spec PyProof.Rows

inductive Ob where
  | lst (ds : List PyData)
  | dct (kvs : List (Key × PyData))
  /-- a dict that is walked -/
  | fdc (kvs : List (Key × PyData))
  /-- a dict whose keys are tuples of any depth -/
  | ddt (kvs : List (PyData × PyData))
structure Exc where
  cls : Str
  flds : List (Str × PyData)
inductive Sl where
  | val (d : PyData)
  | own (o : Ob)
  | bor (k : Nat)
  | cau (x : Exc)
inductive Bo where
  | live (o : Ob)
  | dead (d : PyData)
structure En where
  vs : List (Option Sl)
  os : List Bo
inductive Lo where
  | slot (i : Nat)
  | obj (k : Nat)
  deriving DecidableEq
inductive Rv where
  | val (d : PyData)
  | own (o : Ob)
  | at (l : Lo)
inductive Res (α : Type) where
  | ok (a : α) (r : En)
  | ex (e : Exc) (r : En)
  | no
def M (α : Type) := En → Res α
def M.ret {α : Type} (a : α) : M α := fun r => .ok a r
def M.bnd {α β : Type} (f : M α) (g : α → M β) : M β := fun r =>
  match f r with
  | .ok a r1 => g a r1
  | .ex e r1 => .ex e r1
  | .no => .no
def M.stop {α : Type} : M α := fun _ => .no

/-! ### relations -/
/-- what is known of the heap, of which program, in which world -/
abbrev Ca := Option (Addr × Value × Option Addr)
structure KX where
  fr : PySem.W.Frag
  P : Program
  w : World
  ca : Ca
instance : Coe KX PySem.W.Frag := ⟨KX.fr⟩
abbrev KX.lookup (K : KX) (a : Addr) : Option Obj := List.lookup a K.fr
abbrev KX.In (K : KX) (h : Heap) : Prop := PySem.W.Frag.In K.fr h
abbrev kx (X : Cx) (ε : Ca) : KX := ⟨X.K, X.prog, X.w, ε⟩
variable (K : KX)
def immu : HO → Bool
  | .tup _ => true
  | .frz _ _ => true
  | _ => false
def KLst (a : Addr) (xs : List V) : Prop :=
  ∃ (its : List Value) (n : Nat), K.lookup a = some { cls := .type "list", data := .seq its.toArray n } ∧ its.length ≤ sizeLine ∧ Vals xs its
theorem KLst.sq {K : KX} {H : Hp} {a : Addr} {xs : List V} (h : KLst K a xs) : SqL K H a xs := by
  obtain ⟨its, n, h1, h2, h3⟩ := h
  exact .inr ⟨_, _, _, h1, rfl, rfl, rfl, by simpa using h2, by simpa using h3⟩
def keyD : Key → PyData
  | .inl i => .int i
  | .inr x => .str x
mutual
inductive Fr (H : Hp) (F : Addr → Prop) : V → PyData → Prop
  | non : Fr H F .non .none
  | bl (b : Bool) : Fr H F (.bl b) (.bool b)
  | int (i : Int) : Fr H F (.int i) (.int i)
  | str (x : Str) : Fr H F (.str x) (.str x)
  | own {a : Addr} {xs : List V} {ds : List PyData} : F a → H a = some (.lst xs) → FrAll H F xs ds → Fr H F (.ref a) (.list ds)
  | frz {a : Addr} {o : Obj} {xs : List V} {ds : List PyData} : H a = some (.frz o (.lst xs)) → FrAll H F xs ds → Fr H F (.ref a) (.list ds)
  | klst {a : Addr} {xs : List V} {ds : List PyData} : KLst K a xs → FrAll H F xs ds → Fr H F (.ref a) (.list ds)
  | tup {a : Addr} {xs : List V} {ds : List PyData} : SqT K H a xs → FrAll H F xs ds → Fr H F (.ref a) (.tuple ds)
  | dct {a : Addr} {ps : List (Key × V)} {kvs : List (PyData × PyData)} : F a → H a = some (.dK ps) → kvs.map (·.1) = ps.map (fun p => keyD p.1) → FrAll H F (ps.map (·.2)) (kvs.map (·.2)) → Fr H F (.ref a) (.dict kvs)
inductive FrAll (H : Hp) (F : Addr → Prop) : List V → List PyData → Prop
  | nil : FrAll H F [] []
  | cons {v : V} {vs : List V} {d : PyData} {ds : List PyData} : Fr H F v d → FrAll H F vs ds → FrAll H F (v :: vs) (d :: ds)
end
/-- what stays for frozen data -/
structure Stay (H : Hp) (F : Addr → Prop) (H' : Hp) (F' : Addr → Prop) : Prop where
  fz : ∀ a, F a → F' a
  ffz : ∀ a, F a → H' a = H a
  imm : ∀ a o, H a = some o → immu o = true → H' a = some o
theorem Stay.refl {H : Hp} {F : Addr → Prop} : Stay H F H F := ⟨fun _ h => h, fun _ _ => rfl, fun _ _ h _ => h⟩
theorem Stay.trans {H H1 H2 : Hp} {F F1 F2 : Addr → Prop} (a : Stay H F H1 F1) (b : Stay H1 F1 H2 F2) : Stay H F H2 F2 :=
  ⟨fun x h => b.fz x (a.fz x h), fun x h => (b.ffz x (a.fz x h)).trans (a.ffz x h), fun x o h i => b.imm x o (a.imm x o h i) i⟩
variable {K}
theorem sqt_stay {H H' : Hp} {F F' : Addr → Prop} (s : Stay H F H' F') {a : Addr} {xs : List V} (h : SqT K H a xs) : SqT K H' a xs := by
  rcases h with (h | ⟨o, h⟩) | h
  · exact .inl (.inl (s.imm _ _ h rfl))
  · exact .inl (.inr ⟨o, s.imm _ _ h rfl⟩)
  · exact .inr h
mutual
theorem Fr.stay {H H' : Hp} {F F' : Addr → Prop} (s : Stay H F H' F') : ∀ {v : V} {d : PyData}, Fr K H F v d → Fr K H' F' v d
  | _, _, .non => .non
  | _, _, .bl b => .bl b
  | _, _, .int i => .int i
  | _, _, .str x => .str x
  | _, _, .own h1 h2 h3 => .own (s.fz _ h1) ((s.ffz _ h1).trans h2) (FrAll.stay s h3)
  | _, _, .frz h1 h3 => .frz (s.imm _ _ h1 rfl) (FrAll.stay s h3)
  | _, _, .klst h1 h3 => .klst h1 (FrAll.stay s h3)
  | _, _, .tup h1 h3 => .tup (sqt_stay s h1) (FrAll.stay s h3)
  | _, _, .dct h1 h2 h3 h4 => .dct (s.fz _ h1) ((s.ffz _ h1).trans h2) h3 (FrAll.stay s h4)
theorem FrAll.stay {H H' : Hp} {F F' : Addr → Prop} (s : Stay H F H' F') : ∀ {v : List V} {d : List PyData}, FrAll K H F v d → FrAll K H' F' v d
  | _, _, .nil => .nil
  | _, _, .cons h1 h2 => .cons (Fr.stay s h1) (FrAll.stay s h2)
end
mutual
theorem Fr.dp {H : Hp} {F : Addr → Prop} : ∀ {v : V} {d : PyData}, Fr K H F v d → d.hasDict = false → Dp K H v d
  | _, _, .non, _ => .non
  | _, _, .bl b, _ => .bl b
  | _, _, .int i, _ => .int i
  | _, _, .str x, _ => .str x
  | _, _, .own h1 h2 h3, n => .lst (.inl (.inl h2)) (FrAll.dp h3 (by simpa [PyData.hasDict] using n))
  | _, _, .frz h1 h3, n => .lst (.inl (.inr ⟨_, h1⟩)) (FrAll.dp h3 (by simpa [PyData.hasDict] using n))
  | _, _, .klst h1 h3, n => .lst h1.sq (FrAll.dp h3 (by simpa [PyData.hasDict] using n))
  | _, _, .tup h1 h3, n => .tup h1 (FrAll.dp h3 (by simpa [PyData.hasDict] using n))
  | _, _, .dct _ _ _ _, n => by simp [PyData.hasDict] at n
theorem FrAll.dp {H : Hp} {F : Addr → Prop} : ∀ {v : List V} {d : List PyData}, FrAll K H F v d → PyData.hasDictAll d = false → DpAll K H v d
  | _, _, .nil, _ => .nil
  | _, _, .cons h1 h2, n => by
    simp only [PyData.hasDictAll, Bool.or_eq_false_iff] at n
    exact .cons (Fr.dp h1 n.1) (FrAll.dp h2 n.2)
end
theorem FrAll.len {H : Hp} {F : Addr → Prop} : ∀ {v : List V} {d : List PyData}, FrAll K H F v d → v.length = d.length
  | _, _, .nil => rfl
  | _, _, .cons _ h => by simp [FrAll.len h]
theorem FrAll.app {H : Hp} {F : Addr → Prop} : ∀ {v w : List V} {d e : List PyData}, FrAll K H F v d → FrAll K H F w e → FrAll K H F (v ++ w) (d ++ e)
  | _, _, _, _, .nil, h => h
  | _, _, _, _, .cons h1 h2, h => .cons h1 (FrAll.app h2 h)
theorem FrAll.get {H : Hp} {F : Addr → Prop} : ∀ {v : List V} {d : List PyData} {i : Nat} {e : PyData}, FrAll K H F v d → d[i]? = some e → ∃ x, v[i]? = some x ∧ Fr K H F x e
  | _, _, _, _, .nil, h => by simp at h
  | _, _, 0, _, .cons h1 h2, h => by simp at h; subst h; exact ⟨_, rfl, h1⟩
  | _, _, i + 1, _, .cons h1 h2, h => by
    obtain ⟨x, q, r⟩ := FrAll.get (i := i) h2 (by simpa using h)
    exact ⟨x, by simpa using q, r⟩
theorem FrAll.set {H : Hp} {F : Addr → Prop} {x : V} {e : PyData} (hx : Fr K H F x e) : ∀ {v : List V} {d : List PyData} (i : Nat), FrAll K H F v d → FrAll K H F (v.set i x) (d.set i e)
  | _, _, _, .nil => .nil
  | _, _, 0, .cons h1 h2 => .cons hx h2
  | _, _, i + 1, .cons h1 h2 => .cons h1 (FrAll.set hx i h2)
theorem FrAll.take {H : Hp} {F : Addr → Prop} : ∀ {v : List V} {d : List PyData} (n : Nat), FrAll K H F v d → FrAll K H F (v.take n) (d.take n)
  | _, _, _, .nil => by simp; exact .nil
  | _, _, 0, .cons _ _ => .nil
  | _, _, n + 1, .cons h1 h2 => .cons h1 (FrAll.take n h2)
theorem FrAll.drop {H : Hp} {F : Addr → Prop} : ∀ {v : List V} {d : List PyData} (n : Nat), FrAll K H F v d → FrAll K H F (v.drop n) (d.drop n)
  | _, _, _, .nil => by simp; exact .nil
  | _, _, 0, .cons h1 h2 => .cons h1 h2
  | _, _, n + 1, .cons h1 h2 => FrAll.drop n h2
theorem FrAll.erase {H : Hp} {F : Addr → Prop} : ∀ {v : List V} {d : List PyData} (n : Nat), FrAll K H F v d → FrAll K H F (v.eraseIdx n) (d.eraseIdx n)
  | _, _, _, .nil => by simp; exact .nil
  | _, _, 0, .cons _ h2 => h2
  | _, _, n + 1, .cons h1 h2 => .cons h1 (FrAll.erase n h2)
theorem FrAll.rev {H : Hp} {F : Addr → Prop} : ∀ {v : List V} {d : List PyData}, FrAll K H F v d → FrAll K H F v.reverse d.reverse
  | _, _, .nil => .nil
  | _, _, .cons h1 h2 => by simp only [List.reverse_cons]; exact FrAll.app (FrAll.rev h2) (.cons h1 .nil)

/-! dicts with nested keys -/
mutual
def keyN : PyData → Option NestedKey
  | .none => some .none
  | .bool b => some (.num (if b = true then 1 else 0))
  | .int i => some (.num i)
  | .str x => some (.text x)
  | .tuple ds => (keyNs ds).map .tup
  | .list _ => none
  | .dict _ => none
def keyNs : List PyData → Option (List NestedKey)
  | [] => some []
  | d :: ds => match keyN d, keyNs ds with
    | some k, some ks => some (k :: ks)
    | _, _ => none
end
def keyT (d : PyData) : Option NestedKey := match d with
  | .tuple _ => (keyN d).bind fun k => if k.depth ≤ 8 then some k else none
  | _ => none
/-- the dict object o at a -/
def dN (a : Addr) (o : Obj) : HO := .ext fun h => h.get? a = some o
theorem dN_ok {P : Program} {w : World} {H : Hp} {h : Heap} {a : Addr} {o : Obj} (e : h.get? a = some o) : ObjOk P w H h a (dN a o) := ⟨e, ⟨_, e⟩, fun _ _ z k => k _ z⟩
def NE (K : KX) (H : Hp) (F : Addr → Prop) (x : NestedKey × Addr × Value) (kd : PyData × PyData) : Prop := keyT kd.1 = some x.1 ∧ Fr K H F (.ref x.2.1) kd.1 ∧ ∃ v, RelV v x.2.2 ∧ Fr K H F v kd.2
structure NdO (K : KX) (a : Addr) (o : Obj) (xs : List (NestedKey × Addr × Value)) : Prop where
  ex : ∃ es ep, o.ExactDict ∧ o.data = .dict es ep ∧ es.toList = xs.map (entryOfKey (nestedKind K.P K.w))
  nd : (xs.map (·.1)).Nodup
  sz : xs.length ≤ sizeLine
  lo : (a == sysModules) = false
/-- an object's content -/
def ObR (K : KX) (H : Hp) (F : Addr → Prop) (a : Addr) : Ob → HO → Prop
  | .ddt kvs, u => ∃ o xs, u = dN a o ∧ NdO K a o xs ∧ Paired (NE K H F) xs kvs
  | .lst ds, u => ∃ xs, u = .lst xs ∧ FrAll K H F xs ds
  | .dct kvs, u => ∃ ps, u = .dK ps ∧ Paired (fun (p : Key × V) (q : Key × PyData) => p.1 = q.1 ∧ Fr K H F p.2 q.2) ps kvs
  | .fdc kvs, u => ∃ o ps, u = .frz o (.dK ps) ∧ Paired (fun (p : Key × V) (q : Key × PyData) => p.1 = q.1 ∧ Fr K H F p.2 q.2) ps kvs
theorem paired_imp {α β : Type} {P Q : α → β → Prop} (h : ∀ a b, P a b → Q a b) : ∀ {xs : List α} {ys : List β}, Paired P xs ys → Paired Q xs ys
  | _, _, .nil => .nil
  | _, _, .cons a b => .cons (h _ _ a) (paired_imp h b)
theorem NE.stay {H H' : Hp} {F F' : Addr → Prop} (s : Stay H F H' F') {x : NestedKey × Addr × Value} {kd : PyData × PyData} (h : NE K H F x kd) : NE K H' F' x kd := by
  obtain ⟨h1, h2, v, h3, h4⟩ := h
  exact ⟨h1, h2.stay s, v, h3, h4.stay s⟩
theorem ObR.stay {H H' : Hp} {F F' : Addr → Prop} (s : Stay H F H' F') {a : Addr} {o : Ob} {u : HO} (h : ObR K H F a o u) : ObR K H' F' a o u := by
  cases o with
  | ddt kvs => obtain ⟨o, xs, e, h1, h⟩ := h; exact ⟨o, xs, e, h1, paired_imp (fun a b q => q.stay s) h⟩
  | lst ds => obtain ⟨xs, e, h⟩ := h; exact ⟨xs, e, h.stay s⟩
  | dct kvs => obtain ⟨ps, e, h⟩ := h; exact ⟨ps, e, paired_imp (fun a b q => ⟨q.1, q.2.stay s⟩) h⟩
  | fdc kvs => obtain ⟨o, ps, e, h⟩ := h; exact ⟨o, ps, e, paired_imp (fun a b q => ⟨q.1, q.2.stay s⟩) h⟩
theorem ObR.mut {H : Hp} {F : Addr → Prop} {a : Addr} {o : Ob} {u : HO} (h : ObR K H F a o u) (n : ∀ kvs, o ≠ .fdc kvs) : immu u = false := by
  cases o with
  | ddt kvs => obtain ⟨o, xs, e, h1, h⟩ := h; subst e; rfl
  | fdc kvs => exact absurd rfl (n kvs)
  | lst ds => obtain ⟨xs, e, h⟩ := h; subst e; rfl
  | dct kvs => obtain ⟨ps, e, h⟩ := h; subst e; rfl

/-- what an object is as frozen data -/
def Ob.froz : Ob → Option PyData
  | .lst ds => some (.list ds)
  | .dct kvs => some (.dict (kvs.map fun p => (keyD p.1, p.2)))
  | _ => none
theorem paired_keys {H : Hp} {F : Addr → Prop} : ∀ {ps : List (Key × V)} {kvs : List (Key × PyData)}, Paired (fun (p : Key × V) (q : Key × PyData) => p.1 = q.1 ∧ Fr K H F p.2 q.2) ps kvs →
    (kvs.map fun p => (keyD p.1, p.2)).map (·.1) = ps.map (fun p => keyD p.1) ∧ FrAll K H F (ps.map (·.2)) ((kvs.map fun p => (keyD p.1, p.2)).map (·.2))
  | _, _, .nil => ⟨rfl, .nil⟩
  | _, _, .cons a b => by
    obtain ⟨h1, h2⟩ := paired_keys b
    refine ⟨?_, .cons a.2 h2⟩
    simp only [List.map_cons, List.cons.injEq]
    exact ⟨by rw [a.1], h1⟩
theorem froz_fr {H : Hp} {F : Addr → Prop} {a : Addr} {o : Ob} {u : HO} {d : PyData} (h : ObR K H F a o u) (hH : H a = some u) (e : o.froz = some d) (hF : F a) : Fr K H F (.ref a) d := by
  cases o with
  | lst ds => cases e; obtain ⟨xs, rfl, h⟩ := h; exact .own hF hH h
  | dct kvs =>
    cases e
    obtain ⟨ps, rfl, h⟩ := h
    obtain ⟨h1, h2⟩ := paired_keys h
    exact .dct hF hH h1 h2
  | fdc _ => cases e
  | ddt _ => cases e

/-! ### where objects are held -/
def Holds (α : List Addr) (r : En) (σ : L2.St) : Lo → Addr → Prop
  | .slot i, a => (∃ o, r.vs[i]? = some (some (.own o))) ∧ σ[i]? = some (some (.ref a))
  | .obj k, a => (∃ o, r.os[k]? = some (.live o)) ∧ α[k]? = some a
def LoAt (α : List Addr) (σ : L2.St) : Lo → Addr → Prop
  | .slot i, a => σ[i]? = some (some (V.ref a))
  | .obj k, a => α[k]? = some a
theorem Holds.lo {α : List Addr} {r : En} {σ : L2.St} : ∀ {l : Lo} {a : Addr}, Holds α r σ l a → LoAt α σ l a
  | .slot _, _, h => h.2
  | .obj _, _, h => h.2
def Own (α : List Addr) (r : En) (σ : L2.St) (a : Addr) : Prop := ∃ l, Holds α r σ l a
/-- an exception: its class by name, its fields -/
def ExR (K : KX) (H : Hp) (F : Addr → Prop) (x : Exc) (cls : Value) (d : Option Addr) : Prop :=
  PySem.W.nsIn K mainGlobals x.cls = some (some cls) ∧ match x.flds with
    | [] => d = none
    | fs => ∃ a ps, d = some a ∧ F a ∧ H a = some (.xd ps) ∧ Paired (fun (p : Str × V) (q : Str × PyData) => p.1 = q.1 ∧ Fr K H F p.2 q.2) ps fs
theorem paired_imp' {α β : Type} {P Q : α → β → Prop} (h : ∀ a b, P a b → Q a b) : ∀ {xs : List α} {ys : List β}, Paired P xs ys → Paired Q xs ys
  | _, _, .nil => .nil
  | _, _, .cons a b => .cons (h _ _ a) (paired_imp' h b)
/-- the caught exception -/
def CauR (K : KX) (H : Hp) (F : Addr → Prop) (x : Exc) (v : V) : Prop := ∃ a cls d, K.ca = some (a, cls, d) ∧ v = .ref a ∧ ExR K H F x cls d
theorem CauR.stay {K : KX} {H H' : Hp} {F F' : Addr → Prop} (s : Stay H F H' F') {x : Exc} {v : V} (h : CauR K H F x v) : CauR K H' F' x v := by
  obtain ⟨a, cls, d, h1, h2, ⟨h3, h4⟩⟩ := h
  refine ⟨a, cls, d, h1, h2, ⟨h3, ?_⟩⟩
  cases e : x.flds with
  | nil => rw [e] at h4; exact h4
  | cons f fs =>
    rw [e] at h4
    obtain ⟨b, ps, q1, q0, q2, q3⟩ := h4
    exact ⟨b, ps, q1, s.fz _ q0, (s.ffz _ q0).trans q2, paired_imp' (fun p q z => ⟨z.1, z.2.stay s⟩) q3⟩
theorem CauR.write {K : KX} {H : Hp} {F : Addr → Prop} {a : Addr} {u : HO} (nF : ¬ F a) (sF : ∀ v d, Fr K H F v d → Fr K (upd H a u) F v d) {x : Exc} {v : V} (h : CauR K H F x v) : CauR K (upd H a u) F x v := by
  obtain ⟨b, cls, d, h1, h2, ⟨h3, h4⟩⟩ := h
  refine ⟨b, cls, d, h1, h2, ⟨h3, ?_⟩⟩
  cases e : x.flds with
  | nil => rw [e] at h4; exact h4
  | cons f fs =>
    rw [e] at h4
    obtain ⟨b, ps, q1, q0, q2, q3⟩ := h4
    exact ⟨b, ps, q1, q0, by rw [upd_ne (show b ≠ a from fun z => nF (by rw [← z]; exact q0))]; exact q2, paired_imp' (fun p q z => ⟨z.1, sF _ _ z.2⟩) q3⟩
def SlR (K : KX) (α : List Addr) (H : Hp) (F : Addr → Prop) : Sl → V → Prop
  | .val d, v => Fr K H F v d
  | .own o, v => ∃ a u, v = .ref a ∧ H a = some u ∧ ObR K H F a o u
  | .bor k, v => ∃ a, v = .ref a ∧ α[k]? = some a
  | .cau x, v => CauR K H F x v
def BoR (K : KX) (H : Hp) (F : Addr → Prop) : Bo → Addr → Prop
  | .live o, a => ∃ u, H a = some u ∧ ObR K H F a o u
  | .dead d, a => Fr K H F (.ref a) d
structure SR (K : KX) (α : List Addr) (r : En) (σ : L2.St) (H : Hp) (F : Addr → Prop) : Prop where
  len : r.vs.length = σ.length
  slot : ∀ (i : Nat) (s : Sl), r.vs[i]? = some (some s) → ∃ v : V, σ[i]? = some (some v) ∧ SlR K α H F s v
  obj : ∀ (k : Nat) (b : Bo), r.os[k]? = some b → ∃ a, α[k]? = some a ∧ BoR K H F b a
  apart : ∀ l l' a, Holds α r σ l a → Holds α r σ l' a → l = l'
  sep : ∀ l a, Holds α r σ l a → ¬ F a
  fdom : ∀ a, F a → ∃ u, H a = some u
/-- a result -/
def TR (K : KX) (α : List Addr) (r : En) (σ : L2.St) (H : Hp) (F : Addr → Prop) : Rv → V → Prop
  | .val d, v => Fr K H F v d
  | .own o, v => ∃ a u, v = .ref a ∧ H a = some u ∧ ObR K H F a o u ∧ ¬ F a ∧ ¬ Own α r σ a
  | .at l, v => ∃ a, v = .ref a ∧ LoAt α σ l a
/-- the objects that a step may touch: O before, O' behind -/
structure Step (O : Addr → Prop) (H : Hp) (F : Addr → Prop) (H' : Hp) (F' : Addr → Prop) (O' : Addr → Prop) : Prop where
  keep : ∀ a o, H a = some o → ¬ O a → H' a = some o
  stay : Stay H F H' F'
  nfz : ∀ a, F' a → F a ∨ O a ∨ H a = none
  own : ∀ a, O' a → O a ∨ H a = none
  dom : ∀ a, H' a = none → H a = none
section
variable {O O1 O1' O2 O' : Addr → Prop} {H H1 H2 : Hp} {F F1 F2 : Addr → Prop}
theorem Step.refl (h : ∀ a, O' a → O a) : Step O H F H F O' := ⟨fun _ _ h _ => h, .refl, fun _ h => .inl h, fun a h' => .inl (h a h'), fun _ h => h⟩
theorem Step.trans (a : Step O H F H1 F1 O1) (b : Step O1' H1 F1 H2 F2 O2) (h1 : ∀ a, O1' a → O1 a) : Step O H F H2 F2 O2 where
  keep := fun x o h n => b.keep x o (a.keep x o h n) fun z => (a.own x (h1 x z)).elim n fun e => by rw [h] at e; cases e
  stay := a.stay.trans b.stay
  nfz := fun x h => by
    rcases b.nfz x h with h | h | h
    · exact a.nfz x h
    · exact .inr (a.own x (h1 x h))
    · exact .inr (.inr (a.dom x h))
  own := fun x h => by
    rcases b.own x h with h | h
    · exact a.own x (h1 x h)
    · exact .inr (a.dom x h)
  dom := fun x h => a.dom x (b.dom x h)
theorem Step.more (a : Step O H F H1 F1 O1) (h : ∀ x, O2 x → O1 x) : Step O H F H1 F1 O2 := ⟨a.keep, a.stay, a.nfz, fun x q => a.own x (h x q), a.dom⟩
end
/-- the objects of a state and of a result -/
def OwnT (α : List Addr) (r : En) (σ : L2.St) (x : Rv) (v : V) (a : Addr) : Prop := Own α r σ a ∨ ((∃ o, x = .own o) ∧ v = .ref a)

/-! ### what an evaluator's result wants -/
/-- nothing is let out -/
abbrev W0 : L2.WX := fun _ _ _ _ => False
def AftX (K : KX) (α : List Addr) (σ : L2.St) (O : Addr → Prop) (H : Hp) (F : Addr → Prop) (W : L2.WX) (x : Exc) (e : En) : Prop := ∀ cls d H' F', SR K α e σ H' F' → Step O H F H' F' (Own α e σ) → ExR K H' F' x cls d → W cls d σ H'
theorem AftX.step {K : KX} {α : List Addr} {σ : L2.St} {O O1 O1' : Addr → Prop} {H H1 : Hp} {F F1 : Addr → Prop} {W : L2.WX} {x : Exc} {e : En} (h : AftX K α σ O H F W x e) (s : Step O H F H1 F1 O1) (h1 : ∀ a, O1' a → O1 a) : AftX K α σ O1' H1 F1 W x e :=
  fun cls d H' F' a b c => h cls d H' F' a (s.trans b h1) c
def Aft (K : KX) (α : List Addr) (σ : L2.St) (O : Addr → Prop) (H : Hp) (F : Addr → Prop) (W : L2.WX) (x : Res Rv) (Q : VK) : Prop :=
  match x with
  | .ok r e => ∀ v H' F', SR K α e σ H' F' → Step O H F H' F' (OwnT α e σ r v) → TR K α e σ H' F' r v → Q v H'
  | .ex x e => AftX K α σ O H F W x e
  | .no => False
/-- an expression by its evaluator -/
def tE (K : KX) (α : List Addr) (W : L2.WX) (f : M Rv) : TE := fun σ H Q => ∃ r F, SR K α r σ H F ∧ Aft K α σ (Own α r σ) H F W (f r) Q
theorem Aft.step {α : List Addr} {σ : L2.St} {O O1 O1' : Addr → Prop} {H H1 : Hp} {F F1 : Addr → Prop} {W : L2.WX} {x : Res Rv} {Q : VK} (h : Aft K α σ O H F W x Q) (s : Step O H F H1 F1 O1) (h1 : ∀ a, O1' a → O1 a) : Aft K α σ O1' H1 F1 W x Q := by
  cases x with
  | ok r e => exact fun v H' F' a b c => h v H' F' a (s.trans b h1) c
  | ex x e => exact AftX.step h s h1
  | no => exact h
theorem TR.step {α : List Addr} {r r' : En} {σ : L2.St} {H H' : Hp} {F F' : Addr → Prop} {O' : Addr → Prop} {x : Rv} {v : V} (h : TR K α r σ H F x v) (s : Step (Own α r σ) H F H' F' O') (ho : ∀ a, Own α r' σ a → O' a) : TR K α r' σ H' F' x v := by
  cases x with
  | val d => exact Fr.stay s.stay h
  | own o =>
    obtain ⟨a, u, e, hH, hO, hF, hN⟩ := h
    refine ⟨a, u, e, s.keep a u hH hN, hO.stay s.stay, fun z => ?_, fun z => ?_⟩
    · rcases s.nfz a z with z | z | z
      · exact hF z
      · exact hN z
      · rw [hH] at z; cases z
    · rcases s.own a (ho a z) with z | z
      · exact hN z
      · rw [hH] at z; cases z
  | «at» l => exact h
/-- first f, then g -/
theorem tE_bnd {α : List Addr} {r : En} {σ : L2.St} {H : Hp} {F : Addr → Prop} {f : M Rv} {g : Rv → M Rv} {Q : VK} (S : SR K α r σ H F) (h : Aft K α σ (Own α r σ) H F W (M.bnd f g r) Q) :
    tE K α W f σ H fun v H1 => ∃ r1 F1 x, SR K α r1 σ H1 F1 ∧ Step (Own α r σ) H F H1 F1 (OwnT α r1 σ x v) ∧ TR K α r1 σ H1 F1 x v ∧ Aft K α σ (Own α r1 σ) H1 F1 W (g x r1) Q := by
  refine ⟨r, F, S, ?_⟩
  unfold M.bnd at h
  cases e : f r with
  | ok x r1 =>
    rw [e] at h
    exact fun v H1 F1 a b c => ⟨r1, F1, x, a, b, c, h.step b fun _ z => .inl z⟩
  | ex x r1 => rw [e] at h; exact h
  | no => rw [e] at h; exact h.elim
theorem tE_mono {α : List Addr} {σ : L2.St} {H : Hp} {f : M Rv} {Q Q' : VK} (h : tE K α W f σ H Q) (q : ∀ v H1, Q v H1 → Q' v H1) : tE K α W f σ H Q' := by
  obtain ⟨r, F, S, a⟩ := h
  refine ⟨r, F, S, ?_⟩
  cases e : f r with
  | ok x r1 => rw [e] at a; exact fun v H1 F1 b c d => q _ _ (a v H1 F1 b c d)
  | ex x r1 => rw [e] at a; exact a
  | no => rw [e] at a; exact a
theorem pe_weak {X : Cx} {e : Expr} {t t' : TE} (h : PE X e t) (w : ∀ σ H Q, t' σ H Q → t σ H Q) : PE X e t' := ⟨fun pins s σ H Q I q => h.run pins s σ H Q I (w σ H Q q)⟩
theorem ps_weak {X : Cx} {e : Stmt} {t t' : TS} (h : PS X e t) (w : ∀ D σ H, t' D σ H → t D σ H) : PS X e t' := ⟨fun pins s σ H D I q => h.run pins s σ H D I (w D σ H q)⟩
theorem pss_weak {X : Cx} {e : List Stmt} {t t' : TS} (h : PSs X e t) (w : ∀ D σ H, t' D σ H → t D σ H) : PSs X e t' := ⟨fun pins s σ H D I q => h.run pins s σ H D I (w D σ H q)⟩
end Mi

/-! Mi2.lean -/
set_option Elab.async false
set_option linter.all false
set_option maxRecDepth 100000
namespace Mi
open PySem L2 PySem.Spec PyProof.Rows
variable {K : KX} {α : List Addr} {r r' : En} {σ : L2.St} {H H' : Hp} {F F' : Addr → Prop}

/-! ### content -/
def look (r : En) : Lo → Option Bo
  | .slot i => match r.vs[i]? with
    | some (some (.own o)) => some (.live o)
    | some (some (.val d)) => some (.dead d)
    | _ => none
  | .obj k => r.os[k]?
def content (r : En) : Rv → Option Bo
  | .val d => some (.dead d)
  | .own o => some (.live o)
  | .at l => look r l
def Bo.data : Bo → Option PyData
  | .live (.lst ds) => some (.list ds)
  | .dead d => some d
  | _ => none
def peek (r : En) (x : Rv) : Option PyData := (content r x).bind Bo.data
def CR (K : KX) (H : Hp) (F : Addr → Prop) : Bo → V → Prop
  | .live o, v => ∃ a u, v = .ref a ∧ H a = some u ∧ ObR K H F a o u
  | .dead d, v => Fr K H F v d
theorem content_rel (S : SR K α r σ H F) {x : Rv} {v : V} {b : Bo} (t : TR K α r σ H F x v) (e : content r x = some b) : CR K H F b v := by
  cases x with
  | val d => cases e; exact t
  | own o => cases e; obtain ⟨a, u, h1, h2, h3, _⟩ := t; exact ⟨a, u, h1, h2, h3⟩
  | «at» l =>
    obtain ⟨a, rfl, h⟩ := t
    cases l with
    | slot i =>
      unfold content look at e
      simp only at e
      split at e
      · rename_i o q
        cases e
        obtain ⟨v, h1, a', u, h2, h3, h4⟩ := S.slot _ _ q
        have hh : σ[i]? = some (some (V.ref a)) := h
        rw [h1] at hh; cases hh; cases h2
        exact ⟨a, u, rfl, h3, h4⟩
      · rename_i d q
        cases e
        obtain ⟨v, h1, h2⟩ := S.slot _ _ q
        have hh : σ[i]? = some (some (V.ref a)) := h
        rw [h1] at hh; cases hh
        exact h2
      · cases e
    | obj k =>
      have e' : r.os[k]? = some b := e
      obtain ⟨a', h1, h2⟩ := S.obj _ _ e'
      have hh : α[k]? = some a := h
      rw [h1] at hh; cases hh
      cases b with
      | live o => obtain ⟨u, h3, h4⟩ := h2; exact ⟨a, u, rfl, h3, h4⟩
      | dead d => exact h2
/-- the value v holds the data d, now -/
def Pk (K : KX) (H : Hp) (F : Addr → Prop) (v : V) (d : PyData) : Prop := ∃ b, CR K H F b v ∧ b.data = some d
theorem peek_rel (S : SR K α r σ H F) {x : Rv} {v : V} {d : PyData} (t : TR K α r σ H F x v) (e : peek r x = some d) : Pk K H F v d := by
  unfold peek at e
  cases c : content r x with
  | none => rw [c] at e; cases e
  | some b => rw [c] at e; exact ⟨b, content_rel S t c, e⟩
theorem Pk.fr {v : V} {d : PyData} (h : Fr K H F v d) : Pk K H F v d := ⟨.dead d, h, rfl⟩
/-- a list that may be read -/
def Lx (K : KX) (H : Hp) (a : Addr) (xs : List V) : Prop := Rd H a (.lst xs) ∨ KLst K a xs
theorem Lx.sq {a : Addr} {xs : List V} (h : Lx K H a xs) : SqL K H a xs := h.elim .inl fun h => h.sq
theorem Fr.lx {v : V} {ds : List PyData} (h : Fr K H F v (.list ds)) : ∃ a xs, v = .ref a ∧ Lx K H a xs ∧ FrAll K H F xs ds := by
  cases h with
  | own h1 h2 h3 => exact ⟨_, _, rfl, .inl (.inl h2), h3⟩
  | frz h1 h3 => exact ⟨_, _, rfl, .inl (.inr ⟨_, h1⟩), h3⟩
  | klst h1 h3 => exact ⟨_, _, rfl, .inr h1, h3⟩
theorem Pk.lx {v : V} {ds : List PyData} (h : Pk K H F v (.list ds)) : ∃ a xs, v = .ref a ∧ Lx K H a xs ∧ FrAll K H F xs ds := by
  obtain ⟨b, h, e⟩ := h
  cases b with
  | live o =>
    cases o with
    | lst es =>
      cases e
      obtain ⟨a, u, h1, h2, xs, h3, h4⟩ := h
      subst h3
      exact ⟨a, xs, h1, .inl (.inl h2), h4⟩
    | dct _ => cases e
    | fdc _ => cases e
    | ddt _ => cases e
  | dead d => cases e; exact Fr.lx h
theorem Pk.list {v : V} {ds : List PyData} (h : Pk K H F v (.list ds)) : ∃ a xs, v = .ref a ∧ SqL K H a xs ∧ FrAll K H F xs ds := by
  obtain ⟨a, xs, h1, h2, h3⟩ := h.lx
  exact ⟨a, xs, h1, h2.sq, h3⟩
theorem Pk.dead {v : V} {d : PyData} (h : Pk K H F v d) (n : ∀ ds, d ≠ .list ds) : Fr K H F v d := by
  obtain ⟨b, h, e⟩ := h
  cases b with
  | live o =>
    cases o with
    | lst es => cases e; exact absurd rfl (n es)
    | dct _ => cases e
    | fdc _ => cases e
    | ddt _ => cases e
  | dead d => cases e; exact h
theorem Pk.tup {v : V} {ds : List PyData} (h : Pk K H F v (.tuple ds)) : ∃ a xs, v = .ref a ∧ SqT K H a xs ∧ FrAll K H F xs ds := by
  have h := h.dead fun _ => nofun
  cases h with
  | tup h1 h2 => exact ⟨_, _, rfl, h1, h2⟩
theorem Pk.int {v : V} {i : Int} (h : Pk K H F v (.int i)) : v = .int i := by
  have h := h.dead fun _ => nofun
  cases h; rfl
theorem Pk.str {v : V} {i : Str} (h : Pk K H F v (.str i)) : v = .str i := by
  have h := h.dead fun _ => nofun
  cases h; rfl
theorem Pk.bl {v : V} {i : Bool} (h : Pk K H F v (.bool i)) : v = .bl i := by
  have h := h.dead fun _ => nofun
  cases h; rfl
theorem Pk.non {v : V} (h : Pk K H F v .none) : v = .non := by
  have h := h.dead fun _ => nofun
  cases h; rfl
theorem Pk.dp {v : V} {d : PyData} (h : Pk K H F v d) (n : d.hasDict = false) : Dp K H v d := by
  cases d with
  | list ds => obtain ⟨a, xs, rfl, h1, h2⟩ := h.list; exact .lst h1 (h2.dp (by simpa [PyData.hasDict] using n))
  | _ => exact (h.dead fun _ => nofun).dp n

/-! ### ends of an evaluation -/
theorem Holds.has (S : SR K α r σ H F) {l : Lo} {a : Addr} (h : Holds α r σ l a) : ∃ o u, H a = some u ∧ ObR K H F a o u := by
  cases l with
  | slot i =>
    obtain ⟨⟨o, q⟩, h2⟩ := h
    obtain ⟨v, h1, a', u, h3, h4, h5⟩ := S.slot _ _ q
    rw [h1] at h2; cases h2; cases h3
    exact ⟨o, u, h4, h5⟩
  | obj k =>
    obtain ⟨⟨o, q⟩, h2⟩ := h
    obtain ⟨a', h1, u, h3, h4⟩ := S.obj _ _ q
    rw [h1] at h2; cases h2
    exact ⟨o, u, h3, h4⟩
theorem stay_new (S : SR K α r σ H F) {p : Addr} (o : HO) (hp : H p = none) : Stay H F (upd H p o) F :=
  ⟨fun _ h => h, fun a h => upd_ne (fun e => by obtain ⟨u, q⟩ := S.fdom a h; rw [e, hp] at q; cases q), fun a u h _ => by rw [upd_ne (ne_of_none h hp)]; exact h⟩
/-- a state over a heap that keeps what it leans on -/
theorem SR.over (S : SR K α r σ H F) (s : Stay H F H' F') (ho : ∀ a, Own α r σ a → H' a = H a) (hf : ∀ a, Own α r σ a → ¬ F' a) (hd : ∀ a, F' a → ∃ u, H' a = some u) : SR K α r σ H' F' where
  len := S.len
  slot := fun i x q => by
    obtain ⟨v, h1, h2⟩ := S.slot i x q
    refine ⟨v, h1, ?_⟩
    cases x with
    | val d => exact Fr.stay s h2
    | own o =>
      obtain ⟨a, u, rfl, h3, h4⟩ := h2
      exact ⟨a, u, rfl, (ho a ⟨.slot i, ⟨o, q⟩, h1⟩).trans h3, h4.stay s⟩
    | bor k => exact h2
    | cau x => exact CauR.stay s h2
  obj := fun k b q => by
    obtain ⟨a, h1, h2⟩ := S.obj k b q
    refine ⟨a, h1, ?_⟩
    cases b with
    | live o =>
      obtain ⟨u, h3, h4⟩ := h2
      exact ⟨u, (ho a ⟨.obj k, ⟨o, q⟩, h1⟩).trans h3, h4.stay s⟩
    | dead d => exact Fr.stay s h2
  apart := S.apart
  sep := fun l a h => hf a ⟨l, h⟩
  fdom := hd
theorem SR.new (S : SR K α r σ H F) {p : Addr} (o : HO) (hp : H p = none) : SR K α r σ (upd H p o) F :=
  S.over (stay_new S o hp) (fun a ⟨l, h⟩ => by obtain ⟨_, u, q, _⟩ := h.has S; exact upd_ne (ne_of_none q hp)) (fun a ⟨l, h⟩ => S.sep l a h)
    fun a h => by obtain ⟨u, q⟩ := S.fdom a h; exact ⟨u, by rw [upd_ne (ne_of_none q hp)]; exact q⟩
theorem notOwn_new (S : SR K α r σ H F) {p : Addr} (hp : H p = none) : ¬ Own α r σ p := fun ⟨l, h⟩ => by
  obtain ⟨_, u, q, _⟩ := h.has S
  rw [hp] at q; cases q
theorem notF_new (S : SR K α r σ H F) {p : Addr} (hp : H p = none) : ¬ F p := fun h => by
  obtain ⟨u, q⟩ := S.fdom p h
  rw [hp] at q; cases q
theorem step_new (S : SR K α r σ H F) {p : Addr} (o : HO) (hp : H p = none) {O' : Addr → Prop} (h : ∀ a, O' a → Own α r σ a ∨ a = p) : Step (Own α r σ) H F (upd H p o) F O' where
  keep := fun a u q _ => by rw [upd_ne (ne_of_none q hp)]; exact q
  stay := stay_new S o hp
  nfz := fun a h => .inl h
  own := fun a q => (h a q).elim .inl fun e => .inr (e ▸ hp)
  dom := fun a q => by
    by_cases e : a = p
    · exact e ▸ hp
    · rwa [upd_ne e] at q
/-- how an evaluation may end where nothing that stood has changed -/
structure Fin (K : KX) (H : Hp) (F : Addr → Prop) (z : Rv) (Q : VK) : Prop where
  val : ∀ d v, z = .val d → Fr K H F v d → Q v H
  new : ∀ ds xs p, z = .own (.lst ds) → H p = none → FrAll K H F xs ds → Q (.ref p) (upd H p (.lst xs))
  dct : ∀ p, z = .own (.dct []) → H p = none → Q (.ref p) (upd H p (.dK []))
  tup : ∀ ds xs p, z = .val (.tuple ds) → H p = none → FrAll K H F xs ds → Q (.ref p) (upd H p (.tup xs))
theorem Aft.fin (S : SR K α r σ H F) {z : Rv} {W : L2.WX} {Q : VK} (h : Aft K α σ (Own α r σ) H F W (.ok z r) Q) : Fin K H F z Q where
  val := fun d v e q => by
    subst e
    exact h v H F S (Step.refl fun a q => q.elim id fun ⟨⟨_, z⟩, _⟩ => nomatch z) q
  new := fun ds xs p e hp q => by
    subst e
    refine h _ _ F (S.new _ hp) (step_new S _ hp fun a z => z.elim .inl fun ⟨_, z⟩ => .inr ?_) ⟨p, _, rfl, upd_same, ⟨xs, rfl, q.stay (stay_new S _ hp)⟩, notF_new S hp, notOwn_new S hp⟩
    injection z with z; exact z.symm
  dct := fun p e hp => by
    subst e
    refine h _ _ F (S.new _ hp) (step_new S _ hp fun a z => z.elim .inl fun ⟨_, z⟩ => .inr ?_) ⟨p, _, rfl, upd_same, ⟨[], rfl, .nil⟩, notF_new S hp, notOwn_new S hp⟩
    injection z with z; exact z.symm
  tup := fun ds xs p e hp q => by
    subst e
    refine h _ _ F (S.new _ hp) (step_new S _ hp fun a z => z.elim .inl fun ⟨⟨_, z⟩, _⟩ => nomatch z) ?_
    exact .tup (.inl (.inl upd_same)) (q.stay (stay_new S _ hp))

/-! ### names, constants, operators -/
def nmE (i : Nat) : M Rv := fun r =>
  match r.vs[i]? with
  | some (some (.val d)) => .ok (.val d) r
  | some (some (.own _)) => .ok (.at (.slot i)) r
  | some (some (.bor k)) => .ok (.at (.obj k)) r
  | _ => .no
def kE (d : PyData) : M Rv := fun r => .ok (.val d) r
def op2 (g : PyData → PyData → Option Rv) (x y : Rv) : M Rv := fun r =>
  match peek r x, peek r y with
  | some d, some e => match g d e with
    | some z => .ok z r
    | none => .no
  | _, _ => .no
def binE (g : PyData → PyData → Option Rv) (f h : M Rv) : M Rv := M.bnd f fun x => M.bnd h fun y => op2 g x y
def op1 (g : PyData → Option Rv) (x : Rv) : M Rv := fun r =>
  match peek r x with
  | some d => match g d with
    | some z => .ok z r
    | none => .no
  | _ => .no
def unE (g : PyData → Option Rv) (f : M Rv) : M Rv := M.bnd f fun x => op1 g x
theorem nm_ok {i : Nat} {Q : VK} (h : tE K α W (nmE i) σ H Q) : tVar i σ H Q := by
  obtain ⟨r, F, S, h⟩ := h
  unfold nmE at h
  split at h
  · rename_i d q
    obtain ⟨v, h1, h2⟩ := S.slot _ _ q
    exact ⟨v, h1, (Aft.fin S h).val d v rfl h2⟩
  · rename_i o q
    obtain ⟨v, h1, a, u, rfl, h2⟩ := S.slot _ _ q
    exact ⟨_, h1, h _ H F S (Step.refl fun a q => q.elim id fun ⟨⟨_, z⟩, _⟩ => nomatch z) ⟨a, rfl, h1⟩⟩
  · rename_i k q
    obtain ⟨v, h1, a, rfl, h2⟩ := S.slot _ _ q
    exact ⟨_, h1, h _ H F S (Step.refl fun a q => q.elim id fun ⟨⟨_, z⟩, _⟩ => nomatch z) ⟨a, rfl, h2⟩⟩
  · exact h.elim
theorem k_ok {v : V} {d : PyData} {Q : VK} (hd : ∀ H F, Fr K H F v d) (h : tE K α W (kE d) σ H Q) : tC v σ H Q := by
  obtain ⟨r, F, S, h⟩ := h
  exact (Aft.fin S h).val d v rfl (hd H F)
/-- an operator of two values by what it does to the data -/
def Op2 (K : KX) (ro : R2) (g : PyData → PyData → Option Rv) : Prop :=
  ∀ (H : Hp) (F : Addr → Prop) (x y : V) (d e : PyData) (z : Rv) (Q : VK), Pk K H F x d → Pk K H F y e → g d e = some z → Fin K H F z Q → ro x y H Q
theorem tOp_ok {ro : R2} {g : PyData → PyData → Option Rv} (hs : Op2 K ro g) {fa fb : M Rv} {Q : VK} (h : tE K α W (binE g fa fb) σ H Q) : tOp ro (tE K α W fa) (tE K α W fb) σ H Q := by
  obtain ⟨r, F, S, h⟩ := h
  refine tE_mono (tE_bnd S h) fun x H1 ⟨r1, F1, x1, S1, st1, t1, h1⟩ => ?_
  refine tE_mono (tE_bnd S1 h1) fun y H2 ⟨r2, F2, x2, S2, st2, t2, h2⟩ => ?_
  have t1' := t1.step st2 fun a z => .inl z
  unfold op2 at h2
  cases e1 : peek r2 x1 with
  | none => simp only [e1] at h2; exact h2.elim
  | some d =>
    cases e2 : peek r2 x2 with
    | none => simp only [e1, e2] at h2; exact h2.elim
    | some e =>
      simp only [e1, e2] at h2
      cases e3 : g d e with
      | none => simp only [e3] at h2; exact h2.elim
      | some z =>
        simp only [e3] at h2
        exact hs H2 F2 x y d e z Q (peek_rel S2 t1' e1) (peek_rel S2 t2 e2) e3 (Aft.fin S2 h2)
def Op1 (K : KX) (ro : V → Hp → VK → Prop) (g : PyData → Option Rv) : Prop :=
  ∀ (H : Hp) (F : Addr → Prop) (x : V) (d : PyData) (z : Rv) (Q : VK), Pk K H F x d → g d = some z → Fin K H F z Q → ro x H Q
theorem t1_ok {ro : V → Hp → VK → Prop} {g : PyData → Option Rv} (hs : Op1 K ro g) {fa : M Rv} {Q : VK} (h : tE K α W (unE g fa) σ H Q) : tE K α W fa σ H fun x H1 => ro x H1 Q := by
  obtain ⟨r, F, S, h⟩ := h
  refine tE_mono (tE_bnd S h) fun x H1 ⟨r1, F1, x1, S1, st1, t1, h1⟩ => ?_
  unfold op1 at h1
  cases e1 : peek r1 x1 with
  | none => simp only [e1] at h1; exact h1.elim
  | some d =>
    simp only [e1] at h1
    cases e3 : g d with
    | none => simp only [e3] at h1; exact h1.elim
    | some z =>
      simp only [e3] at h1
      exact hs H1 F1 x d z Q (peek_rel S1 t1 e1) e3 (Aft.fin S1 h1)
section
variable {X : Cx} {a b e : Expr} {fa fb f : M Rv} {pos : Pos}
theorem ev_nm (i : Nat) {x : Str} (h : PE X (.Name x pos) (tVar i)) : PE X (.Name x pos) (tE K α W (nmE i)) := pe_weak h fun _ _ _ q => nm_ok q
theorem ev_k {v : V} {d : PyData} (h : PE X e (tC v)) (hd : ∀ H F, Fr K H F v d) : PE X e (tE K α W (kE d)) := pe_weak h fun _ _ _ q => k_ok hd q
theorem ev_int {i j} : PE X (.Constant (.int i) j pos) (tE K α W (kE (.int i))) := ev_k pe_int fun _ _ => .int _
theorem ev_bl {i j} : PE X (.Constant (.bool i) j pos) (tE K α W (kE (.bool i))) := ev_k pe_bl fun _ _ => .bl _
theorem ev_str {i j} : PE X (.Constant (.str i) j pos) (tE K α W (kE (.str i))) := ev_k pe_str fun _ _ => .str _
theorem ev_non {j} : PE X (.Constant .none j pos) (tE K α W (kE .none)) := ev_k pe_non fun _ _ => .non
theorem ev_bin {op : Operator} {ro : R2} {g : PyData → PyData → Option Rv} (hr : OpR X (binaryOp op) ro) (hs : Op2 K ro g) (ha : PE X a (tE K α W fa)) (hb : PE X b (tE K α W fb)) : PE X (.BinOp a op b pos) (tE K α W (binE g fa fb)) :=
  pe_weak (pe_op hr ha hb) fun _ _ _ q => tOp_ok hs q
theorem ev_cmp {op : CmpOp} {ro : R2} {g : PyData → PyData → Option Rv} (hr : OpR X (compareOp op) ro) (hm : behindInMarks op b = false) (hs : Op2 K ro g) (ha : PE X a (tE K α W fa)) (hb : PE X b (tE K α W fb)) : PE X (.Compare a [op] [b] pos) (tE K α W (binE g fa fb)) :=
  pe_weak (pe_cmpR hr ha hb hm) fun _ _ _ q => tOp_ok hs q
theorem ev_ix {ro : R2} {g : PyData → PyData → Option Rv} (hr : IxR X ro) (hp : PlainIx b) (hs : Op2 K ro g) (ha : PE X a (tE K α W fa)) (hb : PE X b (tE K α W fb)) : PE X (.Subscript a b pos) (tE K α W (binE g fa fb)) :=
  pe_weak (pe_ix hr ha hb hp) fun _ _ _ q => tOp_ok hs q
theorem ev_un {op : UnaryOp} {ro : V → Hp → VK → Prop} {g : PyData → Option Rv} (hr : UnR X (unaryOp op) ro) (hs : Op1 K ro g) (ha : PE X a (tE K α W fa)) : PE X (.UnaryOp op a pos) (tE K α W (unE g fa)) :=
  pe_weak (pe_un hr ha) fun _ _ _ q => t1_ok hs q
end
end Mi

/-! Mi3.lean -/
set_option Elab.async false
set_option linter.all false
set_option maxRecDepth 100000
namespace Mi
open PySem L2 PySem.Spec PyProof.Rows
variable {K : KX} {α : List Addr} {r r' : En} {σ : L2.St} {H H' : Hp} {F F' : Addr → Prop}

/-! ### tests -/
/-- the same for a result that is no value of the heap -/
def AftB {β : Type} (K : KX) (α : List Addr) (σ : L2.St) (O : Addr → Prop) (H : Hp) (F : Addr → Prop) (W : L2.WX) (x : Res β) (Q : β → Hp → Prop) : Prop :=
  match x with
  | .ok b e => ∀ H' F', SR K α e σ H' F' → Step O H F H' F' (Own α e σ) → Q b H'
  | .ex x e => AftX K α σ O H F W x e
  | .no => False
def tB' {β : Type} (K : KX) (α : List Addr) (W : L2.WX) (f : M β) : L2.St → Hp → (β → Hp → Prop) → Prop := fun σ H Q => ∃ r F, SR K α r σ H F ∧ AftB K α σ (Own α r σ) H F W (f r) Q
abbrev tT (K : KX) (α : List Addr) (W : L2.WX) (f : M Bool) : TT := tB' K α W f
theorem AftB.step {β : Type} {O O1 O1' : Addr → Prop} {H1 : Hp} {F1 : Addr → Prop} {W : L2.WX} {x : Res β} {Q : β → Hp → Prop} (h : AftB K α σ O H F W x Q) (s : Step O H F H1 F1 O1) (h1 : ∀ a, O1' a → O1 a) : AftB K α σ O1' H1 F1 W x Q := by
  cases x with
  | ok r e => exact fun H' F' a b => h H' F' a (s.trans b h1)
  | ex x e => exact AftX.step h s h1
  | no => exact h
theorem AftB.here {β : Type} (S : SR K α r σ H F) {b : β} {W : L2.WX} {Q : β → Hp → Prop} (h : AftB K α σ (Own α r σ) H F W (.ok b r) Q) : Q b H := h H F S (Step.refl fun _ z => z)
theorem tB_mono {β : Type} {f : M β} {Q Q' : β → Hp → Prop} (h : tB' K α W f σ H Q) (q : ∀ v H1, Q v H1 → Q' v H1) : tB' K α W f σ H Q' := by
  obtain ⟨r, F, S, a⟩ := h
  refine ⟨r, F, S, ?_⟩
  cases e : f r with
  | ok x r1 => rw [e] at a; exact fun H1 F1 b c => q _ _ (a H1 F1 b c)
  | ex x r1 => rw [e] at a; exact a
  | no => rw [e] at a; exact a
/-- a value, then what is no value -/
theorem tE_bndB {β : Type} {f : M Rv} {g : Rv → M β} {Q : β → Hp → Prop} (S : SR K α r σ H F) (h : AftB K α σ (Own α r σ) H F W (M.bnd f g r) Q) :
    tE K α W f σ H fun v H1 => ∃ r1 F1 x, SR K α r1 σ H1 F1 ∧ Step (Own α r σ) H F H1 F1 (OwnT α r1 σ x v) ∧ TR K α r1 σ H1 F1 x v ∧ AftB K α σ (Own α r1 σ) H1 F1 W (g x r1) Q := by
  refine ⟨r, F, S, ?_⟩
  unfold M.bnd at h
  cases e : f r with
  | ok x r1 =>
    rw [e] at h
    exact fun v H1 F1 a b c => ⟨r1, F1, x, a, b, c, h.step b fun _ z => .inl z⟩
  | ex x r1 => rw [e] at h; exact h
  | no => rw [e] at h; exact h.elim
theorem tB_bnd {β : Type} {f : M β} {g : β → M Rv} {Q : VK} (S : SR K α r σ H F) (h : Aft K α σ (Own α r σ) H F W (M.bnd f g r) Q) :
    tB' K α W f σ H fun b H1 => tE K α W (g b) σ H1 Q := by
  refine ⟨r, F, S, ?_⟩
  unfold M.bnd at h
  cases e : f r with
  | ok x r1 =>
    rw [e] at h
    exact fun H1 F1 a b => ⟨r1, F1, a, h.step b fun _ z => z⟩
  | ex x r1 => rw [e] at h; exact h
  | no => rw [e] at h; exact h.elim
theorem tB_bndB {β γ : Type} {f : M β} {g : β → M γ} {Q : γ → Hp → Prop} (S : SR K α r σ H F) (h : AftB K α σ (Own α r σ) H F W (M.bnd f g r) Q) :
    tB' K α W f σ H fun b H1 => ∃ r1 F1, SR K α r1 σ H1 F1 ∧ Step (Own α r σ) H F H1 F1 (Own α r1 σ) ∧ AftB K α σ (Own α r1 σ) H1 F1 W (g b r1) Q := by
  refine ⟨r, F, S, ?_⟩
  unfold M.bnd at h
  cases e : f r with
  | ok x r1 =>
    rw [e] at h
    exact fun H1 F1 a b => ⟨r1, F1, a, b, h.step b fun _ z => z⟩
  | ex x r1 => rw [e] at h; exact h
  | no => rw [e] at h; exact h.elim

def boolOf : PyData → Option Bool
  | .bool b => some b
  | _ => none
def truthOf : PyData → Option Bool
  | .none => some false
  | .bool b => some b
  | .int i => some (i != 0)
  | .str x => if x.length ≤ sizeLine then some (x.length != 0) else none
  | .list ds => some (!ds.isEmpty)
  | .tuple ds => some (!ds.isEmpty)
  | _ => none
def tst (g : PyData → Option Bool) (x : Rv) : M Bool := fun r =>
  match (peek r x).bind g with
  | some b => .ok b r
  | none => .no
def tstB (f : M Rv) : M Bool := M.bnd f (tst boolOf)
def tstT (f : M Rv) : M Bool := M.bnd f (tst truthOf)
theorem tst_ok {g : PyData → Option Bool} {f : M Rv} {P : V → Hp → Bool → Prop} (hs : ∀ H F v d b, Pk K H F v d → g d = some b → P v H b) {Q : Bool → Hp → Prop} (h : tT K α W (M.bnd f (tst g)) σ H Q) :
    tE K α W f σ H fun v H1 => ∃ k, P v H1 k ∧ Q k H1 := by
  obtain ⟨r, F, S, h⟩ := h
  refine tE_mono (tE_bndB S h) fun x H1 ⟨r1, F1, x1, S1, st1, t1, h1⟩ => ?_
  unfold tst at h1
  cases e1 : peek r1 x1 with
  | none => simp only [e1] at h1; exact h1.elim
  | some d =>
    cases e2 : g d with
    | none => simp only [e1, Option.bind_some, e2] at h1; exact h1.elim
    | some b =>
      simp only [e1, Option.bind_some, e2] at h1
      exact ⟨b, hs H1 F1 x d b (peek_rel S1 t1 e1) e2, AftB.here S1 h1⟩
theorem bool_pk {F : Addr → Prop} {v : V} {d : PyData} {b : Bool} (h : Pk K H F v d) (e : boolOf d = some b) : v = .bl b := by
  cases d <;> cases e
  exact h.bl
theorem FrAll.emp {v : List V} {d : List PyData} (h : FrAll K H F v d) : v.isEmpty = d.isEmpty := by cases h <;> rfl
theorem truth_pk {F : Addr → Prop} {v : V} {d : PyData} {b : Bool} (h : Pk K H F v d) (e : truthOf d = some b) : TruV K v H b := by
  cases d with
  | none => cases e; rw [h.non]; rfl
  | bool x => cases e; rw [h.bl]; rfl
  | int i => cases e; rw [h.int]; rfl
  | str x =>
    rw [h.str]
    have e : (if x.length ≤ sizeLine then some (x.length != 0) else none) = some b := e
    split at e
    · rename_i hx
      cases e
      refine ⟨hx, ?_⟩
      rw [Bool.eq_iff_iff, bne_iff_ne, bne_iff_ne]
      omega
    · cases e
  | list ds =>
    cases e
    obtain ⟨a, xs, rfl, h1, h2⟩ := h.list
    exact .inl ⟨xs, h1, by rw [h2.emp]⟩
  | tuple ds =>
    cases e
    obtain ⟨a, xs, rfl, h1, h2⟩ := h.tup
    exact .inr (.inl ⟨xs, h1, by rw [h2.emp]⟩)
  | dict _ => cases e
def andB (f g : M Bool) : M Bool := M.bnd f fun c => if c = true then g else M.ret false
def orB (f g : M Bool) : M Bool := M.bnd f fun c => if c = true then M.ret true else g
def notB (f : M Bool) : M Bool := M.bnd f fun c => M.ret (!c)
def iteE (t : M Bool) (f g : M Rv) : M Rv := M.bnd t fun c => if c = true then f else g
def bV (f : M Bool) : M Rv := M.bnd f fun c => M.ret (.val (.bool c))
theorem tB_ret {β : Type} {b : β} {Q : β → Hp → Prop} (h : tB' K α W (M.ret b) σ H Q) : Q b H := by
  obtain ⟨r, F, S, h⟩ := h
  exact AftB.here S h
theorem and_ok {f g : M Bool} {Q : Bool → Hp → Prop} (h : tT K α W (andB f g) σ H Q) : tAnd (tT K α W f) (tT K α W g) σ H Q := by
  obtain ⟨r, F, S, h⟩ := h
  refine tB_mono (tB_bndB S h) fun b H1 ⟨r1, F1, S1, _, h1⟩ => ?_
  cases b with
  | true => exact ⟨r1, F1, S1, h1⟩
  | false => exact AftB.here S1 h1
theorem or_ok {f g : M Bool} {Q : Bool → Hp → Prop} (h : tT K α W (orB f g) σ H Q) : tOr (tT K α W f) (tT K α W g) σ H Q := by
  obtain ⟨r, F, S, h⟩ := h
  refine tB_mono (tB_bndB S h) fun b H1 ⟨r1, F1, S1, _, h1⟩ => ?_
  cases b with
  | false => exact ⟨r1, F1, S1, h1⟩
  | true => exact AftB.here S1 h1
theorem not_ok {f : M Bool} {Q : Bool → Hp → Prop} (h : tT K α W (notB f) σ H Q) : tNot (tT K α W f) σ H Q := by
  obtain ⟨r, F, S, h⟩ := h
  exact tB_mono (tB_bndB S h) fun b H1 ⟨r1, F1, S1, _, h1⟩ => AftB.here S1 h1
theorem ite_ok {t : M Bool} {f g : M Rv} {Q : VK} (h : tE K α W (iteE t f g) σ H Q) : tIf (tT K α W t) (tE K α W f) (tE K α W g) σ H Q := by
  obtain ⟨r, F, S, h⟩ := h
  refine tB_mono (tB_bnd S h) fun b H1 h1 => ?_
  cases b with
  | true => exact h1
  | false => exact h1
theorem pt_weak {X : Cx} {e : Expr} {t t' : TT} (h : PT X e t) (w : ∀ σ H Q, t' σ H Q → t σ H Q) : PT X e t' := ⟨fun pins s σ H Q I q => h.run pins s σ H Q I (w σ H Q q)⟩
theorem pw_weak {X : Cx} {e : Expr} {t t' : TT} (h : PW X e t) (w : ∀ σ H Q, t' σ H Q → t σ H Q) : PW X e t' := ⟨fun wh pins s σ H Q I q => h.run wh pins s σ H Q I (w σ H Q q)⟩
theorem pa_weak {X : Cx} {es : List Expr} {t t' : TA} (h : PA X es t) (w : ∀ σ H Q, t' σ H Q → t σ H Q) : PA X es t' := ⟨fun wh pins s σ H Q I q => h.run wh pins s σ H Q I (w σ H Q q)⟩
section
variable {X : Cx} {a b c e : Expr} {rest : List Expr} {fa fb fc f : M Rv} {t u : M Bool} {pos : Pos}
theorem tv_bool (h : PE X e (tE K α W f)) (he : ∀ whole, isTrue e X.env whole = (do let v ← whole; standAt e.pos; holding [v] (truthy v)) := by intro _; rfl) : PT X e (tT K α W (tstB f)) :=
  pt_weak (pt_val h he) fun _ _ _ q => tst_ok (P := fun v _ b => v = .bl b) (fun _ _ _ _ _ p e => bool_pk p e) q
theorem tv_truth (h : PE X e (tE (kx X ε) α W f)) (he : ∀ whole, isTrue e X.env whole = (do let v ← whole; standAt e.pos; holding [v] (truthy v)) := by intro _; rfl) : PT X e (tT (kx X ε) α W (tstT f)) :=
  pt_weak (pt_truth h he) fun _ H _ q => tst_ok (P := fun v H b => TruV (kx X ε) v H b) (fun _ _ _ _ _ p e => truth_pk p e) q
theorem tv_cmp {op : CmpOp} {ro : R2} {g : PyData → PyData → Option Rv} (hr : OpR X (compareOp op) ro) (hm : behindInMarks op b = false) (hs : Op2 K ro g) (ha : PE X a (tE K α W fa)) (hb : PE X b (tE K α W fb)) : PT X (.Compare a [op] [b] pos) (tT K α W (tstB (binE g fa fb))) :=
  pt_weak (pt_cmpR hr ha hb hm) fun σ H Q q => by
    have q1 := tst_ok (P := fun v _ b => v = .bl b) (fun _ _ _ _ _ p e => bool_pk p e) q
    exact tOp_ok hs q1
theorem tv_and1 (h : PT X a (tT K α W t)) : PW X (.BoolOp .And [a] pos) (tT K α W t) := pw_and1 h
theorem tv_or1 (h : PT X a (tT K α W t)) : PW X (.BoolOp .Or [a] pos) (tT K α W t) := pw_or1 h
theorem tv_and (h : PT X a (tT K α W t)) (h2 : PW X (.BoolOp .And (b :: rest) pos) (tT K α W u)) : PW X (.BoolOp .And (a :: b :: rest) pos) (tT K α W (andB t u)) := pw_weak (pw_and h h2) fun _ _ _ q => and_ok q
theorem tv_or (h : PT X a (tT K α W t)) (h2 : PW X (.BoolOp .Or (b :: rest) pos) (tT K α W u)) : PW X (.BoolOp .Or (a :: b :: rest) pos) (tT K α W (orB t u)) := pw_weak (pw_or h h2) fun _ _ _ q => or_ok q
theorem tv_not (h : PT X a (tT K α W t)) : PT X (.UnaryOp .Not a pos) (tT K α W (notB t)) := pt_weak (pt_not h) fun _ _ _ q => not_ok q
theorem ev_ite (hc : PT X c (tT K α W t)) (ha : PE X a (tE K α W fa)) (hb : PE X b (tE K α W fb)) : PE X (.IfExp c a b pos) (tE K α W (iteE t fa fb)) := pe_weak (pe_ifExp hc ha hb) fun _ _ _ q => ite_ok q
end
/-! a and b, a or b, not a as values, all True or False -/
def andE (f g : M Rv) : M Rv := M.bnd (tstB f) fun c => if c = true then g else M.ret (.val (.bool false))
def orE (f g : M Rv) : M Rv := M.bnd (tstB f) fun c => if c = true then M.ret (.val (.bool true)) else g
def notE (f : M Rv) : M Rv := M.bnd (tstB f) fun c => M.ret (.val (.bool (!c)))
theorem tE_ret {d : PyData} {v : V} {Q : VK} (hd : ∀ H F, Fr K H F v d) (h : tE K α W (M.ret (.val d)) σ H Q) : Q v H := k_ok hd h
theorem tstB_ok {f : M Rv} {Q : Bool → Hp → Prop} (h : tT K α W (tstB f) σ H Q) : tE K α W f σ H fun v H1 => ∃ k, v = .bl k ∧ Q k H1 := tst_ok (P := fun v _ b => v = .bl b) (fun _ _ _ _ _ p e => bool_pk p e) h
section
variable {X : Cx} {a b c e : Expr} {rest : List Expr} {fa fb fc f : M Rv} {pos : Pos}
theorem ev_and1 (h : PE X a (tE K α W fa)) : PE X (.BoolOp .And [a] pos) (tE K α W fa) := pe_one h
theorem ev_or1 (h : PE X a (tE K α W fa)) : PE X (.BoolOp .Or [a] pos) (tE K α W fa) := pe_one h
theorem ev_and (ha : PE X a (tE K α W fa)) (hb : PE X (.BoolOp .And (b :: rest) pos) (tE K α W fb)) : PE X (.BoolOp .And (a :: b :: rest) pos) (tE K α W (andE fa fb)) :=
  pe_weak (pe_and ha hb) fun σ H Q ⟨r, F, S, h⟩ => by
    refine tE_mono (tstB_ok (tB_bnd S h)) fun v H1 ⟨k, e, q⟩ => ⟨k, e, ?_⟩
    cases k with
    | true => exact q
    | false => exact tE_ret (fun _ _ => .bl _) q
theorem ev_or (ha : PE X a (tE K α W fa)) (hb : PE X (.BoolOp .Or (b :: rest) pos) (tE K α W fb)) : PE X (.BoolOp .Or (a :: b :: rest) pos) (tE K α W (orE fa fb)) :=
  pe_weak (pe_or ha hb) fun σ H Q ⟨r, F, S, h⟩ => by
    refine tE_mono (tstB_ok (tB_bnd S h)) fun v H1 ⟨k, e, q⟩ => ⟨k, e, ?_⟩
    cases k with
    | false => exact q
    | true => exact tE_ret (fun _ _ => .bl _) q
theorem ev_not (ha : PE X a (tE K α W fa)) : PE X (.UnaryOp .Not a pos) (tE K α W (notE fa)) :=
  pe_weak (pe_not ha) fun σ H Q ⟨r, F, S, h⟩ => tE_mono (tstB_ok (tB_bnd S h)) fun v H1 ⟨k, e, q⟩ => ⟨k, e, tE_ret (fun _ _ => .bl _) q⟩
end
/-! a < b < c -/
def chE (g g' : PyData → PyData → Option Rv) (fa fb fc : M Rv) : M Rv :=
  M.bnd fa fun x => M.bnd fb fun y => M.bnd (M.bnd (op2 g x y) (tst boolOf)) fun c => if c = true then M.bnd fc fun z => op2 g' y z else M.ret (.val (.bool false))
theorem op2_ok {ro : R2} {g : PyData → PyData → Option Rv} (hs : Op2 K ro g) {x y : Rv} {v w : V} {Q : VK} (S : SR K α r σ H F) (t1 : TR K α r σ H F x v) (t2 : TR K α r σ H F y w) (h : Aft K α σ (Own α r σ) H F W (op2 g x y r) Q) : ro v w H Q := by
  unfold op2 at h
  cases e1 : peek r x with
  | none => simp only [e1] at h; exact h.elim
  | some d =>
    cases e2 : peek r y with
    | none => simp only [e1, e2] at h; exact h.elim
    | some e =>
      simp only [e1, e2] at h
      cases e3 : g d e with
      | none => simp only [e3] at h; exact h.elim
      | some z =>
        simp only [e3] at h
        exact hs H F v w d e z Q (peek_rel S t1 e1) (peek_rel S t2 e2) e3 (Aft.fin S h)
/-- what op2 ends with: the state is as it was -/
theorem op2_at {g : PyData → PyData → Option Rv} {x y z : Rv} {r1 : En} (h : op2 g x y r = .ok z r1) : r1 = r := by
  unfold op2 at h
  split at h
  · split at h
    · cases h; rfl
    · cases h
  · cases h
theorem op2_ex {g : PyData → PyData → Option Rv} {x y : Rv} {r1 : En} {z : Exc} : op2 g x y r ≠ .ex z r1 := fun h => by
  unfold op2 at h
  split at h
  · split at h <;> cases h
  · cases h
theorem chain_ok {ro ro' : R2} {g g' : PyData → PyData → Option Rv} (hs : Op2 K ro g) (hs' : Op2 K ro' g') {fa fb fc : M Rv} {Q : VK} (h : tE K α W (chE g g' fa fb fc) σ H Q) : tChain ro ro' (tE K α W fa) (tE K α W fb) (tE K α W fc) σ H Q := by
  obtain ⟨r, F, S, h⟩ := h
  refine tE_mono (tE_bnd S h) fun x H1 ⟨r1, F1, x1, S1, st1, t1, h1⟩ => ?_
  refine tE_mono (tE_bnd S1 h1) fun y H2 ⟨r2, F2, x2, S2, st2, t2, h2⟩ => ?_
  have t1' := t1.step st2 fun a z => .inl z
  refine op2_ok (W := W) hs S2 t1' t2 ?_
  unfold M.bnd at h2
  cases e : op2 g x1 x2 r2 with
  | no => simp only [e] at h2; exact h2.elim
  | ex z r3 => exact absurd e op2_ex
  | ok z r3 =>
    have er := op2_at e
    subst er
    simp only [e] at h2
    intro v H3 F3 S3 st3 t3
    unfold tst at h2
    cases e1 : peek r3 z with
    | none => simp only [e1] at h2; exact h2.elim
    | some d =>
      cases e2 : boolOf d with
      | none => simp only [e1, Option.bind_some, e2] at h2; exact h2.elim
      | some k =>
        simp only [e1, Option.bind_some, e2] at h2
        refine ⟨k, bool_pk (peek_rel S3 t3 e1) e2, ?_⟩
        have q := h2.step st3 fun _ z => .inl z
        have t2' := t2.step st3 fun _ z => .inl z
        cases k with
        | true =>
          have q2 : Aft K α σ (Own α r3 σ) H3 F3 W (M.bnd fc (fun z => op2 g' x2 z) r3) Q := q
          refine iteT ?_
          refine tE_mono (tE_bnd S3 q2) fun w H4 ⟨r4, F4, x4, S4, st4, t4, h4⟩ => ?_
          exact op2_ok hs' S4 (t2'.step st4 fun _ z => .inl z) t4 h4
        | false =>
          have q2 : Aft K α σ (Own α r3 σ) H3 F3 W (.ok (.val (.bool false)) r3) Q := q
          refine iteF ?_
          exact (Aft.fin S3 q2).val _ _ rfl (.bl _)
section
variable {X : Cx} {a b c : Expr} {fa fb fc : M Rv} {op op' : CmpOp} {ro ro' : R2} {g g' : PyData → PyData → Option Rv} {pos : Pos}
theorem ev_chain (ho : OpR X (compareOp op) ro) (ho' : OpR X (compareOp op') ro') (hs : Op2 K ro g) (hs' : Op2 K ro' g') (ha : PE X a (tE K α W fa)) (hb : PE X b (tE K α W fb)) (hc : PE X c (tE K α W fc)) (hm : lastMarks [op, op'] [b, c] = false := by rfl) : PE X (.Compare a [op, op'] [b, c] pos) (tE K α W (chE g g' fa fb fc)) :=
  pe_weak (pe_chain ho ho' ha hb hc hm) fun _ _ _ q => chain_ok hs hs' q
theorem tv_chain (ho : OpR X (compareOp op) ro) (ho' : OpR X (compareOp op') ro') (hs : Op2 K ro g) (hs' : Op2 K ro' g') (ha : PE X a (tE K α W fa)) (hb : PE X b (tE K α W fb)) (hc : PE X c (tE K α W fc)) (hm : lastMarks [op, op'] [b, c] = false := by rfl) : PT X (.Compare a [op, op'] [b, c] pos) (tT K α W (tstB (chE g g' fa fb fc))) :=
  pt_weak (pt_chain ho ho' ha hb hc hm) fun _ _ _ q => chain_ok hs hs' (tstB_ok q)
end
end Mi

/-! Mi4.lean -/
set_option Elab.async false
set_option linter.all false
set_option maxRecDepth 100000
/-! the operators on data -/
namespace Mi
open PySem L2 PySem.Spec PyProof.Rows
variable {K : KX} {H : Hp} {F : Addr → Prop} {X : Cx}

abbrev vI (i : Int) : Rv := .val (.int i)
abbrev vB (b : Bool) : Rv := .val (.bool b)
abbrev vS (x : Str) : Rv := .val (.str x)
def gI2 (g : Int → Int → Option Rv) : PyData → PyData → Option Rv
  | .int i, .int j => g i j
  | _, _ => none
theorem gI2_inv {g : Int → Int → Option Rv} {d e : PyData} {z : Rv} (h : gI2 g d e = some z) : ∃ i j, d = .int i ∧ e = .int j ∧ g i j = some z := by
  unfold gI2 at h
  split at h
  · exact ⟨_, _, rfl, rfl, h⟩
  · cases h
theorem opt_if {β : Type} {c : Prop} [Decidable c] {x z : β} (h : (if c then some x else none) = some z) : c ∧ x = z := by
  split at h
  · cases h; exact ⟨by assumption, rfl⟩
  · cases h
theorem OpX.or {f : Value → Value → Sem Value} {r r' : R2} (h : OpR X f r) (h' : OpR X f r') : OpR X f (fun x y H Q => r x y H Q ∨ r' x y H Q) := OpR.or h h'
/-! + - * // -/
def gSubI : PyData → PyData → Option Rv := gI2 fun i j => some (vI (i - j))
theorem o_sub : Op2 K (rI0 fun i j => .int (i - j)) gSubI := fun H F x y d e z Q px py h q => by
  obtain ⟨i, j, rfl, rfl, h⟩ := gI2_inv h
  cases h
  exact ⟨i, j, px.int, py.int, q.val _ _ rfl (.int _)⟩
def gAdd : PyData → PyData → Option Rv
  | .int i, .int j => some (vI (i + j))
  | .str x, .str y => if x.length + y.length ≤ sizeLine then some (vS (x ++ y)) else none
  | .list xs, .list ys => if xs.length + ys.length ≤ sizeLine then some (.own (.lst (xs ++ ys))) else none
  | .tuple xs, .tuple ys => if xs.length + ys.length ≤ sizeLine then some (.val (.tuple (xs ++ ys))) else none
  | _, _ => none
theorem lx_obj {pins : List (Addr × Obj)} {σ : L2.St} {s : Shared} (I : Inv X pins σ H s) {a : Addr} {xs : List V} (h : Lx (kx X ε) H a xs) : ∃ (its : List Value) (n : Nat), Vals xs its ∧ xs.length ≤ sizeLine ∧ s.heap.get? a = some { cls := .type "list", data := .seq its.toArray n } := by
  rcases h with h | ⟨its, n, h1, h2, h3⟩
  · obtain ⟨z, its, n, r, e⟩ := h.ok I.hok
    exact ⟨its, n, r, z, e⟩
  · exact ⟨its, n, h3, by rw [h3.length]; exact h2, I.kIn _ _ h1⟩
def rCatS (K : KX) : R2 := fun x y H Q => ∃ l b xs zs, x = .ref l ∧ y = .ref b ∧ Lx K H l xs ∧ Lx K H b zs ∧ xs.length + zs.length ≤ sizeLine ∧ ∀ p, H p = none → Q (.ref p) (upd H p (.lst (xs ++ zs)))
theorem op_catS : OpR X (binaryOp .Add) (rCatS (kx X ε)) := fun pins s σ H x y v u Q I rx ry h => by
  obtain ⟨l, b, xs, zs, rfl, rfl, hl, hb, hz, q⟩ := h
  cases rx
  cases ry
  obtain ⟨its, n, rv, z1, e1⟩ := lx_obj I hl
  obtain ⟨its2, n2, rv2, z2, e2⟩ := lx_obj I hb
  have l1 := rv.length
  have l2 := rv2.length
  refine PySem.P.add_list e1 e2 ?_ (by rw [List.size_toArray, List.size_toArray]; omega)
  have ea : its.toArray ++ its2.toArray = List.toArray (its ++ its2) := by simp
  rw [ea]
  exact ⟨.ref _, _, I.lnew (t' := s.toks) (Vals.append rv rv2) (by rw [List.length_append]; omega), rfl, q _ I.fresh⟩
theorem op_addX : OpR X (binaryOp .Add) (fun x y H Q => rI0 (fun i j => .int (i + j)) x y H Q ∨ (∃ i j, x = .str i ∧ y = .str j ∧ i.length + j.length ≤ sizeLine ∧ Q (.str (i ++ j)) H) ∨ rCatS (kx X ε) x y H Q ∨ rCatA (kx X ε) x y H Q) :=
  OpX.or op_add (OpX.or op_add_str (OpX.or op_catS op_catA))
theorem FrAll.nil_of {H : Hp} {F : Addr → Prop} {v : List V} {d : List PyData} (h : FrAll K H F v d) (e : v = []) : d = [] := by subst e; cases h; rfl
theorem o_add : Op2 K (fun x y H Q => rI0 (fun i j => .int (i + j)) x y H Q ∨ (∃ i j, x = .str i ∧ y = .str j ∧ i.length + j.length ≤ sizeLine ∧ Q (.str (i ++ j)) H) ∨ rCatS K x y H Q ∨ rCatA K x y H Q) gAdd := fun H F x y d e z Q px py h q => by
  unfold gAdd at h
  split at h
  · cases h; exact .inl ⟨_, _, px.int, py.int, q.val _ _ rfl (.int _)⟩
  · obtain ⟨h1, rfl⟩ := opt_if h
    exact .inr (.inl ⟨_, _, px.str, py.str, h1, q.val _ _ rfl (.str _)⟩)
  · obtain ⟨h1, rfl⟩ := opt_if h
    obtain ⟨a, xs, rfl, e1, r1⟩ := px.lx
    obtain ⟨b, ys, rfl, e2, r2⟩ := py.lx
    exact .inr (.inr (.inl ⟨a, b, xs, ys, rfl, rfl, e1, e2, by rw [r1.len, r2.len]; exact h1, fun p hp => q.new _ _ p rfl hp (r1.app r2)⟩))
  · obtain ⟨h1, rfl⟩ := opt_if h
    obtain ⟨a, xs, rfl, e1, r1⟩ := px.tup
    obtain ⟨b, ys, rfl, e2, r2⟩ := py.tup
    refine .inr (.inr (.inr ⟨a, b, xs, ys, rfl, rfl, e1, e2, by rw [r1.len, r2.len]; exact h1, fun z => ?_, fun z1 z => ?_, fun z1 z2 p hp => q.tup _ _ p rfl hp (r1.app r2)⟩))
    · have := r1.nil_of z
      subst this
      exact q.val _ _ rfl (.tup e2 r2)
    · have := r2.nil_of z
      subst this
      rw [List.append_nil] at q
      exact q.val _ _ rfl (.tup e1 r1)
  · cases h
def gMul : PyData → PyData → Option Rv := gI2 fun i j => if i.natAbs.log2 + j.natAbs.log2 < 1000000 then some (vI (i * j)) else none
theorem o_mul : Op2 K (rI CMulW fun i j => .int (i * j)) gMul := fun H F x y d e z Q px py h q => by
  obtain ⟨i, j, rfl, rfl, h⟩ := gI2_inv h
  obtain ⟨h1, rfl⟩ := opt_if h
  exact ⟨i, j, px.int, py.int, h1, q.val _ _ rfl (.int _)⟩
def gDiv : PyData → PyData → Option Rv := gI2 fun i j => if 0 < j ∧ j.natAbs.log2 < 9000 then some (vI (i / j)) else none
theorem o_div : Op2 K (rI CDivW fun i j => .int (i / j)) gDiv := fun H F x y d e z Q px py h q => by
  obtain ⟨i, j, rfl, rfl, h⟩ := gI2_inv h
  obtain ⟨h1, rfl⟩ := opt_if h
  exact ⟨i, j, px.int, py.int, h1, q.val _ _ rfl (.int _)⟩
def gMod : PyData → PyData → Option Rv := gI2 fun i j => if 0 < j then some (vI (i % j)) else none
theorem o_mod : Op2 K (rI (fun _ j => 0 < j) fun i j => .int (i % j)) gMod := fun H F x y d e z Q px py h q => by
  obtain ⟨i, j, rfl, rfl, h⟩ := gI2_inv h
  obtain ⟨h1, rfl⟩ := opt_if h
  exact ⟨i, j, px.int, py.int, h1, q.val _ _ rfl (.int _)⟩
def CPowW (i j : Int) : Prop := 0 ≤ j ∧ ((i.natAbs.log2 : Int) + 1) * j ≤ 1000000
instance : Decidable (CPowW i j) := inferInstanceAs (Decidable (_ ∧ _))
theorem op_powW : OpR X (binaryOp .Pow) (rI CPowW fun i j => .int (i ^ j.toNat)) := opI fun i j _ _ _ _ _ hc q => by
  refine pow_int hc.1 ?_ q
  have h2 := hc.2
  have b : (Builtin.Int.intBits i : Int) ≤ (i.natAbs.log2 : Int) + 1 := by
    unfold Builtin.Int.intBits
    split <;> omega
  have : (Builtin.Int.intBits i : Int) * j ≤ ((i.natAbs.log2 : Int) + 1) * j := Int.mul_le_mul_of_nonneg_right b hc.1
  have : (1000000 : Int) ≤ 2 ^ 27 := by decide
  omega
def gPow : PyData → PyData → Option Rv := gI2 fun i j => if CPowW i j then some (vI (i ^ j.toNat)) else none
theorem o_pow : Op2 K (rI CPowW fun i j => .int (i ^ j.toNat)) gPow := fun H F x y d e z Q px py h q => by
  obtain ⟨i, j, rfl, rfl, h⟩ := gI2_inv h
  obtain ⟨h1, rfl⟩ := opt_if h
  exact ⟨i, j, px.int, py.int, h1, q.val _ _ rfl (.int _)⟩
def gNeg : PyData → Option Rv
  | .int i => some (vI (-i))
  | _ => none
theorem o_neg : Op1 K (rU fun i => .int (-i)) gNeg := fun H F x d z Q px h q => by
  unfold gNeg at h
  split at h
  · cases h; exact ⟨_, px.int, q.val _ _ rfl (.int _)⟩
  · cases h
/-! comparisons -/
def gCmp (p : Int → Int → Bool) : PyData → PyData → Option Rv := gI2 fun i j => some (vB (p i j))
theorem o_cmp {p : Int → Int → Bool} : Op2 K (rI0 fun i j => .bl (p i j)) (gCmp p) := fun H F x y d e z Q px py h q => by
  obtain ⟨i, j, rfl, rfl, h⟩ := gI2_inv h
  cases h
  exact ⟨i, j, px.int, py.int, q.val _ _ rfl (.bl _)⟩
abbrev gLt : PyData → PyData → Option Rv := gCmp fun i j => decide (i < j)
abbrev gLe : PyData → PyData → Option Rv := gCmp fun i j => decide (i ≤ j)
abbrev gGt : PyData → PyData → Option Rv := gCmp fun i j => decide (j < i)
abbrev gGe : PyData → PyData → Option Rv := gCmp fun i j => decide (j ≤ i)
def gLeS : PyData → PyData → Option Rv
  | .str i, .str j => some (vB (!decide (j.cps.toList < i.cps.toList)))
  | _, _ => none
theorem o_leS : Op2 K (fun x y H Q => ∃ i j, x = .str i ∧ y = .str j ∧ Q (.bl (!decide (j.cps.toList < i.cps.toList))) H) gLeS := fun H F x y d e z Q px py h q => by
  unfold gLeS at h
  split at h
  · cases h; exact ⟨_, _, px.str, py.str, q.val _ _ rfl (.bl _)⟩
  · cases h
theorem nd_shaped {d : PyData} (h : SeqAt.shaped d = true) : d.hasDict = false := PyData.hasDict_of_canLay d (SeqAt.canLay_of_shaped h)
/-- == of data: where either is None, or both are ints, texts, truths, nothing else is asked -/
def flatEq : PyData → PyData → Bool
  | .none, .none => true | .none, .int _ => true | .int _, .none => true | .none, .bool _ => true | .bool _, .none => true | .none, .str _ => true | .str _, .none => true
  | .int _, .int _ => true | .bool _, .bool _ => true | .str _, .str _ => true
  | .int _, .str _ => true | .str _, .int _ => true | .bool _, .str _ => true | .str _, .bool _ => true
  | _, _ => false
def eqOk (d e : PyData) : Bool := flatEq d e || (SeqAt.shaped d && SeqAt.shaped e)
def gEq (d e : PyData) : Option Rv := if eqOk d e = true then some (vB (PyData.eqv d e)) else none
def gNe (d e : PyData) : Option Rv := if eqOk d e = true then some (vB (!PyData.eqv d e)) else none
theorem dec_beq {β : Type} [DecidableEq β] (a b : β) : decide (a = b) = (a == b) := by
  rw [Bool.eq_iff_iff]
  simp
theorem flat_scal {F : Addr → Prop} {x y : V} {d e : PyData} (px : Pk K H F x d) (py : Pk K H F y e) (h : flatEq d e = true) : scal x y = true ∧ decide (x = y) = PyData.eqv d e := by
  unfold flatEq at h
  split at h
  · rw [px.non, py.non]; exact ⟨rfl, rfl⟩
  · rw [px.non, py.int]; exact ⟨rfl, rfl⟩
  · rw [px.int, py.non]; exact ⟨rfl, rfl⟩
  · rw [px.non, py.bl]; exact ⟨rfl, rfl⟩
  · rw [px.bl, py.non]; exact ⟨rfl, rfl⟩
  · rw [px.non, py.str]; exact ⟨rfl, rfl⟩
  · rw [px.str, py.non]; exact ⟨rfl, rfl⟩
  · rw [px.int, py.int]; exact ⟨rfl, dec_int⟩
  · rw [px.bl, py.bl]; exact ⟨rfl, dec_bl⟩
  · rw [px.str, py.str]; exact ⟨rfl, dec_str⟩
  · rw [px.int, py.str]; exact ⟨rfl, rfl⟩
  · rw [px.str, py.int]; exact ⟨rfl, rfl⟩
  · rw [px.bl, py.str]; exact ⟨rfl, rfl⟩
  · rw [px.str, py.bl]; exact ⟨rfl, rfl⟩
  · cases h
theorem op_eqX (hu : X.A.units + 64 < cLine) : OpR X (compareOp .Eq) (fun x y H Q => rEq x y H Q ∨ rEqD (kx X ε) x y H Q) := OpX.or op_eq (op_eqD hu)
theorem op_neX (hu : X.A.units + 64 < cLine) : OpR X (compareOp .NotEq) (fun x y H Q => rNe x y H Q ∨ rNeD (kx X ε) x y H Q) := OpX.or op_ne (op_neD hu)
theorem o_eq : Op2 K (fun x y H Q => rEq x y H Q ∨ rEqD K x y H Q) gEq := fun H F x y d e z Q px py h q => by
  obtain ⟨h1, rfl⟩ := opt_if h
  rcases Bool.or_eq_true_iff.mp h1 with h1 | h1
  · obtain ⟨h2, h3⟩ := flat_scal px py h1
    exact .inl ⟨h2, by rw [h3]; exact q.val _ _ rfl (.bl _)⟩
  · obtain ⟨h2, h3⟩ := Bool.and_eq_true_iff.mp h1
    exact .inr ⟨d, e, px.dp (nd_shaped h2), py.dp (nd_shaped h3), h2, h3, q.val _ _ rfl (.bl _)⟩
theorem o_ne : Op2 K (fun x y H Q => rNe x y H Q ∨ rNeD K x y H Q) gNe := fun H F x y d e z Q px py h q => by
  obtain ⟨h1, rfl⟩ := opt_if h
  rcases Bool.or_eq_true_iff.mp h1 with h1 | h1
  · obtain ⟨h2, h3⟩ := flat_scal px py h1
    exact .inl ⟨h2, by rw [h3]; exact q.val _ _ rfl (.bl _)⟩
  · obtain ⟨h2, h3⟩ := Bool.and_eq_true_iff.mp h1
    exact .inr ⟨d, e, px.dp (nd_shaped h2), py.dp (nd_shaped h3), h2, h3, q.val _ _ rfl (.bl _)⟩
def isNon : PyData → Bool
  | .none => true
  | _ => false
def gIsN (d e : PyData) : Option Rv := if isNon e = true then some (vB (isNon d)) else none
def gIsntN (d e : PyData) : Option Rv := if isNon e = true then some (vB (!isNon d)) else none
theorem isNon_eq {d : PyData} (h : isNon d = true) : d = .none := by cases d <;> first | rfl | cases h
theorem pk_non {F : Addr → Prop} {x : V} {d : PyData} (px : Pk K H F x d) : decide (x = .non) = isNon d := by
  cases d with
  | none => have e := px.non; subst e; rfl
  | int i => have e := px.int; subst e; rfl
  | str i => have e := px.str; subst e; rfl
  | bool i => have e := px.bl; subst e; rfl
  | list ds => obtain ⟨a, xs, e, _⟩ := px.list; subst e; rfl
  | tuple ds => obtain ⟨a, xs, e, _⟩ := px.tup; subst e; rfl
  | dict ds =>
    have z := px.dead fun _ => nofun
    cases z with
    | dct _ _ _ _ => rfl
theorem o_isN : Op2 K (fun x y H Q => y = .non ∧ Q (.bl (decide (x = .non))) H) gIsN := fun H F x y d e z Q px py h q => by
  obtain ⟨h1, rfl⟩ := opt_if h
  have h2 := isNon_eq h1
  subst h2
  exact ⟨py.non, by rw [pk_non px]; exact q.val _ _ rfl (.bl _)⟩
theorem o_isntN : Op2 K (fun x y H Q => y = .non ∧ Q (.bl (!decide (x = .non))) H) gIsntN := fun H F x y d e z Q px py h q => by
  obtain ⟨h1, rfl⟩ := opt_if h
  have h2 := isNon_eq h1
  subst h2
  exact ⟨py.non, by rw [pk_non px]; exact q.val _ _ rfl (.bl _)⟩
/-- in -/
def gInB : PyData → PyData → Option Bool
  | .str ⟨⟨[c]⟩⟩, .str z => some (decide (c ∈ z.cps.toList))
  | d, .list ds => if (SeqAt.shaped d && SeqAt.shaped (.list ds)) = true then some (ds.any fun z => PyData.eqv z d) else none
  | d, .tuple ds => if (SeqAt.shaped d && SeqAt.shaped (.tuple ds)) = true then some (ds.any fun z => PyData.eqv z d) else none
  | _, _ => none
def gIn (d e : PyData) : Option Rv := (gInB d e).map vB
def gNotIn (d e : PyData) : Option Rv := (gInB d e).map fun b => vB (!b)
def rInT (K : KX) (neg : Bool) : R2 := fun x y H Q => ∃ d ds, Dp K H x d ∧ Dp K H y (.tuple ds) ∧ SeqAt.shaped d = true ∧ SeqAt.shaped (.tuple ds) = true ∧ Q (.bl (if neg then !ds.any fun z => PyData.eqv z d else ds.any fun z => PyData.eqv z d)) H
theorem op_inT (hu : X.A.units + 65 < cLine) : OpR X (compareOp .In) (rInT (kx X ε) false) := fun pins s σ H x y v u Q I rx ry h => by
  obtain ⟨d, ds, hd, he, sd, se, q⟩ := h
  obtain ⟨_, r1⟩ := Dp.reads I d x v hd rx
  obtain ⟨_, r2⟩ := Dp.reads I (.tuple ds) y u he ry
  exact SeqAt.in_tuple_reads r2 r1 (SeqAt.canLay_of_shaped se) (SeqAt.canLay_of_shaped sd) (room_in_shaped sd hu) ⟨.bl _, H, I, rfl, q⟩
theorem op_notInT (hu : X.A.units + 65 < cLine) : OpR X (compareOp .NotIn) (rInT (kx X ε) true) := fun pins s σ H x y v u Q I rx ry h => by
  obtain ⟨d, ds, hd, he, sd, se, q⟩ := h
  obtain ⟨_, r1⟩ := Dp.reads I d x v hd rx
  obtain ⟨_, r2⟩ := Dp.reads I (.tuple ds) y u he ry
  exact SeqAt.notIn_tuple_reads r2 r1 (SeqAt.canLay_of_shaped se) (SeqAt.canLay_of_shaped sd) (room_in_shaped sd hu) ⟨.bl _, H, I, rfl, q⟩
theorem gInB_cases {F : Addr → Prop} {x y : V} {d e : PyData} {b : Bool} (px : Pk K H F x d) (py : Pk K H F y e) (h : gInB d e = some b) :
    (∃ c z, x = .str ⟨#[c]⟩ ∧ y = .str z ∧ b = decide (c ∈ z.cps.toList)) ∨
    (∃ ds, Dp K H x d ∧ Dp K H y (.list ds) ∧ SeqAt.shaped d = true ∧ SeqAt.shaped (.list ds) = true ∧ b = ds.any fun z => PyData.eqv z d) ∨
    (∃ ds, Dp K H x d ∧ Dp K H y (.tuple ds) ∧ SeqAt.shaped d = true ∧ SeqAt.shaped (.tuple ds) = true ∧ b = ds.any fun z => PyData.eqv z d) := by
  unfold gInB at h
  split at h
  · cases h; exact .inl ⟨_, _, px.str, py.str, rfl⟩
  · obtain ⟨h1, rfl⟩ := opt_if h
    obtain ⟨h2, h3⟩ := Bool.and_eq_true_iff.mp h1
    exact .inr (.inl ⟨_, px.dp (nd_shaped h2), py.dp (nd_shaped h3), h2, h3, rfl⟩)
  · obtain ⟨h1, rfl⟩ := opt_if h
    obtain ⟨h2, h3⟩ := Bool.and_eq_true_iff.mp h1
    exact .inr (.inr ⟨_, px.dp (nd_shaped h2), py.dp (nd_shaped h3), h2, h3, rfl⟩)
  · cases h
def rInX (K : KX) : R2 := fun x y H Q => (∃ (c : Nat) (z : Str), x = .str ⟨#[c]⟩ ∧ y = .str z ∧ Q (.bl (decide (c ∈ z.cps.toList))) H) ∨ rInD K x y H Q ∨ rInT K false x y H Q
def rNotInX (K : KX) : R2 := fun x y H Q => (∃ (c : Nat) (z : Str), x = .str ⟨#[c]⟩ ∧ y = .str z ∧ Q (.bl (!decide (c ∈ z.cps.toList))) H) ∨ rNotInD K x y H Q ∨ rInT K true x y H Q
theorem op_inX (hu : X.A.units + 65 < cLine) : OpR X (compareOp .In) (rInX (kx X ε)) := OpX.or op_in_sign (OpX.or (op_inD hu) (op_inT hu))
theorem op_notInX (hu : X.A.units + 65 < cLine) : OpR X (compareOp .NotIn) (rNotInX (kx X ε)) := OpX.or op_notIn_sign (OpX.or (op_notInD hu) (op_notInT hu))
theorem o_in : Op2 K (rInX K) gIn := fun H F x y d e z Q px py h q => by
  unfold gIn at h
  cases hb : gInB d e with
  | none => rw [hb] at h; cases h
  | some b =>
    rw [hb] at h; cases h
    have qq := q.val _ (.bl b) rfl (.bl _)
    rcases gInB_cases px py hb with ⟨c, z, h1, h2, rfl⟩ | ⟨ds, h1, h2, h3, h4, rfl⟩ | ⟨ds, h1, h2, h3, h4, rfl⟩
    · exact .inl ⟨c, z, h1, h2, qq⟩
    · exact .inr (.inl ⟨d, ds, h1, h2, h3, h4, qq⟩)
    · exact .inr (.inr ⟨d, ds, h1, h2, h3, h4, qq⟩)
theorem o_notIn : Op2 K (rNotInX K) gNotIn := fun H F x y d e z Q px py h q => by
  unfold gNotIn at h
  cases hb : gInB d e with
  | none => rw [hb] at h; cases h
  | some b =>
    rw [hb] at h; cases h
    have qq := q.val _ (.bl !b) rfl (.bl _)
    rcases gInB_cases px py hb with ⟨c, z, h1, h2, rfl⟩ | ⟨ds, h1, h2, h3, h4, rfl⟩ | ⟨ds, h1, h2, h3, h4, rfl⟩
    · exact .inl ⟨c, z, h1, h2, qq⟩
    · exact .inr (.inl ⟨d, ds, h1, h2, h3, h4, qq⟩)
    · exact .inr (.inr ⟨d, ds, h1, h2, h3, h4, qq⟩)
/-! x[i] -/
def gIx : PyData → PyData → Option Rv
  | .list ds, .int i => (atI ds i).map .val
  | .tuple ds, .int i => (atI ds i).map .val
  | .str z, .int i => if z.length ≤ sizeLine then (atI z.cps.toList i).map fun c => vS ⟨#[c]⟩ else none
  | _, _ => none
theorem FrAll.at {F : Addr → Prop} {xs : List V} {ds : List PyData} {i : Int} {e : PyData} (h : FrAll K H F xs ds) (he : atI ds i = some e) : ∃ v, atI xs i = some v ∧ Fr K H F v e := by
  unfold atI at he ⊢
  rw [h.len]
  cases q : ixN ds.length i with
  | none => rw [q] at he; cases he
  | some j => rw [q] at he; exact h.get he
theorem o_ix : Op2 K (rIx K) gIx := fun H F x y d e z Q px py h q => by
  unfold gIx at h
  split at h
  · obtain ⟨w, h1, rfl⟩ := Option.map_eq_some_iff.mp h
    obtain ⟨a, xs, rfl, e1, r1⟩ := px.list
    obtain ⟨v, h2, h3⟩ := r1.at h1
    exact .inl ⟨a, xs, _, v, rfl, py.int, e1, h2, q.val _ _ rfl h3⟩
  · obtain ⟨w, h1, rfl⟩ := Option.map_eq_some_iff.mp h
    obtain ⟨a, xs, rfl, e1, r1⟩ := px.tup
    obtain ⟨v, h2, h3⟩ := r1.at h1
    exact .inr (.inl ⟨a, xs, _, v, rfl, py.int, e1, h2, q.val _ _ rfl h3⟩)
  · split at h
    · rename_i hz
      obtain ⟨w, h1, rfl⟩ := Option.map_eq_some_iff.mp h
      exact .inr (.inr ⟨_, _, w, px.str, py.int, hz, h1, q.val _ _ rfl (.str _)⟩)
    · cases h
  · cases h
end Mi

/-! Mi5.lean -/
set_option Elab.async false
set_option linter.all false
set_option maxRecDepth 100000
/-! frozen arguments, displays, slices -/
namespace Mi
open PySem L2 PySem.Spec PyProof.Rows
variable {K : KX} {α : List Addr} {r r' : En} {σ : L2.St} {H H' : Hp} {F F' : Addr → Prop}

/-- a value from now on immutable -/
def setLo (r : En) (l : Lo) (b : Bo) : En :=
  match l, b with
  | .slot i, .live o => { r with vs := r.vs.set i (some (.own o)) }
  | .slot i, .dead d => { r with vs := r.vs.set i (some (.val d)) }
  | .obj k, b => { r with os := r.os.set k b }
def frz (x : Rv) : M PyData := fun r =>
  match x with
  | .val d => .ok d r
  | .own o => match o.froz with
    | some d => .ok d r
    | none => .no
  | .at l => match look r l with
    | some (.dead d) => .ok d r
    | some (.live o) => match o.froz with
      | some d => .ok d (setLo r l (.dead d))
      | none => .no
    | none => .no
theorem look_slot {i : Nat} {o : Ob} (h : look r (.slot i) = some (.live o)) : r.vs[i]? = some (some (.own o)) := by
  unfold look at h
  simp only at h
  split at h
  · rename_i q; cases h; exact q
  · cases h
  · cases h
theorem look_dead {i : Nat} {d : PyData} (h : look r (.slot i) = some (.dead d)) : r.vs[i]? = some (some (.val d)) := by
  unfold look at h
  simp only at h
  split at h
  · cases h
  · rename_i q; cases h; exact q
  · cases h
theorem look_holds {l : Lo} {o : Ob} {a : Addr} (h : look r l = some (.live o)) (ha : LoAt α σ l a) : Holds α r σ l a := by
  cases l with
  | slot i => exact ⟨⟨o, look_slot h⟩, ha⟩
  | obj k => exact ⟨⟨o, h⟩, ha⟩
theorem set_get {β : Type} {xs : List β} {i j : Nat} {x y : β} (h : (xs.set i x)[j]? = some y) : (i = j ∧ x = y) ∨ (i ≠ j ∧ xs[j]? = some y) := by
  by_cases e : i = j
  · subst e
    by_cases hl : i < xs.length
    · rw [List.getElem?_set_self hl] at h; cases h; exact .inl ⟨rfl, rfl⟩
    · rw [List.getElem?_eq_none (by simpa using hl)] at h; cases h
  · rw [List.getElem?_set_ne e] at h; exact .inr ⟨e, h⟩
/-- who holds what behind setLo -/
theorem setLo_holds {l l' : Lo} {b : Bo} {a : Addr} (h : Holds α (setLo r l b) σ l' a) : (l' = l ∧ ∃ o, b = .live o) ∨ (l' ≠ l ∧ Holds α r σ l' a) := by
  cases l with
  | slot i =>
    cases b with
    | live o =>
      cases l' with
      | slot j =>
        obtain ⟨⟨o', q⟩, h2⟩ := h
        rcases set_get q with ⟨e, q⟩ | ⟨e, q⟩
        · subst e; exact .inl ⟨rfl, o, rfl⟩
        · exact .inr ⟨fun z => e (by cases z; rfl), ⟨o', q⟩, h2⟩
      | obj k => exact .inr ⟨nofun, h⟩
    | dead d =>
      cases l' with
      | slot j =>
        obtain ⟨⟨o', q⟩, h2⟩ := h
        rcases set_get q with ⟨e, q⟩ | ⟨e, q⟩
        · cases q
        · exact .inr ⟨fun z => e (by cases z; rfl), ⟨o', q⟩, h2⟩
      | obj k => exact .inr ⟨nofun, h⟩
  | obj k =>
    cases l' with
    | slot j => exact .inr ⟨nofun, by cases b <;> exact h⟩
    | obj j =>
      have h' : (∃ o, (r.os.set k b)[j]? = some (.live o)) ∧ α[j]? = some a := by cases b <;> exact h
      obtain ⟨⟨o', q⟩, h2⟩ := h'
      rcases set_get q with ⟨e, q2⟩ | ⟨e, q2⟩
      · subst e; exact .inl ⟨rfl, o', q2⟩
      · exact .inr ⟨fun z => e (by cases z; rfl), ⟨o', q2⟩, h2⟩
/-- the object at l is from now on immutable -/
theorem SR.kill (S : SR K α r σ H F) {l : Lo} {o : Ob} {d : PyData} {a : Addr} (h : look r l = some (.live o)) (hf : o.froz = some d) (ha : LoAt α σ l a) :
    SR K α (setLo r l (.dead d)) σ H (fun x => F x ∨ x = a) ∧ Fr K H (fun x => F x ∨ x = a) (.ref a) d ∧ Own α r σ a ∧ (∀ x, Own α (setLo r l (.dead d)) σ x → Own α r σ x) := by
  have hh : Holds α r σ l a := look_holds h ha
  have st : Stay H F H (fun x => F x ∨ x = a) := ⟨fun _ h => .inl h, fun _ _ => rfl, fun _ _ h _ => h⟩
  have hold : ∃ u, H a = some u ∧ ObR K H F a o u := by
    cases l with
    | slot i =>
      have q := look_slot h
      obtain ⟨v, h1, a', u, rfl, h3, h4⟩ := S.slot _ _ q
      have ha' : σ[i]? = some (some (V.ref a)) := ha
      rw [h1] at ha'; cases ha'
      exact ⟨u, h3, h4⟩
    | obj k =>
      have q : r.os[k]? = some (.live o) := h
      obtain ⟨a', h1, u, h3, h4⟩ := S.obj _ _ q
      have ha' : α[k]? = some a := ha
      rw [h1] at ha'; cases ha'
      exact ⟨u, h3, h4⟩
  obtain ⟨u, hH, hx⟩ := hold
  have fr : Fr K H (fun x => F x ∨ x = a) (.ref a) d := froz_fr (hx.stay st) hH hf (.inr rfl)
  have own : ∀ l' x, Holds α (setLo r l (.dead d)) σ l' x → l' ≠ l ∧ Holds α r σ l' x := fun l' x q => by
    rcases setLo_holds q with ⟨_, o, z⟩ | z
    · cases z
    · exact z
  refine ⟨⟨?_, fun i s q => ?_, fun k b q => ?_, fun l1 l2 x q1 q2 => S.apart l1 l2 x (own _ _ q1).2 (own _ _ q2).2, fun l' x q z => ?_, fun x z => ?_⟩, fr, ⟨l, hh⟩, fun x ⟨l', q⟩ => ⟨l', (own _ _ q).2⟩⟩
  · cases l with
    | slot i => show (r.vs.set i _).length = _; rw [List.length_set]; exact S.len
    | obj k => exact S.len
  · have old : r.vs[i]? = some (some s) → ∃ v : V, σ[i]? = some (some v) ∧ SlR K α H (fun x => F x ∨ x = a) s v := fun q => by
      obtain ⟨v, h1, h2⟩ := S.slot i s q
      refine ⟨v, h1, ?_⟩
      cases s with
      | val d => exact Fr.stay st h2
      | own o => obtain ⟨b, u, e, h3, h4⟩ := h2; exact ⟨b, u, e, h3, h4.stay st⟩
      | bor k => exact h2
      | cau x => exact CauR.stay st h2
    cases l with
    | slot j =>
      rcases set_get (show (r.vs.set j (some (.val d)))[i]? = some (some s) from q) with ⟨e, q2⟩ | ⟨e, q2⟩
      · subst e
        cases q2
        exact ⟨.ref a, ha, fr⟩
      · exact old q2
    | obj k => exact old q
  · have old : r.os[k]? = some b → ∃ a', α[k]? = some a' ∧ BoR K H (fun x => F x ∨ x = a) b a' := fun q => by
      obtain ⟨v, h1, h2⟩ := S.obj k b q
      refine ⟨v, h1, ?_⟩
      cases b with
      | live o => obtain ⟨u, h3, h4⟩ := h2; exact ⟨u, h3, h4.stay st⟩
      | dead d => exact Fr.stay st h2
    cases l with
    | slot j => exact old q
    | obj j =>
      rcases set_get (show (r.os.set j (.dead d))[k]? = some b from q) with ⟨e, q2⟩ | ⟨e, q2⟩
      · subst e
        subst q2
        exact ⟨a, ha, fr⟩
      · exact old q2
  · obtain ⟨n, q⟩ := own l' x q
    rcases z with z | z
    · exact S.sep l' x q z
    · subst z; exact n (S.apart l' l x q hh)
  · rcases z with z | z
    · exact S.fdom x z
    · subst z; exact ⟨_, hH⟩
theorem frz_ok (S : SR K α r σ H F) {x : Rv} {v : V} {d : PyData} (t : TR K α r σ H F x v) (e : frz x r = .ok d r') :
    ∃ F', SR K α r' σ H F' ∧ Fr K H F' v d ∧ Step (OwnT α r σ x v) H F H F' (Own α r' σ) ∧ (∀ a, Own α r' σ a → Own α r σ a) := by
  cases x with
  | val d' => cases e; exact ⟨F, S, t, Step.refl fun _ h => .inl h, fun _ h => h⟩
  | own o =>
    have e : (match o.froz with
      | some d => (.ok d r : Res PyData)
      | none => .no) = .ok d r' := e
    split at e
    · rename_i d' q
      cases e
      obtain ⟨a, u, rfl, h1, h2, h3, h4⟩ := t
      have st : Stay H F H (fun x => F x ∨ x = a) := ⟨fun _ h => .inl h, fun _ _ => rfl, fun _ _ h _ => h⟩
      refine ⟨fun x => F x ∨ x = a, S.over st (fun _ _ => rfl) (fun x q z => ?_) (fun x z => ?_), froz_fr (h2.stay st) h1 q (.inr rfl), ⟨fun _ _ h _ => h, st, fun x z => ?_, fun x z => .inl (.inl z), fun _ h => h⟩, fun _ h => h⟩
      · rcases z with z | z
        · obtain ⟨l, q⟩ := q; exact S.sep l x q z
        · subst z; exact h4 q
      · rcases z with z | z
        · exact S.fdom x z
        · subst z; exact ⟨_, h1⟩
      · rcases z with z | z
        · exact .inl z
        · subst z; exact .inr (.inl (.inr ⟨⟨_, rfl⟩, rfl⟩))
    · cases e
  | «at» l =>
    obtain ⟨a, rfl, h⟩ := t
    have e : (match look r l with
      | some (.dead d) => (.ok d r : Res PyData)
      | some (.live o) => match o.froz with
        | some d => .ok d (setLo r l (.dead d))
        | none => .no
      | none => .no) = .ok d r' := e
    split at e
    · rename_i q
      cases e
      exact ⟨F, S, content_rel S (x := .at l) (b := .dead d) ⟨a, rfl, h⟩ q, Step.refl fun _ h => .inl h, fun _ h => h⟩
    · rename_i o q
      split at e
      · rename_i d' qd
        cases e
        obtain ⟨S', f, o, oo⟩ := S.kill q qd h
        refine ⟨_, S', f, ⟨fun _ _ h _ => h, ⟨fun _ h => .inl h, fun _ _ => rfl, fun _ _ h _ => h⟩, fun x z => ?_, fun x z => .inl (.inl (oo x z)), fun _ h => h⟩, oo⟩
        rcases z with z | z
        · exact .inl z
        · subst z; exact .inr (.inl (.inl o))
      · cases e
    · cases e
theorem frz_ex {x : Rv} {r1 : En} {z : Exc} : frz x r ≠ .ex z r1 := fun h => by
  cases x with
  | val d => cases h
  | own o =>
    have h : (match o.froz with
      | some d => (.ok d r : Res PyData)
      | none => .no) = .ex z r1 := h
    split at h <;> cases h
  | «at» l =>
    have h : (match look r l with
      | some (.dead d) => (.ok d r : Res PyData)
      | some (.live o) => match o.froz with
        | some d => .ok d (setLo r l (.dead d))
        | none => .no
      | none => .no) = .ex z r1 := h
    split at h
    · cases h
    · split at h <;> cases h
    · cases h
/-- a list of frozen values -/
def AftL (K : KX) (α : List Addr) (σ : L2.St) (O : Addr → Prop) (H : Hp) (F : Addr → Prop) (W : L2.WX) (x : Res (List PyData)) (Q : List V → Hp → Prop) : Prop :=
  match x with
  | .ok ds e => ∀ vs H' F', SR K α e σ H' F' → Step O H F H' F' (Own α e σ) → FrAll K H' F' vs ds → Q vs H'
  | .ex x e => AftX K α σ O H F W x e
  | .no => False
def tL (K : KX) (α : List Addr) (W : L2.WX) (f : M (List PyData)) : TA := fun σ H Q => ∃ r F, SR K α r σ H F ∧ AftL K α σ (Own α r σ) H F W (f r) Q
def nilL : M (List PyData) := M.ret []
def consL (f : M Rv) (g : M (List PyData)) : M (List PyData) := M.bnd f fun x => M.bnd (frz x) fun d => M.bnd g fun ds => M.ret (d :: ds)
theorem tL_mono {f : M (List PyData)} {Q Q' : List V → Hp → Prop} (h : tL K α W f σ H Q) (q : ∀ v H1, Q v H1 → Q' v H1) : tL K α W f σ H Q' := by
  obtain ⟨r, F, S, a⟩ := h
  refine ⟨r, F, S, ?_⟩
  cases e : f r with
  | ok x r1 => rw [e] at a; exact fun v H1 F1 b c d => q _ _ (a v H1 F1 b c d)
  | ex x r1 => rw [e] at a; exact a
  | no => rw [e] at a; exact a
/-- f, then frozen, then more: what a rule's proof gets -/
theorem frz_bnd {β : Type} {f : M Rv} {g : PyData → M β} {P : Res β → Prop} (hno : ¬ P .no) (S : SR K α r σ H F) (hex : ∀ x e, P (.ex x e) → AftX K α σ (Own α r σ) H F W x e) (h : P (M.bnd f (fun x => M.bnd (frz x) g) r)) {Q : VK}
    (q : ∀ v H1 r1 F1 d, SR K α r1 σ H1 F1 → Step (Own α r σ) H F H1 F1 (Own α r1 σ) → Fr K H1 F1 v d → P (g d r1) → Q v H1) : tE K α W f σ H Q := by
  refine ⟨r, F, S, ?_⟩
  unfold M.bnd at h
  cases e : f r with
  | no => simp only [e] at h; exact absurd h hno
  | ex x r1 => simp only [e] at h; exact hex _ _ h
  | ok x r1 =>
    simp only [e] at h
    intro v H1 F1 S1 st t
    cases e2 : frz x r1 with
    | no => simp only [e2] at h; exact absurd h hno
    | ex z r2 => exact absurd e2 frz_ex
    | ok d r2 =>
      simp only [e2] at h
      obtain ⟨F2, S2, fr, st2, _⟩ := frz_ok S1 t e2
      exact q v H1 r2 F2 d S2 (st.trans st2 fun _ z => z) fr h
theorem cons_ok {f : M Rv} {g : M (List PyData)} {Q : List V → Hp → Prop} (h : tL K α W (consL f g) σ H Q) : tCons (tE K α W f) (tL K α W g) σ H Q := by
  obtain ⟨r, F, S, h⟩ := h
  refine frz_bnd (P := fun x => AftL K α σ (Own α r σ) H F W x Q) (fun z => z) S (fun _ _ z => z) h fun v H1 r1 F1 d S1 st fr h1 => ⟨r1, F1, S1, ?_⟩
  unfold M.bnd at h1
  cases e : g r1 with
  | no => rw [e] at h1; exact h1
  | ex x r2 => rw [e] at h1; exact AftX.step h1 st fun _ z => z
  | ok ds r2 =>
    rw [e] at h1
    exact fun vs H2 F2 S2 st2 frs => h1 (v :: vs) H2 F2 S2 (st.trans st2 fun _ z => z) (.cons (fr.stay st2.stay) frs)
theorem nilL_ok {Q : List V → Hp → Prop} (h : tL K α W nilL σ H Q) : tNil σ H Q := by
  obtain ⟨r, F, S, h⟩ := h
  exact h [] H F S (Step.refl fun _ z => z) .nil
def tupE (f : M (List PyData)) : M Rv := M.bnd f fun ds r => if ds.length ≤ sizeLine then .ok (.val (.tuple ds)) r else .no
def lstE (f : M (List PyData)) : M Rv := M.bnd f fun ds r => if ds.length ≤ sizeLine then .ok (.own (.lst ds)) r else .no
theorem tL_fin {f : M (List PyData)} {z : List PyData → Rv} {Q : VK} (S : SR K α r σ H F) (h : Aft K α σ (Own α r σ) H F W (M.bnd f (fun ds r => if ds.length ≤ sizeLine then .ok (z ds) r else .no) r) Q) :
    tL K α W f σ H fun vs H1 => ∃ F1 ds, FrAll K H1 F1 vs ds ∧ ds.length ≤ sizeLine ∧ Fin K H1 F1 (z ds) Q := by
  refine ⟨r, F, S, ?_⟩
  unfold M.bnd at h
  cases e : f r with
  | no => simp only [e] at h; exact h
  | ex x r1 => simp only [e] at h; exact h
  | ok ds r1 =>
    simp only [e] at h
    intro vs H1 F1 S1 st fr
    split at h
    · rename_i hz
      exact ⟨F1, ds, fr, hz, Aft.fin S1 (h.step st fun _ z => z)⟩
    · exact h.elim
section
variable {X : Cx} {e : Expr} {es : List Expr} {f : M Rv} {g : M (List PyData)} {pos : Pos}
theorem al_nil : PA X [] (tL K α W nilL) := pa_weak pa_nil fun _ _ _ q => nilL_ok q
theorem al_cons (h : PE X e (tE K α W f)) (h2 : PA X es (tL K α W g)) (hs : starEach (e :: es) X.env = (false, eval e X.env) :: starEach es X.env := by rfl) : PA X (e :: es) (tL K α W (consL f g)) := pa_weak (pa_cons h h2 hs) fun _ _ _ q => cons_ok q
theorem ev_tup {x1} (h : PA X es (tL K α W g)) : PE X (.Tuple es x1 pos) (tE K α W (tupE g)) := pe_weak (pe_tup h) fun σ H Q ⟨r, F, S, h⟩ =>
  tL_mono (tL_fin S h) fun vs H1 ⟨F1, ds, fr, hz, q⟩ => ⟨by rw [fr.len]; exact hz, fun p hp => q.tup ds vs p rfl hp fr⟩
theorem ev_lst (h : PA X es (tL K α W g)) : PE X (.List es pos) (tE K α W (lstE g)) := pe_weak (pe_lst h) fun σ H Q ⟨r, F, S, h⟩ =>
  tL_mono (tL_fin S h) fun vs H1 ⟨F1, ds, fr, hz, q⟩ => ⟨by rw [fr.len]; exact hz, fun p hp => q.new ds vs p rfl hp fr⟩
end
end Mi

/-! Mi6.lean -/
set_option Elab.async false
set_option linter.all false
set_option maxRecDepth 100000
/-! statements -/
namespace Mi
open PySem L2 PySem.Spec PyProof.Rows
variable {K : KX} {α : List Addr} {r r' : En} {σ : L2.St} {H H' : Hp} {F F' : Addr → Prop}

inductive Out where
  | nx (r : En)
  | rt (x : Rv) (r : En)
  | bk (r : En)
  | ct (r : En)
  | ex (e : Exc) (r : En)
  | no
abbrev Stm := En → Out
def AftS (K : KX) (α : List Addr) (O : Addr → Prop) (H : Hp) (F : Addr → Prop) (W : L2.WX) (x : Out) (D : Ends) : Prop :=
  match x with
  | .nx e => ∀ (σ' : L2.St) H' F', SR K α e σ' H' F' → Step O H F H' F' (Own α e σ') → D.nx σ' H'
  | .rt x e => ∀ v (σ' : L2.St) H' F', SR K α e σ' H' F' → Step O H F H' F' (OwnT α e σ' x v) → TR K α e σ' H' F' x v → D.rt v H'
  | .bk e => ∀ (σ' : L2.St) H' F', SR K α e σ' H' F' → Step O H F H' F' (Own α e σ') → D.bk σ' H'
  | .ct e => ∀ (σ' : L2.St) H' F', SR K α e σ' H' F' → Step O H F H' F' (Own α e σ') → D.ct σ' H'
  | .ex x e => ∀ σ', AftX K α σ' O H F W x e
  | .no => False
def tS (K : KX) (α : List Addr) (W : L2.WX) (f : Stm) : TS := fun D σ H => ∃ r F, SR K α r σ H F ∧ AftS K α (Own α r σ) H F W (f r) D
theorem AftS.step {O O1 O1' : Addr → Prop} {H1 : Hp} {F1 : Addr → Prop} {W : L2.WX} {x : Out} {D : Ends} (h : AftS K α O H F W x D) (s : Step O H F H1 F1 O1) (h1 : ∀ a, O1' a → O1 a) : AftS K α O1' H1 F1 W x D := by
  cases x with
  | nx e => exact fun σ' H' F' a b => h σ' H' F' a (s.trans b h1)
  | rt x e => exact fun v σ' H' F' a b c => h v σ' H' F' a (s.trans b h1) c
  | bk e => exact fun σ' H' F' a b => h σ' H' F' a (s.trans b h1)
  | ct e => exact fun σ' H' F' a b => h σ' H' F' a (s.trans b h1)
  | ex x e => exact fun σ' => AftX.step (h σ') s h1
  | no => exact h
/-! ### sequences, if, return -/
def nxS : Stm := fun r => .nx r
def seqS (f g : Stm) : Stm := fun r => match f r with
  | .nx r1 => g r1
  | o => o
def ofM {β : Type} (f : M β) (g : β → En → Out) : Stm := fun r => match f r with
  | .ok x r1 => g x r1
  | .ex e r1 => .ex e r1
  | .no => .no
def ifS (t : M Bool) (f g : Stm) : Stm := ofM t fun c => if c = true then f else g
def retS (f : M Rv) : Stm := ofM f fun x r => .rt x r
def retN : Stm := fun r => .rt (.val .none) r
def dropS (f : M Rv) : Stm := ofM f fun _ r => .nx r
def brkS : Stm := fun r => .bk r
def cntS : Stm := fun r => .ct r
theorem ofM_E {f : M Rv} {g : Rv → En → Out} {D : Ends} (S : SR K α r σ H F) (h : AftS K α (Own α r σ) H F W (ofM f g r) D) :
    tE K α W f σ H fun v H1 => ∃ r1 F1 x, SR K α r1 σ H1 F1 ∧ Step (Own α r σ) H F H1 F1 (OwnT α r1 σ x v) ∧ TR K α r1 σ H1 F1 x v ∧ AftS K α (OwnT α r1 σ x v) H1 F1 W (g x r1) D := by
  refine ⟨r, F, S, ?_⟩
  unfold ofM at h
  cases e : f r with
  | ok x r1 =>
    rw [e] at h
    exact fun v H1 F1 a b c => ⟨r1, F1, x, a, b, c, h.step b fun _ z => z⟩
  | ex x r1 => rw [e] at h; exact h σ
  | no => rw [e] at h; exact h.elim
theorem ofM_B {β : Type} {f : M β} {g : β → En → Out} {D : Ends} (S : SR K α r σ H F) (h : AftS K α (Own α r σ) H F W (ofM f g r) D) :
    tB' K α W f σ H fun b H1 => tS K α W (g b) D σ H1 := by
  refine ⟨r, F, S, ?_⟩
  unfold ofM at h
  cases e : f r with
  | ok x r1 =>
    rw [e] at h
    exact fun H1 F1 a b => ⟨r1, F1, a, h.step b fun _ z => z⟩
  | ex x r1 => rw [e] at h; exact h σ
  | no => rw [e] at h; exact h.elim
theorem AftS.go (S : SR K α r σ H F) {D : Ends} {O : Addr → Prop} (h : AftS K α O H F W (.nx r) D) (ho : ∀ a, Own α r σ a → O a) : D.nx σ H := h σ H F S (Step.refl ho)
section
variable {X : Cx} {e : Expr} {st : Stmt} {rest a b : List Stmt} {f : M Rv} {p q : Stm} {t : M Bool} {pos : Pos}
theorem sv_nil : PSs X [] (tS K α W nxS) := pss_weak pss_nil fun D σ H ⟨r, F, S, h⟩ => AftS.go S h fun _ z => z
theorem sv_cons (h1 : PS X st (tS K α W p)) (h2 : PSs X rest (tS K α W q)) : PSs X (st :: rest) (tS K α W (seqS p q)) := pss_weak (pss_cons h1 h2) fun D σ H ⟨r, F, S, h⟩ => by
  refine ⟨r, F, S, ?_⟩
  unfold seqS at h
  cases e : p r with
  | nx r1 => rw [e] at h; exact fun σ' H' F' a b => ⟨r1, F', a, h.step b fun _ z => z⟩
  | rt x r1 => rw [e] at h; exact h
  | bk r1 => rw [e] at h; exact h
  | ct r1 => rw [e] at h; exact h
  | ex x r1 => rw [e] at h; exact h
  | no => rw [e] at h; exact h
theorem sv_one (h1 : PS X st (tS K α W p)) : PSs X [st] (tS K α W p) := pss_one h1
theorem sv_if {c : Expr} (hc : PT X c (tT K α W t)) (h1 : PSs X a (tS K α W p)) (h2 : PSs X b (tS K α W q)) : PS X (.If c a b pos) (tS K α W (ifS t p q)) := ps_weak (ps_if hc h1 h2) fun D σ H ⟨r, F, S, h⟩ =>
  tB_mono (ofM_B S h) fun b H1 h1 => by cases b with
    | true => exact h1
    | false => exact h1
theorem sv_ret (he : PE X e (tE K α W f)) : PS X (.Return (some e) pos) (tS K α W (retS f)) := ps_weak (ps_ret he) fun D σ H ⟨r, F, S, h⟩ =>
  tE_mono (ofM_E S h) fun v H1 ⟨r1, F1, x, S1, st, tr, h1⟩ => h1 v σ H1 F1 S1 (Step.refl fun _ z => z) tr
theorem sv_retN : PS X (.Return none pos) (tS K α W retN) := ps_weak ps_retN fun D σ H ⟨r, F, S, h⟩ => h .non σ H F S (Step.refl fun _ z => z.elim id fun ⟨⟨_, z⟩, _⟩ => nomatch z) .non
theorem sv_expr (he : PE X e (tE K α W f)) (hs : swapsWith e none pos.line X.env = pure false := by rfl) : PS X (.Expr e pos) (tS K α W (dropS f)) := ps_weak (ps_expr he hs) fun D σ H ⟨r, F, S, h⟩ =>
  tE_mono (ofM_E S h) fun v H1 ⟨r1, F1, x, S1, st, tr, h1⟩ => h1 σ H1 F1 S1 (Step.refl fun _ z => .inl z)
theorem sv_pass : PS X (.Pass pos) (tS K α W nxS) := ps_weak ps_pass fun D σ H ⟨r, F, S, h⟩ => AftS.go S h fun _ z => z
theorem sv_brk : PS X (.Break pos) (tS K α W brkS) := ps_weak ps_break fun D σ H ⟨r, F, S, h⟩ => h σ H F S (Step.refl fun _ z => z)
theorem sv_cnt : PS X (.Continue pos) (tS K α W cntS) := ps_weak ps_continue fun D σ H ⟨r, F, S, h⟩ => h σ H F S (Step.refl fun _ z => z)
/-- what is never reached -/
theorem sv_no : PS X st (tS K α W fun _ => .no) := ps_weak ps_never fun D σ H ⟨r, F, S, h⟩ => h.elim
end
/-! ### names stored -/
def put (r : En) (i : Nat) (s : Sl) : En := { r with vs := r.vs.set i (some s) }
def bindR (i : Nat) (x : Rv) : Stm := fun r => match x with
  | .val d => .nx (put r i (.val d))
  | .own o => .nx (put r i (.own o))
  | .at (.obj k) => match r.os[k]? with
    | some (.live _) => .nx (put r i (.bor k))
    | some (.dead d) => .nx (put r i (.val d))
    | none => .no
  | .at (.slot j) => match frz (.at (.slot j)) r with
    | .ok d r1 => .nx (put r1 i (.val d))
    | _ => .no
def setS (i : Nat) (f : M Rv) : Stm := ofM f fun x => bindR i x
theorem put_holds {i : Nat} {s : Sl} {v : V} {l : Lo} {a : Addr} (h : Holds α (put r i s) (σ.set i (some v)) l a) : (l = .slot i ∧ (∃ o, s = .own o) ∧ v = .ref a) ∨ (l ≠ .slot i ∧ Holds α r σ l a) := by
  cases l with
  | obj k => exact .inr ⟨nofun, h⟩
  | slot j =>
    obtain ⟨⟨o, q⟩, h2⟩ := h
    rcases set_get (show (r.vs.set i (some s))[j]? = _ from q) with ⟨e, q1⟩ | ⟨e, q1⟩
    · subst e
      rcases set_get (show (σ.set i (some v))[i]? = _ from h2) with ⟨_, q2⟩ | ⟨n, _⟩
      · injection q1 with q1; injection q2 with q2
        exact .inl ⟨rfl, ⟨o, q1⟩, q2⟩
      · exact absurd rfl n
    · rw [List.getElem?_set_ne e] at h2
      exact .inr ⟨fun z => e (by cases z; rfl), ⟨o, q1⟩, h2⟩
theorem SR.put (S : SR K α r σ H F) {i : Nat} {s : Sl} {v : V} (hs : SlR K α H F s v) (hn : ∀ o a, s = .own o → v = .ref a → ¬ F a ∧ ¬ Own α r σ a) : SR K α (put r i s) (σ.set i (some v)) H F where
  len := by show (r.vs.set i _).length = _; rw [List.length_set, List.length_set]; exact S.len
  slot := fun j s' q => by
    rcases set_get (show (r.vs.set i (some s))[j]? = some (some s') from q) with ⟨e, q1⟩ | ⟨e, q1⟩
    · subst e
      injection q1 with q1
      subst q1
      have hj : i < σ.length := by
        have : i < (r.vs.set i (some s)).length := (List.getElem?_eq_some_iff.mp q).1
        rw [List.length_set, S.len] at this
        exact this
      exact ⟨v, List.getElem?_set_self hj, hs⟩
    · obtain ⟨w, h1, h2⟩ := S.slot j s' q1
      exact ⟨w, by rw [List.getElem?_set_ne e]; exact h1, h2⟩
  obj := S.obj
  apart := fun l l' a h h' => by
    rcases put_holds h with ⟨e1, ⟨o, e2⟩, e3⟩ | ⟨n, h⟩
    · rcases put_holds h' with ⟨e1', _⟩ | ⟨n', h'⟩
      · rw [e1, e1']
      · exact absurd ⟨l', h'⟩ (hn o a e2 e3).2
    · rcases put_holds h' with ⟨e1, ⟨o, e2⟩, e3⟩ | ⟨n', h'⟩
      · exact absurd ⟨l, h⟩ (hn o a e2 e3).2
      · exact S.apart l l' a h h'
  sep := fun l a h => by
    rcases put_holds h with ⟨e1, ⟨o, e2⟩, e3⟩ | ⟨n, h⟩
    · exact (hn o a e2 e3).1
    · exact S.sep l a h
  fdom := S.fdom
theorem put_own {i : Nat} {s : Sl} {v : V} {a : Addr} (h : Own α (Mi.put r i s) (σ.set i (some v)) a) : Own α r σ a ∨ ((∃ o, s = .own o) ∧ v = .ref a) := by
  obtain ⟨l, h⟩ := h
  rcases put_holds h with ⟨_, e2, e3⟩ | ⟨_, h⟩
  · exact .inr ⟨e2, e3⟩
  · exact .inl ⟨l, h⟩
theorem bind_ok {i : Nat} {x : Rv} {v : V} {D : Ends} (S : SR K α r σ H F) (t : TR K α r σ H F x v) (h : AftS K α (OwnT α r σ x v) H F W (bindR i x r) D) : D.nx (σ.set i (some v)) H := by
  cases x with
  | val d =>
    refine h _ H F (S.put (s := .val d) t fun o a z => nomatch z) (Step.refl fun a z => ?_)
    rcases put_own z with z | ⟨⟨o, z⟩, _⟩
    · exact .inl z
    · cases z
  | own o =>
    obtain ⟨a, u, rfl, h1, h2, h3, h4⟩ := t
    refine h _ H F (S.put (s := .own o) ⟨a, u, rfl, h1, h2⟩ fun o' a' _ z => by cases z; exact ⟨h3, h4⟩) (Step.refl fun a' z => ?_)
    rcases put_own z with z | ⟨_, z⟩
    · exact .inl z
    · exact .inr ⟨⟨o, rfl⟩, z⟩
  | «at» l =>
    cases l with
    | obj k =>
      obtain ⟨a, rfl, ha⟩ := t
      have h : AftS K α (OwnT α r σ (.at (.obj k)) (.ref a)) H F W (match r.os[k]? with
        | some (.live _) => .nx (Mi.put r i (.bor k))
        | some (.dead d) => .nx (Mi.put r i (.val d))
        | none => .no) D := h
      split at h
      · refine h _ H F (S.put (s := .bor k) ⟨a, rfl, ha⟩ fun o a z => nomatch z) (Step.refl fun a z => ?_)
        rcases put_own z with z | ⟨⟨o, z⟩, _⟩
        · exact .inl z
        · cases z
      · rename_i d q
        obtain ⟨a', h1, h2⟩ := S.obj _ _ q
        have ha : α[k]? = some a := ha
        rw [h1] at ha; cases ha
        refine h _ H F (S.put (s := .val d) h2 fun o a z => nomatch z) (Step.refl fun a z => ?_)
        rcases put_own z with z | ⟨⟨o, z⟩, _⟩
        · exact .inl z
        · cases z
      · exact h.elim
    | slot j =>
      have h : AftS K α (OwnT α r σ (.at (.slot j)) v) H F W (match frz (.at (.slot j)) r with
        | .ok d r1 => .nx (Mi.put r1 i (.val d))
        | _ => .no) D := h
      cases e : frz (.at (.slot j)) r with
      | no => rw [e] at h; exact h.elim
      | ex z r1 => exact absurd e frz_ex
      | ok d r1 =>
        rw [e] at h
        obtain ⟨F1, S1, fr, st, oo⟩ := frz_ok S t e
        refine h _ H F1 (S1.put (s := .val d) fr fun o a z => nomatch z) (st.more fun a z => ?_)
        rcases put_own z with z | ⟨⟨o, z⟩, _⟩
        · exact z
        · cases z
/-- several names from a tuple -/
def bindL : List Nat → List PyData → En → Option En
  | [], [], r => some r
  | i :: is, d :: ds, r => bindL is ds (put r i (.val d))
  | _, _, _ => none
def unpS (is : List Nat) (f : M Rv) : Stm := ofM f fun x r => match peek r x with
  | some (.tuple ds) => match bindL is ds r with
    | some r1 => .nx r1
    | none => .no
  | some (.list ds) => .no
  | _ => .no
def gNames : List Nat → TGs
  | [] => gNil
  | i :: is => gCons (gName i) (gNames is)
theorem gNames_ok : ∀ {is : List Nat} {ds : List PyData} {vs : List V} {r r1 : En} {σ : L2.St} {H : Hp} {F : Addr → Prop} {Q : L2.St → Hp → Prop}, SR K α r σ H F → FrAll K H F vs ds → bindL is ds r = some r1 →
    (∀ σ', SR K α r1 σ' H F → (∀ a, Own α r1 σ' a → Own α r σ a) → Q σ' H) → vs.length = is.length ∧ gNames is vs σ H Q
  | [], [], _, _, _, _, _, _, _, S, .nil, e, q => by cases e; exact ⟨rfl, rfl, q _ S fun _ z => z⟩
  | i :: is, d :: ds, v :: vs, r, r1, σ, H, F, Q, S, .cons h1 h2, e, q => by
    have S1 : SR K α (put r i (.val d)) (σ.set i (some v)) H F := S.put (s := .val d) h1 fun o a z => nomatch z
    have own : ∀ a, Own α (put r i (.val d)) (σ.set i (some v)) a → Own α r σ a := fun a z => by
      rcases put_own z with z | ⟨⟨o, z⟩, _⟩
      · exact z
      · cases z
    obtain ⟨e1, e2⟩ := gNames_ok (Q := Q) S1 h2 e fun σ' S' o => q σ' S' fun a z => own a (o a z)
    exact ⟨by simp [e1], v, vs, rfl, e2⟩
section
variable {X : Cx} {e tg : Expr} {f : M Rv} {pos : Pos}
theorem sv_set {i : Nat} {x : Str} {pos' : Pos} (hN : X.N.Nodup) (hi : X.N[i]? = some x) (hx : Loc X.env.scope x) (he : PE X e (tE K α W f)) (hs : swapsWith e (some (.Name x pos')) pos.line X.env = pure false := by rfl) (hf : X.fn x = true ∨ X.env.scope.names.lookup x = some .local := by first | exact .inl rfl | exact .inr rfl | assumption) :
    PS X (.Assign [.Name x pos'] e pos) (tS K α W (setS i f)) := ps_weak (ps_set hN hi hx he hs hf) fun D σ H ⟨r, F, S, h⟩ =>
  tE_mono (ofM_E S h) fun v H1 ⟨r1, F1, x, S1, st, tr, h1⟩ => bind_ok S1 tr h1
theorem sv_unp {is : List Nat} (he : PE X e (tE (kx X ε) α W f)) (hg : PG X tg (gTup (kx X ε) is.length (gNames is))) (hs : swapsWithSole [tg] e pos.line X.env = pure false := by rfl) (hw : swappedStores [tg] e X.env = pure none := by rfl)
    (h1 : (assignEach [tg] X.env).map (·.2) = [assign tg X.env] := by rfl) : PS X (.Assign [tg] e pos) (tS (kx X ε) α W (unpS is f)) := ps_weak (ps_asg he hg hs hw h1) fun D σ H ⟨r, F, S, h⟩ =>
  tE_mono (ofM_E S h) fun v H1 ⟨r1, F1, x, S1, st, tr, h1⟩ => by
    cases e1 : peek r1 x with
    | none => simp only [e1] at h1; exact h1.elim
    | some d =>
      simp only [e1] at h1
      split at h1
      · rename_i ds q
        cases q
        cases e2 : bindL is ds r1 with
        | none => simp only [e2] at h1; exact h1.elim
        | some r2 =>
          simp only [e2] at h1
          obtain ⟨a, xs, rfl, hx, fr⟩ := (peek_rel S1 tr e1).tup
          obtain ⟨l, g⟩ := gNames_ok (Q := D.nx) S1 fr e2 fun σ' S' o => h1 σ' H1 F1 S' (Step.refl fun a z => .inl (o a z))
          exact ⟨a, xs, rfl, hx, l, g⟩
      · exact h1.elim
      · exact h1.elim
end
/-! ### objects changed -/
theorem SR.writeG (S : SR K α r σ H F) {l : Lo} {o o' : Ob} {a : Addr} {u' : HO} (h : look r l = some (.live o)) (ha : LoAt α σ l a) (ho : ObR K (upd H a u') F a o' u') (sF : ∀ v d, Fr K H F v d → Fr K (upd H a u') F v d) (sO : ∀ b o u, ObR K H F b o u → ObR K (upd H a u') F b o u) :
    SR K α (setLo r l (.live o')) σ (upd H a u') F ∧ (∀ l' x, Holds α (setLo r l (.live o')) σ l' x → Holds α r σ l' x) := by
  have hh : Holds α r σ l a := look_holds h ha
  have nF : ¬ F a := S.sep l a hh
  have own : ∀ l' x, Holds α (setLo r l (.live o')) σ l' x → Holds α r σ l' x := fun l' x q => by
    rcases setLo_holds q with ⟨e, _⟩ | ⟨_, z⟩
    · subst e
      have : x = a := by
        have q2 := q.lo
        cases l' with
        | slot i => have q2 : σ[i]? = some (some (V.ref x)) := q2; have ha : σ[i]? = some (some (V.ref a)) := ha; rw [ha] at q2; cases q2; rfl
        | obj k => have q2 : α[k]? = some x := q2; have ha : α[k]? = some a := ha; rw [ha] at q2; cases q2; rfl
      exact this ▸ hh
    · exact z
  refine ⟨⟨?_, fun i s q => ?_, fun k b q => ?_, fun l1 l2 x q1 q2 => S.apart l1 l2 x (own _ _ q1) (own _ _ q2), fun l' x q => S.sep l' x (own _ _ q), fun x z => ?_⟩, own⟩
  · cases l with
    | slot i => show (r.vs.set i _).length = _; rw [List.length_set]; exact S.len
    | obj k => exact S.len
  · have old : r.vs[i]? = some (some s) → l ≠ .slot i → ∃ v : V, σ[i]? = some (some v) ∧ SlR K α (upd H a u') F s v := fun q n => by
      obtain ⟨v, h1, h2⟩ := S.slot i s q
      refine ⟨v, h1, ?_⟩
      cases s with
      | val d => exact sF _ _ h2
      | own o =>
        obtain ⟨b, w, e, h3, h4⟩ := h2
        subst e
        refine ⟨b, w, rfl, ?_, sO _ _ _ h4⟩
        rw [upd_ne (show b ≠ a from fun e => n (S.apart l (.slot i) a hh ⟨⟨o, q⟩, by rw [← e]; exact h1⟩))]
        exact h3
      | bor k => exact h2
      | cau x => exact CauR.write nF sF h2
    cases l with
    | slot j =>
      rcases set_get (show (r.vs.set j (some (.own o')))[i]? = some (some s) from q) with ⟨e, q2⟩ | ⟨e, q2⟩
      · subst e
        cases q2
        exact ⟨.ref a, ha, a, u', rfl, upd_same, ho⟩
      · exact old q2 fun z => e (by cases z; rfl)
    | obj k => exact old q nofun
  · have old : r.os[k]? = some b → l ≠ .obj k → ∃ a', α[k]? = some a' ∧ BoR K (upd H a u') F b a' := fun q n => by
      obtain ⟨v, h1, h2⟩ := S.obj k b q
      refine ⟨v, h1, ?_⟩
      cases b with
      | live o =>
        obtain ⟨w, h3, h4⟩ := h2
        refine ⟨w, ?_, sO _ _ _ h4⟩
        rw [upd_ne (show v ≠ a from fun e => n (S.apart l (.obj k) a hh ⟨⟨o, q⟩, by rw [← e]; exact h1⟩))]
        exact h3
      | dead d => exact sF _ _ h2
    cases l with
    | slot j => exact old q nofun
    | obj j =>
      rcases set_get (show (r.os.set j (.live o'))[k]? = some b from q) with ⟨e, q2⟩ | ⟨e, q2⟩
      · subst e
        subst q2
        exact ⟨a, ha, u', upd_same, ho⟩
      · exact old q2 fun z => e (by cases z; rfl)
  · obtain ⟨w, q⟩ := S.fdom x z
    exact ⟨w, by rw [upd_ne (fun e => nF (by rw [← e]; exact z))]; exact q⟩
theorem SR.write (S : SR K α r σ H F) {l : Lo} {o o' : Ob} {a : Addr} {u' : HO} (h : look r l = some (.live o)) (ha : LoAt α σ l a) (ho : ObR K H F a o' u') (nf : ∀ kvs, o ≠ .fdc kvs := by nofun) :
    SR K α (setLo r l (.live o')) σ (upd H a u') F ∧ Step (Own α r σ) H F (upd H a u') F (Own α (setLo r l (.live o')) σ) ∧ (∀ x, Own α (setLo r l (.live o')) σ x → Own α r σ x) := by
  have hh : Holds α r σ l a := look_holds h ha
  obtain ⟨a', u, e', hH, hr⟩ : ∃ a' u, V.ref a = .ref a' ∧ H a' = some u ∧ ObR K H F a' o u := content_rel S (x := .at l) (b := .live o) ⟨a, rfl, ha⟩ h
  cases e'
  have nF : ¬ F a := S.sep l a hh
  have st : Stay H F (upd H a u') F := ⟨fun _ h => h, fun x q => upd_ne (fun e => nF (e ▸ q)), fun x w q i => by
    by_cases e : x = a
    · subst e; rw [hH] at q; cases q; rw [hr.mut nf] at i; cases i
    · rw [upd_ne e]; exact q⟩
  obtain ⟨S', own⟩ := S.writeG h ha (ho.stay st) (fun _ _ z => Fr.stay st z) fun _ _ _ z => z.stay st
  refine ⟨S', ⟨fun x w q n => by rw [upd_ne (show x ≠ a from fun e => n (by rw [e]; exact ⟨l, hh⟩))]; exact q, st, fun x z => .inl z, fun x ⟨l', q⟩ => .inl ⟨l', own _ _ q⟩, fun x q => ?_⟩, fun x ⟨l', q⟩ => ⟨l', own _ _ q⟩⟩
  by_cases e : x = a
  · subst e; rw [upd_same] at q; cases q
  · rwa [upd_ne e] at q
end Mi

/-! Mi7.lean -/
set_option Elab.async false
set_option linter.all false
set_option maxRecDepth 100000
/-! defs and their calls -/
namespace Mi
open PySem L2 PySem.Spec PyProof.Rows
variable {K : KX} {α : List Addr} {r r' : En} {σ : L2.St} {H H' : Hp} {F F' : Addr → Prop}

/-! ### a list of results, nothing frozen -/
def Tm (xs : List Rv) (vs : List V) (a : Addr) : Prop := ∃ (i : Nat) (o : Ob), xs[i]? = some (.own o) ∧ vs[i]? = some (.ref a)
def OwnTs (α : List Addr) (r : En) (σ : L2.St) (xs : List Rv) (vs : List V) (a : Addr) : Prop := Own α r σ a ∨ Tm xs vs a
structure TRs (K : KX) (α : List Addr) (r : En) (σ : L2.St) (H : Hp) (F : Addr → Prop) (xs : List Rv) (vs : List V) : Prop where
  all : Paired (TR K α r σ H F) xs vs
  one : ∀ (i j : Nat) (o o' : Ob) (a : Addr), xs[i]? = some (.own o) → vs[i]? = some (.ref a) → xs[j]? = some (.own o') → vs[j]? = some (.ref a) → i = j
def AftR (K : KX) (α : List Addr) (σ : L2.St) (O : Addr → Prop) (H : Hp) (F : Addr → Prop) (W : L2.WX) (x : Res (List Rv)) (Q : List V → Hp → Prop) : Prop :=
  match x with
  | .ok xs e => ∀ vs H' F', SR K α e σ H' F' → Step O H F H' F' (OwnTs α e σ xs vs) → TRs K α e σ H' F' xs vs → Q vs H'
  | .ex x e => AftX K α σ O H F W x e
  | .no => False
def tR (K : KX) (α : List Addr) (W : L2.WX) (f : M (List Rv)) : TA := fun σ H Q => ∃ r F, SR K α r σ H F ∧ AftR K α σ (Own α r σ) H F W (f r) Q
def nilR : M (List Rv) := M.ret []
def consR (f : M Rv) (g : M (List Rv)) : M (List Rv) := M.bnd f fun x => M.bnd g fun xs => M.ret (x :: xs)
theorem tR_mono {f : M (List Rv)} {Q Q' : List V → Hp → Prop} (h : tR K α W f σ H Q) (q : ∀ v H1, Q v H1 → Q' v H1) : tR K α W f σ H Q' := by
  obtain ⟨r, F, S, a⟩ := h
  refine ⟨r, F, S, ?_⟩
  cases e : f r with
  | ok x r1 => rw [e] at a; exact fun v H1 F1 b c d => q _ _ (a v H1 F1 b c d)
  | ex x r1 => rw [e] at a; exact a
  | no => rw [e] at a; exact a
theorem Step.widen {O P : Addr → Prop} {O' P' : Addr → Prop} (s : Step O H F H' F' O') (h : ∀ a, O a → P a) (h' : ∀ a, P' a → O' a ∨ P a) : Step P H F H' F' P' :=
  ⟨fun a o q n => s.keep a o q fun z => n (h a z), s.stay, fun a z => (s.nfz a z).imp id fun z => z.imp (h a) id, fun a z => (h' a z).elim (fun z => (s.own a z).imp (h a) id) .inl, s.dom⟩
theorem tm_cons {x : Rv} {v : V} {xs : List Rv} {vs : List V} {a : Addr} (h : Tm (x :: xs) (v :: vs) a) : ((∃ o, x = .own o) ∧ v = .ref a) ∨ Tm xs vs a := by
  obtain ⟨i, o, h1, h2⟩ := h
  cases i with
  | zero => simp at h1 h2; exact .inl ⟨⟨o, h1⟩, h2⟩
  | succ i => exact .inr ⟨i, o, by simpa using h1, by simpa using h2⟩
theorem nilR_ok {Q : List V → Hp → Prop} (h : tR K α W nilR σ H Q) : tNil σ H Q := by
  obtain ⟨r, F, S, h⟩ := h
  exact h [] H F S (Step.refl fun _ z => z.elim id fun ⟨i, o, z, _⟩ => by simp at z) ⟨.nil, fun i j o o' a z => by simp at z⟩
theorem consR_ok {f : M Rv} {g : M (List Rv)} {Q : List V → Hp → Prop} (h : tR K α W (consR f g) σ H Q) : tCons (tE K α W f) (tR K α W g) σ H Q := by
  obtain ⟨r, F, S, h⟩ := h
  refine ⟨r, F, S, ?_⟩
  unfold consR M.bnd at h
  cases e : f r with
  | no => simp only [e] at h; exact h
  | ex x r1 => simp only [e] at h; exact h
  | ok x r1 =>
    simp only [e] at h
    intro v H1 F1 S1 st1 t1
    refine ⟨r1, F1, S1, ?_⟩
    cases e2 : g r1 with
    | no => simp only [e2] at h; exact h
    | ex x r1 => simp only [e2] at h; exact AftX.step h st1 fun _ z => .inl z
    | ok xs r2 =>
      simp only [e2] at h
      intro vs H2 F2 S2 st2 t2
      have sub : ∀ a, Own α r2 σ a → OwnTs α r2 σ xs vs a := fun _ z => .inl z
      refine h (v :: vs) H2 F2 S2 (st1.trans (st2.widen (fun a z => .inl z) fun a z => ?_) fun _ z => z) ⟨.cons (t1.step st2 sub) t2.all, ?_⟩
      · exact (show OwnTs α r2 σ (x :: xs) (v :: vs) a from z).elim (fun z => .inl (.inl z)) fun z => (tm_cons z).elim (fun z => .inr (.inr z)) fun z => .inl (.inr z)
      · have apart : ∀ (o : Ob) (a : Addr), x = .own o → v = .ref a → ¬ Tm xs vs a := fun o a e1 e2 z => by
          subst e1 e2
          obtain ⟨a', u, e3, h3, _, _, h4⟩ := t1
          cases e3
          rcases st2.own a (.inr z) with q | q
          · exact h4 q
          · rw [h3] at q; cases q
        intro i j o o' a h1 h2 h3 h4
        cases i with
        | zero =>
          simp at h1 h2
          cases j with
          | zero => rfl
          | succ j => exact absurd ⟨j, o', by simpa using h3, by simpa using h4⟩ (apart o a h1 h2)
        | succ i =>
          cases j with
          | zero => simp at h3 h4; exact absurd ⟨i, o, by simpa using h1, by simpa using h2⟩ (apart o' a h3 h4)
          | succ j => rw [t2.one i j o o' a (by simpa using h1) (by simpa using h2) (by simpa using h3) (by simpa using h4)]
/-! ### a def's run -/
inductive Ag where
  | val (d : PyData)
  | own (o : Ob)
  | ref (o : Ob)
inductive FR where
  | ret (x : Rv) (os : List Bo)
  | ex (e : Exc) (os : List Bo)
  | no
def entVs : List Ag → Nat → List (Option Sl)
  | [], _ => []
  | .val d :: as, k => some (.val d) :: entVs as k
  | .own o :: as, k => some (.own o) :: entVs as k
  | .ref o :: as, k => some (.bor k) :: entVs as (k + 1)
def entOs : List Ag → List Bo
  | [] => []
  | .val _ :: as => entOs as
  | .own _ :: as => entOs as
  | .ref o :: as => .live o :: entOs as
def entry (n : Nat) (as : List Ag) : En := ⟨entVs as 0 ++ List.replicate (n - as.length) none, entOs as⟩
def finish (x : Out) : FR := match x with
  | .nx r => .ret (.val .none) r.os
  | .rt x r => match x with
    | .val d => .ret (.val d) r.os
    | .own o => .ret (.own o) r.os
    | .at (.slot i) => match look r (.slot i) with
      | some (.live o) => .ret (.own o) r.os
      | some (.dead d) => .ret (.val d) r.os
      | none => .no
    | .at (.obj k) => match frz (.at (.obj k)) r with
      | .ok d r1 => .ret (.val d) r1.os
      | _ => .no
  | .ex e r => .ex e r.os
  | _ => .no
def runF (np n : Nat) (bd : Stm) (as : List Ag) : FR := if as.length = np then finish (bd (entry n as)) else .no
/-- the promise of a def with the body bd: n names, np parameters -/
def spF (K : KX) (np n : Nat) (bd : Stm) : Sp := fun vs H Q E => vs.length = np ∧ ∃ (as : List Ag) (β : List Addr) (F : Addr → Prop) (N : List Str), N.length = n ∧ SR K β (entry n as) (L2.start N vs) H F ∧
  AftS K β (Own β (entry n as) (L2.start N vs)) H F (fun cls d _ H2 => E cls d H2) (bd (entry n as)) { nx := fun _ H' => Q .non H', rt := Q }
/-! ### the caller's side -/
def agOf (r : En) : Rv → Option (Ag × Option Lo)
  | .val d => some (.val d, none)
  | .own o => some (.own o, none)
  | .at l => match look r l with
    | some (.live o) => some (.ref o, some l)
    | some (.dead d) => some (.val d, none)
    | none => none
def agsOf (r : En) : List Rv → Option (List Ag × List Lo)
  | [] => some ([], [])
  | x :: xs => match agOf r x, agsOf r xs with
    | some (a, some l), some (as, ls) => some (a :: as, l :: ls)
    | some (a, none), some (as, ls) => some (a :: as, ls)
    | _, _ => none
def back : List Lo → List Bo → En → En
  | l :: ls, b :: bs, r => back ls bs (setLo r l b)
  | _, _, r => r
def noDup : List Lo → Bool
  | [] => true
  | l :: ls => !ls.contains l && noDup ls
def callF (G : List Ag → FR) (xs : List Rv) : M Rv := fun r =>
  match agsOf r xs with
  | some (as, ls) => if noDup ls = true then (match G as with
      | .ret x os => if os.length = ls.length then .ok x (back ls os r) else .no
      | .ex e os => if os.length = ls.length then .ex e (back ls os r) else .no
      | .no => .no) else .no
  | none => .no
/-! entering -/
inductive EA (K : KX) (H : Hp) (F : Addr → Prop) : List Ag → List V → List Addr → Prop
  | nil : EA K H F [] [] []
  | val {v d as vs β} : Fr K H F v d → EA K H F as vs β → EA K H F (.val d :: as) (v :: vs) β
  | own {a u o as vs β} : H a = some u → ObR K H F a o u → EA K H F as vs β → EA K H F (.own o :: as) (.ref a :: vs) β
  | ref {a u o as vs β} : H a = some u → ObR K H F a o u → EA K H F as vs β → EA K H F (.ref o :: as) (.ref a :: vs) (a :: β)
theorem EA.len : ∀ {as : List Ag} {vs : List V} {β : List Addr}, EA K H F as vs β → as.length = vs.length
  | _, _, _, .nil => rfl
  | _, _, _, .val _ h => by simp [EA.len h]
  | _, _, _, .own _ _ h => by simp [EA.len h]
  | _, _, _, .ref _ _ h => by simp [EA.len h]
theorem EA.slot : ∀ {as : List Ag} {vs : List V} {β : List Addr} (k i : Nat) (s : Sl), EA K H F as vs β → (entVs as k)[i]? = some (some s) →
    (∃ d v, s = .val d ∧ vs[i]? = some v ∧ Fr K H F v d) ∨ (∃ o a u, s = .own o ∧ as[i]? = some (.own o) ∧ vs[i]? = some (.ref a) ∧ H a = some u ∧ ObR K H F a o u) ∨ (∃ j a, s = .bor (k + j) ∧ vs[i]? = some (.ref a) ∧ β[j]? = some a)
  | _, _, _, _, _, _, .nil, e => by simp [entVs] at e
  | _, _, _, k, 0, s, .val h1 h, e => by
    simp [entVs] at e
    exact .inl ⟨_, _, e.symm, rfl, h1⟩
  | _, _, _, k, 0, s, .own h1 h2 h, e => by
    simp [entVs] at e
    exact .inr (.inl ⟨_, _, _, e.symm, rfl, rfl, h1, h2⟩)
  | _, _, _, k, 0, s, .ref h1 h2 h, e => by
    simp [entVs] at e
    exact .inr (.inr ⟨0, _, e.symm, rfl, rfl⟩)
  | _, _, _, k, i + 1, s, .val h1 h, e => by
    have e : (entVs _ k)[i]? = some (some s) := e
    simpa using EA.slot k i s h e
  | _, _, _, k, i + 1, s, .own h1 h2 h, e => by
    have e : (entVs _ k)[i]? = some (some s) := e
    simpa using EA.slot k i s h e
  | _, _, _, k, i + 1, s, .ref h1 h2 h, e => by
    have e : (entVs _ (k + 1))[i]? = some (some s) := e
    rcases EA.slot (k + 1) i s h e with ⟨d, v, q1, q2, q3⟩ | ⟨o, a, u, q1, q2, q3⟩ | ⟨j, a, q1, q2, q3⟩
    · exact .inl ⟨d, v, q1, by simpa using q2, q3⟩
    · exact .inr (.inl ⟨o, a, u, q1, by simpa using q2, by simpa using q3⟩)
    · exact .inr (.inr ⟨j + 1, a, by rw [q1]; congr 1; omega, by simpa using q2, by simpa using q3⟩)
theorem EA.obj : ∀ {as : List Ag} {vs : List V} {β : List Addr} (k : Nat) (b : Bo), EA K H F as vs β → (entOs as)[k]? = some b → ∃ o a u, b = .live o ∧ β[k]? = some a ∧ H a = some u ∧ ObR K H F a o u
  | _, _, _, _, _, .nil, e => by simp [entOs] at e
  | _, _, _, k, b, .val h1 h, e => EA.obj k b h e
  | _, _, _, k, b, .own h1 h2 h, e => EA.obj k b h e
  | _, _, _, 0, b, .ref h1 h2 h, e => by
    have e : some (Bo.live _) = some b := e
    cases e
    exact ⟨_, _, _, rfl, rfl, h1, h2⟩
  | _, _, _, k + 1, b, .ref h1 h2 h, e => by
    obtain ⟨o, a, u, q1, q2, q3⟩ := EA.obj k b h e
    exact ⟨o, a, u, q1, by simpa using q2, q3⟩
theorem EA.objs : ∀ {as : List Ag} {vs : List V} {β : List Addr}, EA K H F as vs β → (entOs as).length = β.length
  | _, _, _, .nil => rfl
  | _, _, _, .val _ h => (EA.objs h : _)
  | _, _, _, .own _ _ h => (EA.objs h : _)
  | _, _, _, .ref _ _ h => by simp [entOs, EA.objs h]
theorem start_get {N : List Str} {vs : List V} {i : Nat} {v : V} (h : vs[i]? = some v) : (L2.start N vs)[i]? = some (some v) := by
  have hi : i < vs.length := (List.getElem?_eq_some_iff.mp h).1
  unfold L2.start
  rw [List.getElem?_append_left (by simpa using hi), List.getElem?_map, h]
  rfl
theorem start_some {N : List Str} {vs : List V} {i : Nat} {v : V} (h : (L2.start N vs)[i]? = some (some v)) : vs[i]? = some v := by
  unfold L2.start at h
  by_cases hi : i < vs.length
  · rw [List.getElem?_append_left (by simpa using hi), List.getElem?_map] at h
    cases e : vs[i]? with
    | none => rw [e] at h; cases h
    | some w => rw [e] at h; cases h; rfl
  · rw [List.getElem?_append_right (by simpa using hi), List.getElem?_replicate] at h
    split at h <;> cases h
theorem entVs_len : ∀ (as : List Ag) (k : Nat), (entVs as k).length = as.length
  | [], _ => rfl
  | .val _ :: as, k => by simp [entVs, entVs_len as k]
  | .own _ :: as, k => by simp [entVs, entVs_len as k]
  | .ref _ :: as, k => by simp [entVs, entVs_len as (k + 1)]
theorem entry_slot {n : Nat} {as : List Ag} {i : Nat} {s : Sl} (h : (entry n as).vs[i]? = some (some s)) : (entVs as 0)[i]? = some (some s) := by
  have h : (entVs as 0 ++ List.replicate (n - as.length) none)[i]? = some (some s) := h
  by_cases hi : i < (entVs as 0).length
  · rwa [List.getElem?_append_left hi] at h
  · rw [List.getElem?_append_right (by omega), List.getElem?_replicate] at h
    split at h <;> cases h
/-- who is held at an entry -/
theorem entry_holds {N : List Str} {n : Nat} {as : List Ag} {vs : List V} {β : List Addr} (E : EA K H F as vs β) {l : Lo} {a : Addr} (h : Holds β (entry n as) (L2.start N vs) l a) :
    (∃ (i : Nat) (o : Ob), l = .slot i ∧ as[i]? = some (.own o) ∧ vs[i]? = some (.ref a)) ∨ ∃ k : Nat, l = .obj k ∧ β[k]? = some a := by
  cases l with
  | slot i =>
    obtain ⟨⟨o, q⟩, h2⟩ := h
    have h2 := start_some h2
    rcases E.slot 0 i _ (entry_slot q) with ⟨d, v, q1, _⟩ | ⟨o', a', u, q1, q2, q3, q4⟩ | ⟨j, a', q1, _⟩
    · cases q1
    · exact .inl ⟨i, o', rfl, q2, h2⟩
    · cases q1
  | obj k => exact .inr ⟨k, rfl, h.2⟩
theorem entry_SR {N : List Str} {n : Nat} {as : List Ag} {vs : List V} {β : List Addr} (E : EA K H F as vs β) (hN : N.length = n) (hn : vs.length ≤ n)
    (fd : ∀ a, F a → ∃ u, H a = some u) (d1 : ∀ (i j : Nat) (o o' : Ob) (a : Addr), as[i]? = some (.own o) → vs[i]? = some (.ref a) → as[j]? = some (.own o') → vs[j]? = some (.ref a) → i = j)
    (d2 : ∀ (i : Nat) (o : Ob) (a : Addr) (k : Nat), as[i]? = some (.own o) → vs[i]? = some (.ref a) → β[k]? ≠ some a) (d3 : ∀ (k k' : Nat) (a : Addr), β[k]? = some a → β[k']? = some a → k = k')
    (s1 : ∀ (i : Nat) (o : Ob) (a : Addr), as[i]? = some (.own o) → vs[i]? = some (.ref a) → ¬ F a) (s2 : ∀ (k : Nat) (a : Addr), β[k]? = some a → ¬ F a) : SR K β (entry n as) (L2.start N vs) H F where
  len := by
    show (entVs as 0 ++ List.replicate (n - as.length) none).length = (vs.map some ++ List.replicate (N.length - vs.length) none).length
    have e1 := E.len
    simp only [List.length_append, entVs_len, List.length_replicate, List.length_map]
    omega
  slot := fun i s q => by
    rcases E.slot 0 i s (entry_slot q) with ⟨d, v, q1, q2, q3⟩ | ⟨o, a, u, q1, q2, q3, q4, q5⟩ | ⟨j, a, q1, q2, q3⟩
    · subst q1; exact ⟨v, start_get q2, q3⟩
    · subst q1; exact ⟨_, start_get q3, a, u, rfl, q4, q5⟩
    · subst q1; exact ⟨_, start_get q2, a, rfl, by simpa using q3⟩
  obj := fun k b q => by
    obtain ⟨o, a, u, q1, q2, q3, q4⟩ := E.obj k b q
    subst q1
    exact ⟨a, q2, u, q3, q4⟩
  apart := fun l l' a h h' => by
    rcases entry_holds E h with ⟨i, o, rfl, h1, h2⟩ | ⟨k, rfl, h1⟩
    · rcases entry_holds E h' with ⟨j, o', rfl, h1', h2'⟩ | ⟨k', rfl, h1'⟩
      · rw [d1 i j o o' a h1 h2 h1' h2']
      · exact absurd h1' (d2 i o a k' h1 h2)
    · rcases entry_holds E h' with ⟨j, o', rfl, h1', h2'⟩ | ⟨k', rfl, h1'⟩
      · exact absurd h1 (d2 j o' a k h1' h2')
      · rw [d3 k k' a h1 h1']
  sep := fun l a h => by
    rcases entry_holds E h with ⟨i, o, rfl, h1, h2⟩ | ⟨k, rfl, h1⟩
    · exact s1 i o a h1 h2
    · exact s2 k a h1
  fdom := fd
/-- the arguments of a call -/
theorem ags_ea (S : SR K α r σ H F) : ∀ {xs : List Rv} {vs : List V} {as : List Ag} {ls : List Lo}, Paired (TR K α r σ H F) xs vs → agsOf r xs = some (as, ls) →
    ∃ β, EA K H F as vs β ∧ Paired (Holds α r σ) ls β ∧ ∀ (i : Nat) (o : Ob), as[i]? = some (.own o) → xs[i]? = some (.own o)
  | [], _, _, _, .nil, e => by cases e; exact ⟨[], .nil, .nil, fun i o z => by simp at z⟩
  | x :: xs, v :: vs, as, ls, .cons t p, e => by
    unfold agsOf at e
    split at e
    · rename_i a l as1 ls1 q1 q2
      cases e
      obtain ⟨β, E, P, o1⟩ := ags_ea S p q2
      cases x with
      | val d => cases q1
      | own o => cases q1
      | «at» l1 =>
        obtain ⟨b, rfl, hb⟩ := t
        have q1 : (match look r l1 with
          | some (.live o) => some (Ag.ref o, some l1)
          | some (.dead d) => some (.val d, none)
          | none => none) = some (a, some l) := q1
        split at q1
        · rename_i o ho
          cases q1
          have hh := look_holds ho hb
          obtain ⟨b', u, e3, h3, h4⟩ := content_rel S (x := .at l) (b := .live o) ⟨b, rfl, hb⟩ ho
          cases e3
          exact ⟨b :: β, .ref h3 h4 E, .cons hh P, fun i o' z => by
            cases i with
            | zero => simp at z
            | succ i => simpa using o1 i o' (by simpa using z)⟩
        · cases q1
        · cases q1
    · rename_i a as1 ls1 q1 q2
      cases e
      obtain ⟨β, E, P, o1⟩ := ags_ea S p q2
      cases x with
      | val d =>
        cases q1
        exact ⟨β, .val t E, P, fun i o' z => by
          cases i with
          | zero => simp at z
          | succ i => simpa using o1 i o' (by simpa using z)⟩
      | own o =>
        cases q1
        obtain ⟨b, u, rfl, h3, h4, _⟩ := t
        exact ⟨β, .own h3 h4 E, P, fun i o' z => by
          cases i with
          | zero => simpa using z
          | succ i => simpa using o1 i o' (by simpa using z)⟩
      | «at» l1 =>
        have q1 : (match look r l1 with
          | some (.live o) => some (Ag.ref o, some l1)
          | some (.dead d) => some (.val d, none)
          | none => none) = some (a, none) := q1
        split at q1
        · cases q1
        · rename_i d ho
          cases q1
          have := content_rel S (x := .at l1) t ho
          exact ⟨β, .val this E, P, fun i o' z => by
            cases i with
            | zero => simp at z
            | succ i => simpa using o1 i o' (by simpa using z)⟩
        · cases q1
    · cases e
/-! coming back -/
structure SX (K : KX) (α : List Addr) (r : En) (σ : L2.St) (H : Hp) (F : Addr → Prop) (P : Lo → Prop) : Prop where
  len : r.vs.length = σ.length
  slot : ∀ (i : Nat) (s : Sl), r.vs[i]? = some (some s) → ¬ P (.slot i) → ∃ v : V, σ[i]? = some (some v) ∧ SlR K α H F s v
  obj : ∀ (k : Nat) (b : Bo), r.os[k]? = some b → ¬ P (.obj k) → ∃ a, α[k]? = some a ∧ BoR K H F b a
  apart : ∀ l l' a, ¬ P l → ¬ P l' → Holds α r σ l a → Holds α r σ l' a → l = l'
  sep : ∀ l a, ¬ P l → Holds α r σ l a → ¬ F a
  fdom : ∀ a, F a → ∃ u, H a = some u
theorem setLo_slot {l : Lo} {b : Bo} {i : Nat} {s : Sl} (h : (setLo r l b).vs[i]? = some (some s)) : (l = .slot i ∧ ((∃ o, b = .live o ∧ s = .own o) ∨ ∃ d, b = .dead d ∧ s = .val d)) ∨ (l ≠ .slot i ∧ r.vs[i]? = some (some s)) := by
  cases l with
  | obj k => exact .inr ⟨nofun, by cases b <;> exact h⟩
  | slot j =>
    cases b with
    | live o =>
      rcases set_get (show (r.vs.set j (some (.own o)))[i]? = _ from h) with ⟨e, q⟩ | ⟨e, q⟩
      · subst e; injection q with q; exact .inl ⟨rfl, .inl ⟨o, rfl, q.symm⟩⟩
      · exact .inr ⟨fun z => e (by cases z; rfl), q⟩
    | dead d =>
      rcases set_get (show (r.vs.set j (some (.val d)))[i]? = _ from h) with ⟨e, q⟩ | ⟨e, q⟩
      · subst e; injection q with q; exact .inl ⟨rfl, .inr ⟨d, rfl, q.symm⟩⟩
      · exact .inr ⟨fun z => e (by cases z; rfl), q⟩
theorem setLo_obj {l : Lo} {b c : Bo} {k : Nat} (h : (setLo r l b).os[k]? = some c) : (l = .obj k ∧ c = b) ∨ (l ≠ .obj k ∧ r.os[k]? = some c) := by
  cases l with
  | slot j => exact .inr ⟨nofun, by cases b <;> exact h⟩
  | obj j =>
    have h : (r.os.set j b)[k]? = some c := by cases b <;> exact h
    rcases set_get h with ⟨e, q⟩ | ⟨e, q⟩
    · subst e; exact .inl ⟨rfl, q.symm⟩
    · exact .inr ⟨fun z => e (by cases z; rfl), q⟩
theorem setLo_len {l : Lo} {b : Bo} : (setLo r l b).vs.length = r.vs.length := by
  cases l with
  | slot j => cases b <;> exact List.length_set
  | obj j => cases b <;> rfl
theorem SX.one {P Q : Lo → Prop} (S : SX K α r σ H F P) {l : Lo} {b : Bo} {a : Addr} (hp : ∀ l', P l' → l' = l ∨ Q l') (ha : LoAt α σ l a) (hb : BoR K H F b a) (hl : ∀ o, b = .live o → ¬ F a ∧ ∀ l', ¬ P l' → ¬ Holds α r σ l' a) :
    SX K α (setLo r l b) σ H F Q where
  len := setLo_len.trans S.len
  slot := fun i s q n => by
    rcases setLo_slot q with ⟨e, ⟨o, e1, e2⟩ | ⟨d, e1, e2⟩⟩ | ⟨e, q⟩
    · subst e e1 e2; obtain ⟨u, h1, h2⟩ := hb; exact ⟨.ref a, ha, a, u, rfl, h1, h2⟩
    · subst e e1 e2; exact ⟨.ref a, ha, hb⟩
    · exact S.slot i s q fun z => (hp _ z).elim (fun z => e z.symm) n
  obj := fun k c q n => by
    rcases setLo_obj q with ⟨e, e1⟩ | ⟨e, q⟩
    · subst e e1; exact ⟨a, ha, hb⟩
    · exact S.obj k c q fun z => (hp _ z).elim (fun z => e z.symm) n
  apart := fun l1 l2 x n1 n2 h1 h2 => by
    have addr : ∀ x, LoAt α σ l x → x = a := fun x q => by
      cases l with
      | slot i => have q : σ[i]? = some (some (V.ref x)) := q; have ha : σ[i]? = some (some (V.ref a)) := ha; rw [ha] at q; cases q; rfl
      | obj k => have q : α[k]? = some x := q; have ha : α[k]? = some a := ha; rw [ha] at q; cases q; rfl
    rcases setLo_holds h1 with ⟨e1, o, eb⟩ | ⟨e1, q1⟩
    · subst e1
      have ex := addr x h1.lo
      subst ex
      rcases setLo_holds h2 with ⟨e2, _⟩ | ⟨e2, q2⟩
      · exact e2.symm
      · exact absurd q2 ((hl o eb).2 l2 fun z => (hp _ z).elim e2 n2)
    · rcases setLo_holds h2 with ⟨e2, o, eb⟩ | ⟨e2, q2⟩
      · subst e2
        have ex := addr x h2.lo
        subst ex
        exact absurd q1 ((hl o eb).2 l1 fun z => (hp _ z).elim e1 n1)
      · exact S.apart l1 l2 x (fun z => (hp _ z).elim e1 n1) (fun z => (hp _ z).elim e2 n2) q1 q2
  sep := fun l1 x n1 h1 => by
    rcases setLo_holds h1 with ⟨e1, o, eb⟩ | ⟨e1, q1⟩
    · subst e1
      have : x = a := by
        have q := h1.lo
        cases l1 with
        | slot i => have q : σ[i]? = some (some (V.ref x)) := q; have ha : σ[i]? = some (some (V.ref a)) := ha; rw [ha] at q; cases q; rfl
        | obj k => have q : α[k]? = some x := q; have ha : α[k]? = some a := ha; rw [ha] at q; cases q; rfl
      exact this ▸ (hl o eb).1
    · exact S.sep l1 x (fun z => (hp _ z).elim e1 n1) q1
  fdom := S.fdom
theorem back_ok : ∀ {ls : List Lo} {os : List Bo} {β : List Addr} {r : En}, SX K α r σ H F (fun l => l ∈ ls) → Paired (LoAt α σ) ls β → os.length = ls.length →
    (∀ (k : Nat) (b : Bo) (a : Addr), os[k]? = some b → β[k]? = some a → BoR K H F b a ∧ ∀ o, b = .live o → ¬ F a) → (∀ (k k' : Nat) (o o' : Ob) (a : Addr), os[k]? = some (.live o) → β[k]? = some a → os[k']? = some (.live o') → β[k']? = some a → k = k') → noDup ls = true →
    (∀ l a, l ∉ ls → Holds α r σ l a → ∀ (k : Nat) (o : Ob), os[k]? = some (.live o) → β[k]? ≠ some a) →
    SR K α (back ls os r) σ H F ∧ ∀ l a, Holds α (back ls os r) σ l a → (Holds α r σ l a ∧ l ∉ ls) ∨ ∃ (k : Nat) (o : Ob), ls[k]? = some l ∧ os[k]? = some (.live o) ∧ β[k]? = some a
  | [], [], _, r, S, .nil, _, _, _, _, _ => ⟨⟨S.len, fun i s q => S.slot i s q (by simp), fun k b q => S.obj k b q (by simp), fun l l' a => S.apart l l' a (by simp) (by simp), fun l a => S.sep l a (by simp), S.fdom⟩, fun l a h => .inl ⟨h, by simp⟩⟩
  | [], _ :: _, _, _, _, _, e, _, _, _, _ => by simp at e
  | _ :: _, [], _, _, _, _, e, _, _, _, _ => by simp at e
  | l :: ls, b :: os, a :: β, r, S, .cons h P, e, hb, hd, hn, ho => by
    have hn1 : l ∉ ls ∧ noDup ls = true := by
      have hn : (!ls.contains l && noDup ls) = true := hn
      rw [Bool.and_eq_true] at hn
      exact ⟨by simpa using hn.1, hn.2⟩
    have addr : ∀ x, LoAt α σ l x → x = a := fun x q => by
      cases l with
      | slot i => have q : σ[i]? = some (some (V.ref x)) := q; have h : σ[i]? = some (some (V.ref a)) := h; rw [h] at q; cases q; rfl
      | obj k => have q : α[k]? = some x := q; have h : α[k]? = some a := h; rw [h] at q; cases q; rfl
    have S1 : SX K α (setLo r l b) σ H F (fun l' => l' ∈ ls) := S.one (fun l' z => List.mem_cons.mp z) h (hb 0 b a rfl rfl).1 fun o eb => ⟨(hb 0 b a rfl rfl).2 o eb, fun l' n q => ho l' a n q 0 o (by rw [eb]; rfl) rfl⟩
    obtain ⟨R, ow⟩ := back_ok (os := os) S1 P (by simpa using e) (fun k c x q1 q2 => hb (k + 1) c x (by simpa using q1) (by simpa using q2))
      (fun k k' o o' x q1 q2 q3 q4 => by have := hd (k + 1) (k' + 1) o o' x (by simpa using q1) (by simpa using q2) (by simpa using q3) (by simpa using q4); omega) hn1.2
      (fun l' x n q k o q1 q2 => by
        rcases setLo_holds q with ⟨e1, o', eb⟩ | ⟨e1, q⟩
        · subst e1
          have ex := addr x q.lo
          subst ex
          have := hd 0 (k + 1) o' o x (by rw [eb]; rfl) rfl (by simpa using q1) (by simpa using q2)
          omega
        · exact ho l' x (fun z => (List.mem_cons.mp z).elim e1 n) q (k + 1) o (by simpa using q1) (by simpa using q2))
    refine ⟨R, fun l' x q => ?_⟩
    rcases ow l' x q with ⟨q, n⟩ | ⟨k, o, q1, q2, q3⟩
    · rcases setLo_holds q with ⟨e1, o', eb⟩ | ⟨e1, q⟩
      · subst e1
        exact .inr ⟨0, o', rfl, by rw [eb]; rfl, by rw [addr x q.lo]; rfl⟩
      · exact .inl ⟨q, fun z => (List.mem_cons.mp z).elim e1 n⟩
    · exact .inr ⟨k + 1, o, by simpa using q1, by simpa using q2, by simpa using q3⟩
def callE (G : List Ag → FR) (f : M (List Rv)) : M Rv := M.bnd f fun xs => callF G xs
end Mi

/-! Mi8.lean -/
set_option Elab.async false
set_option linter.all false
set_option maxRecDepth 100000
/-! calls -/
namespace Mi
open PySem L2 PySem.Spec PyProof.Rows
variable {K : KX} {α : List Addr} {r r' : En} {σ : L2.St} {H H' : Hp} {F F' : Addr → Prop}

theorem paired_get {β γ : Type} {P : β → γ → Prop} : ∀ {xs : List β} {ys : List γ} {k : Nat} {y : γ}, Paired P xs ys → ys[k]? = some y → ∃ x, xs[k]? = some x ∧ P x y
  | _, _, _, _, .nil, h => by simp at h
  | _, _, 0, _, .cons a b, h => by simp at h; subst h; exact ⟨_, rfl, a⟩
  | _, _, k + 1, _, .cons a b, h => by
    obtain ⟨x, h1, h2⟩ := paired_get (k := k) b (by simpa using h)
    exact ⟨x, by simpa using h1, h2⟩
theorem paired_len {β γ : Type} {P : β → γ → Prop} : ∀ {xs : List β} {ys : List γ}, Paired P xs ys → xs.length = ys.length
  | _, _, .nil => rfl
  | _, _, .cons a b => by simp [paired_len b]
theorem noDup_get : ∀ {ls : List Lo} {i j : Nat} {l : Lo}, noDup ls = true → ls[i]? = some l → ls[j]? = some l → i = j
  | [], _, _, _, _, h, _ => by simp at h
  | x :: ls, i, j, l, n, h1, h2 => by
    have n : (!ls.contains x && noDup ls) = true := n
    rw [Bool.and_eq_true] at n
    have nx : x ∉ ls := by simpa using n.1
    cases i with
    | zero =>
      cases j with
      | zero => rfl
      | succ j => simp at h1 h2; subst h1; exact absurd (List.mem_of_getElem? h2) nx
    | succ i =>
      cases j with
      | zero => simp at h1 h2; subst h2; exact absurd (List.mem_of_getElem? h1) nx
      | succ j => exact congrArg Nat.succ (noDup_get (l := l) n.2 (by simpa using h1) (by simpa using h2))
/-- behind a call: from what the callee has left to the caller's state -/
theorem call_end {xs : List Rv} {vs : List V} {ls : List Lo} {β : List Addr} {Oc P : Addr → Prop} {os : List Bo} {x : Rv} {v : V} {Q : VK} {W : L2.WX}
    (S : SR K α r σ H F) (T : TRs K α r σ H F xs vs) (B : Paired (Holds α r σ) ls β) (nd : noDup ls = true) (oc : ∀ a, Oc a → Tm xs vs a ∨ ∃ k : Nat, β[k]? = some a)
    (st : Step Oc H F H' F' P) (hl : os.length = ls.length) (bo : ∀ (k : Nat) (b : Bo), os[k]? = some b → ∃ a, β[k]? = some a ∧ BoR K H' F' b a)
    (lv : ∀ (k : Nat) (o : Ob) (a : Addr), os[k]? = some (.live o) → β[k]? = some a → ¬ F' a) (fd : ∀ a, F' a → ∃ u, H' a = some u)
    (hx : match x with
      | .val d => Fr K H' F' v d
      | .own o => ∃ a u, v = .ref a ∧ H' a = some u ∧ ObR K H' F' a o u ∧ ¬ F' a ∧ P a ∧ ∀ (k : Nat) (o' : Ob), os[k]? = some (.live o') → β[k]? ≠ some a
      | .at _ => False)
    (h : Aft K α σ (OwnTs α r σ xs vs) H F W (.ok x (back ls os r)) Q) : Q v H' := by
  -- an address held by the caller, of no argument
  have out : ∀ l a, l ∉ ls → Holds α r σ l a → ¬ Oc a := fun l a n q z => by
    rcases oc a z with z | ⟨k, z⟩
    · obtain ⟨i, o, e1, e2⟩ := z
      obtain ⟨y, e3, t⟩ := paired_get T.all e2
      rw [e1] at e3; cases e3
      obtain ⟨a', u, e4, _, _, _, n2⟩ := t
      cases e4
      exact n2 ⟨l, q⟩
    · obtain ⟨l', e1, q'⟩ := paired_get B z
      have := S.apart l l' a q q'
      subst this
      exact n (List.mem_of_getElem? e1)
  have nF : ∀ l a, l ∉ ls → Holds α r σ l a → ¬ F' a := fun l a n q z => by
    rcases st.nfz a z with z | z | z
    · exact S.sep l a q z
    · exact out l a n q z
    · obtain ⟨_, u, e, _⟩ := q.has S
      rw [e] at z; cases z
  have SX0 : SX K α r σ H' F' (fun l => l ∈ ls) := {
    len := S.len
    slot := fun i s q n => by
      obtain ⟨w, h1, h2⟩ := S.slot i s q
      refine ⟨w, h1, ?_⟩
      cases s with
      | val d => exact Fr.stay st.stay h2
      | own o =>
        obtain ⟨a, u, rfl, h3, h4⟩ := h2
        exact ⟨a, u, rfl, st.keep a u h3 (out _ a n ⟨⟨o, q⟩, h1⟩), h4.stay st.stay⟩
      | bor k => exact h2
      | cau x => exact CauR.stay st.stay h2
    obj := fun k b q n => by
      obtain ⟨a, h1, h2⟩ := S.obj k b q
      refine ⟨a, h1, ?_⟩
      cases b with
      | live o =>
        obtain ⟨u, h3, h4⟩ := h2
        exact ⟨u, st.keep a u h3 (out _ a n ⟨⟨o, q⟩, h1⟩), h4.stay st.stay⟩
      | dead d => exact Fr.stay st.stay h2
    apart := fun l l' a _ _ q q' => S.apart l l' a q q'
    sep := fun l a n q => nF l a n q
    fdom := fd }
  obtain ⟨R, ow⟩ := back_ok SX0 (paired_imp (fun _ _ q => q.lo) B) hl (fun k b a q1 q2 => by
      obtain ⟨a', q3, q4⟩ := bo k b q1
      rw [q2] at q3; cases q3
      exact ⟨q4, fun o e => lv k o a (by rw [q1, e]) q2⟩)
    (fun k k' o o' a q1 q2 q3 q4 => by
      obtain ⟨l, e1, p1⟩ := paired_get B q2
      obtain ⟨l', e2, p2⟩ := paired_get B q4
      have := S.apart l l' a p1 p2
      subst this
      exact noDup_get nd e1 e2) nd
    (fun l a n q k o q1 q2 => by
      obtain ⟨l', e1, p1⟩ := paired_get B q2
      have := S.apart l l' a q p1
      subst this
      exact n (List.mem_of_getElem? e1))
  have sub : ∀ a, Oc a → OwnTs α r σ xs vs a := fun a z => (oc a z).elim .inr fun ⟨k, z⟩ => by
    obtain ⟨l, _, p⟩ := paired_get B z
    exact .inl ⟨l, p⟩
  have own2 : ∀ a, Own α (back ls os r) σ a → OwnTs α r σ xs vs a := fun a ⟨l, q⟩ => by
    rcases ow l a q with ⟨q, _⟩ | ⟨k, o, e1, e2, e3⟩
    · exact .inl ⟨l, q⟩
    · obtain ⟨l', _, p⟩ := paired_get B e3
      exact .inl ⟨l', p⟩
  refine h v H' F' R (st.widen sub fun a z => ?_) ?_
  · rcases z with z | ⟨⟨o, e⟩, e2⟩
    · exact .inr (own2 a z)
    · subst e
      obtain ⟨a', u, e3, _, _, _, p, _⟩ := hx
      rw [e3] at e2; cases e2
      exact .inl p
  · cases x with
    | val d => exact hx
    | «at» l => exact hx.elim
    | own o =>
      obtain ⟨a, u, e3, h1, h2, h3, p, h4⟩ := hx
      refine ⟨a, u, e3, h1, h2, h3, fun ⟨l, q⟩ => ?_⟩
      rcases ow l a q with ⟨q, n⟩ | ⟨k, o', e1, e2, e4⟩
      · rcases st.own a p with z | z
        · exact out l a n q z
        · obtain ⟨_, w, e, _⟩ := q.has S
          rw [e] at z; cases z
      · exact h4 k o' e2 e4
/-- behind a call: from what the callee has left to the caller's state -/
theorem call_state {xs : List Rv} {vs : List V} {ls : List Lo} {β : List Addr} {Oc P : Addr → Prop} {os : List Bo}
    (S : SR K α r σ H F) (T : TRs K α r σ H F xs vs) (B : Paired (Holds α r σ) ls β) (nd : noDup ls = true) (oc : ∀ a, Oc a → Tm xs vs a ∨ ∃ k : Nat, β[k]? = some a)
    (st : Step Oc H F H' F' P) (hl : os.length = ls.length) (bo : ∀ (k : Nat) (b : Bo), os[k]? = some b → ∃ a, β[k]? = some a ∧ BoR K H' F' b a)
    (lv : ∀ (k : Nat) (o : Ob) (a : Addr), os[k]? = some (.live o) → β[k]? = some a → ¬ F' a) (fd : ∀ a, F' a → ∃ u, H' a = some u) : SR K α (back ls os r) σ H' F' ∧ Step (OwnTs α r σ xs vs) H F H' F' (Own α (back ls os r) σ) := by
  -- an address held by the caller, of no argument
  have out : ∀ l a, l ∉ ls → Holds α r σ l a → ¬ Oc a := fun l a n q z => by
    rcases oc a z with z | ⟨k, z⟩
    · obtain ⟨i, o, e1, e2⟩ := z
      obtain ⟨y, e3, t⟩ := paired_get T.all e2
      rw [e1] at e3; cases e3
      obtain ⟨a', u, e4, _, _, _, n2⟩ := t
      cases e4
      exact n2 ⟨l, q⟩
    · obtain ⟨l', e1, q'⟩ := paired_get B z
      have := S.apart l l' a q q'
      subst this
      exact n (List.mem_of_getElem? e1)
  have nF : ∀ l a, l ∉ ls → Holds α r σ l a → ¬ F' a := fun l a n q z => by
    rcases st.nfz a z with z | z | z
    · exact S.sep l a q z
    · exact out l a n q z
    · obtain ⟨_, u, e, _⟩ := q.has S
      rw [e] at z; cases z
  have SX0 : SX K α r σ H' F' (fun l => l ∈ ls) := {
    len := S.len
    slot := fun i s q n => by
      obtain ⟨w, h1, h2⟩ := S.slot i s q
      refine ⟨w, h1, ?_⟩
      cases s with
      | val d => exact Fr.stay st.stay h2
      | own o =>
        obtain ⟨a, u, rfl, h3, h4⟩ := h2
        exact ⟨a, u, rfl, st.keep a u h3 (out _ a n ⟨⟨o, q⟩, h1⟩), h4.stay st.stay⟩
      | bor k => exact h2
      | cau x => exact CauR.stay st.stay h2
    obj := fun k b q n => by
      obtain ⟨a, h1, h2⟩ := S.obj k b q
      refine ⟨a, h1, ?_⟩
      cases b with
      | live o =>
        obtain ⟨u, h3, h4⟩ := h2
        exact ⟨u, st.keep a u h3 (out _ a n ⟨⟨o, q⟩, h1⟩), h4.stay st.stay⟩
      | dead d => exact Fr.stay st.stay h2
    apart := fun l l' a _ _ q q' => S.apart l l' a q q'
    sep := fun l a n q => nF l a n q
    fdom := fd }
  obtain ⟨R, ow⟩ := back_ok SX0 (paired_imp (fun _ _ q => q.lo) B) hl (fun k b a q1 q2 => by
      obtain ⟨a', q3, q4⟩ := bo k b q1
      rw [q2] at q3; cases q3
      exact ⟨q4, fun o e => lv k o a (by rw [q1, e]) q2⟩)
    (fun k k' o o' a q1 q2 q3 q4 => by
      obtain ⟨l, e1, p1⟩ := paired_get B q2
      obtain ⟨l', e2, p2⟩ := paired_get B q4
      have := S.apart l l' a p1 p2
      subst this
      exact noDup_get nd e1 e2) nd
    (fun l a n q k o q1 q2 => by
      obtain ⟨l', e1, p1⟩ := paired_get B q2
      have := S.apart l l' a q p1
      subst this
      exact n (List.mem_of_getElem? e1))
  have sub : ∀ a, Oc a → OwnTs α r σ xs vs a := fun a z => (oc a z).elim .inr fun ⟨k, z⟩ => by
    obtain ⟨l, _, p⟩ := paired_get B z
    exact .inl ⟨l, p⟩
  have own2 : ∀ a, Own α (back ls os r) σ a → OwnTs α r σ xs vs a := fun a ⟨l, q⟩ => by
    rcases ow l a q with ⟨q, _⟩ | ⟨k, o, e1, e2, e3⟩
    · exact .inl ⟨l, q⟩
    · obtain ⟨l', _, p⟩ := paired_get B e3
      exact .inl ⟨l', p⟩
  exact ⟨R, st.widen sub fun a z => .inr (own2 a z)⟩
theorem call_ok {xs : List Rv} {vs : List V} {np n : Nat} {bd : Stm} {Q : VK} {W : L2.WX} (hn : np ≤ n) (S : SR K α r σ H F) (T : TRs K α r σ H F xs vs)
    (h : Aft K α σ (OwnTs α r σ xs vs) H F W (callF (runF np n bd) xs r) Q) : spF K np n bd vs H Q (fun cls d H2 => W cls d σ H2) := by
  unfold callF at h
  cases e : agsOf r xs with
  | none => rw [e] at h; exact h.elim
  | some p =>
    obtain ⟨as, ls⟩ := p
    rw [e] at h
    simp only at h
    split at h
    · rename_i nd
      obtain ⟨β, E, B, ox⟩ := ags_ea S T.all e
      have el := E.len
      unfold runF at h
      by_cases hp0 : as.length = np
      case neg => rw [if_neg hp0] at h; exact h.elim
      rw [if_pos hp0] at h
      have hp : vs.length = np := el.symm.trans hp0
      refine ⟨hp, ?_⟩
      have hNl : (List.replicate n ("" : Str)).length = n := List.length_replicate
      have tm : ∀ (i : Nat) (o : Ob) (a : Addr), as[i]? = some (.own o) → vs[i]? = some (.ref a) → Tm xs vs a := fun i o a q1 q2 => ⟨i, o, ox i o q1, q2⟩
      have tmO : ∀ a, Tm xs vs a → ¬ F a ∧ ¬ Own α r σ a := fun a ⟨i, o, q1, q2⟩ => by
        obtain ⟨y, e3, t⟩ := paired_get T.all q2
        rw [q1] at e3; cases e3
        obtain ⟨a', u, e4, _, _, n1, n2⟩ := t
        cases e4
        exact ⟨n1, n2⟩
      have S0 := entry_SR (n := n) E hNl (by omega) S.fdom (fun i j o o' a q1 q2 q3 q4 => T.one i j o o' a (ox i o q1) q2 (ox j o' q3) q4)
        (fun i o a k q1 q2 q3 => by
          obtain ⟨l, _, p⟩ := paired_get B q3
          exact (tmO a (tm i o a q1 q2)).2 ⟨l, p⟩)
        (fun k k' a q1 q2 => by
          obtain ⟨l, e1, p1⟩ := paired_get B q1
          obtain ⟨l', e2, p2⟩ := paired_get B q2
          have := S.apart l l' a p1 p2
          subst this
          exact noDup_get nd e1 e2)
        (fun i o a q1 q2 => (tmO a (tm i o a q1 q2)).1) (fun k a q => by
          obtain ⟨l, _, p⟩ := paired_get B q
          exact S.sep l a p)
      have oc : ∀ a, Own β (entry n as) (L2.start (List.replicate n ("" : Str)) vs) a → Tm xs vs a ∨ ∃ k : Nat, β[k]? = some a := fun a ⟨l, q⟩ => by
        rcases entry_holds E q with ⟨i, o, _, q1, q2⟩ | ⟨k, _, q1⟩
        · exact .inl (tm i o a q1 q2)
        · exact .inr ⟨k, q1⟩
      refine ⟨as, β, F, List.replicate n "", hNl, S0, ?_⟩
      have lvOf : ∀ {e' : En} {σ' : L2.St} {H' : Hp} {F' : Addr → Prop}, SR K β e' σ' H' F' → ∀ (k : Nat) (o : Ob) (a : Addr), e'.os[k]? = some (.live o) → β[k]? = some a → ¬ F' a := fun S' k o a q1 q2 => S'.sep (.obj k) a ⟨⟨o, q1⟩, q2⟩
      cases eb : bd (entry n as) with
      | no => rw [eb] at h; exact h
      | ex z e' =>
        rw [eb] at h
        have h : (match (FR.ex z e'.os : FR) with
          | .ret x os => if os.length = ls.length then (Res.ok x (back ls os r) : Res Rv) else .no
          | .ex e os => if os.length = ls.length then .ex e (back ls os r) else .no
          | .no => .no) = (if e'.os.length = ls.length then .ex z (back ls e'.os r) else .no) → Aft K α σ (OwnTs α r σ xs vs) H F W (if e'.os.length = ls.length then .ex z (back ls e'.os r) else .no) Q := fun _ => h
        have h := h rfl
        split at h
        · rename_i hl
          intro σ' cls d H' F' S' st ex
          obtain ⟨R, st2⟩ := call_state S T B nd oc st hl S'.obj (lvOf S') S'.fdom
          exact h cls d H' F' R st2 ex
        · exact h.elim
      | bk e' => rw [eb] at h; exact h.elim
      | ct e' => rw [eb] at h; exact h.elim
      | nx e' =>
        rw [eb] at h
        intro σ' H' F' S' st
        simp only [finish] at h
        split at h
        · rename_i hl
          exact call_end (x := .val .none) S T B nd oc st hl S'.obj (lvOf S') S'.fdom .non h
        · exact h.elim
      | rt x e' =>
        rw [eb] at h
        intro v σ' H' F' S' st t
        cases x with
        | val d =>
          simp only [finish] at h
          split at h
          · rename_i hl
            exact call_end (x := .val d) S T B nd oc st hl S'.obj (lvOf S') S'.fdom t h
          · exact h.elim
        | own o =>
          simp only [finish] at h
          split at h
          · rename_i hl
            obtain ⟨a, u, rfl, h1, h2, h3, h4⟩ := t
            exact call_end (x := .own o) S T B nd oc st hl S'.obj (lvOf S') S'.fdom ⟨a, u, rfl, h1, h2, h3, .inr ⟨⟨o, rfl⟩, rfl⟩, fun k o' q1 q2 => h4 ⟨.obj k, ⟨o', q1⟩, q2⟩⟩ h
          · exact h.elim
        | «at» l =>
          cases l with
          | slot i =>
            simp only [finish] at h
            cases el : look e' (.slot i) with
            | none => simp only [el] at h; exact h.elim
            | some b =>
              have t2 := content_rel S' (x := .at (.slot i)) t el
              cases b with
              | dead d =>
                simp only [el] at h
                split at h
                · rename_i hl
                  exact call_end (x := .val d) S T B nd oc st hl S'.obj (lvOf S') S'.fdom t2 h
                · exact h.elim
              | live o =>
                simp only [el] at h
                split at h
                · rename_i hl
                  obtain ⟨a, u, rfl, h1, h2⟩ := t2
                  obtain ⟨a', e3, ha⟩ := t
                  cases e3
                  have hh := look_holds el ha
                  exact call_end (x := .own o) S T B nd oc st hl S'.obj (lvOf S') S'.fdom ⟨a, u, rfl, h1, h2, S'.sep _ a hh, .inl ⟨_, hh⟩, fun k o' q1 q2 => nomatch S'.apart (.slot i) (.obj k) a hh ⟨⟨o', q1⟩, q2⟩⟩ h
                · exact h.elim
          | obj k =>
            simp only [finish] at h
            cases ez : frz (.at (.obj k)) e' with
            | no => simp only [ez] at h; exact h.elim
            | ex z e2 => exact absurd ez frz_ex
            | ok d e2 =>
              simp only [ez] at h
              split at h
              · rename_i hl
                obtain ⟨F2, S2, fr, st2, _⟩ := frz_ok S' t ez
                exact call_end (x := .val d) S T B nd oc (st.trans st2 fun _ z => z) hl S2.obj (lvOf S2) S2.fdom fr h
              · exact h.elim
    · exact h.elim
end Mi

/-! Mi9.lean -/
set_option Elab.async false
set_option linter.all false
set_option maxRecDepth 100000
/-! defs: kept promises under known guards; their calls -/
namespace Mi
open PySem L2 PySem.Spec PyProof.Rows
variable {P : Program} {w : World} {K : PySem.W.Frag} {mg : Str → Option Value} {base : Heap} {α : List Addr} {r : En}

/-- a def keeps its promise wherever no repr is under way -/
structure FnG (P : Program) (w : World) (K : PySem.W.Frag) (mg : Str → Option Value) (base : Heap) (k : Nat) (f : Addr) (fd : FuncData) (ps : List Str) (sp : Sp) : Prop where
  len : ∀ vs H Q E, sp vs H Q E → vs.length = ps.length
  run : ∀ (A : Around) (outer : List Env) (s : Shared) (H : Hp) (args : Args) (us : List Value) (vs : List V) (Q : VK) (E : XK), Room k A → A.guards = some [] → Env0 P w K mg base A outer s H →
    BindsTo s fd args (ps.zip us) → Vals vs us → sp vs H Q E → codeAny (model P w) A (.call (.ref f) args) (L2.CR (L2.CX P w) outer P w H s Q E) s
theorem FnG.mono {j k : Nat} {f : Addr} {fd : FuncData} {ps : List Str} {sp : Sp} (F : FnG P w K mg base j f fd ps sp) (h : j ≤ k) : FnG P w K mg base k f fd ps sp :=
  ⟨F.len, fun A outer s H args us vs Q E hr => F.run A outer s H args us vs Q E (hr.mono h)⟩
/-- a def of the text, from its body -/
theorem fg_of {k n np : Nat} {x qual : Str} {st : Stmt} {f : Addr} {fd : FuncData} {N ps : List Str} {bd : Stm} (F : Fun K x qual st f fd) (S : FnScope N ps (defScope st)) (hN : N.length = n) (hp : ps.length = np)
    (hb : ∀ (cdv : Value) (A : Around) (outer : List Env) (s : Shared) (H : Hp) (β : List Addr) (E : XK), Room k (A.deeper (envOfC qual (defScope st) s.heap.objs.size f cdv)) → A.guards = some [] →
      L2.Takes (cxOf (L2.CX P w) P w K mg base N qual (defScope st) f cdv A outer s H E) (fun cls d _ H2 => E cls d H2) →
      PassesOwn (model P w) (cxOf (L2.CX P w) P w K mg base N qual (defScope st) f cdv A outer s H E).A (cxOf (L2.CX P w) P w K mg base N qual (defScope st) f cdv A outer s H E).env (cxOf (L2.CX P w) P w K mg base N qual (defScope st) f cdv A outer s H E).xe →
      PSs (cxOf (L2.CX P w) P w K mg base N qual (defScope st) f cdv A outer s H E) (defBody st) (tS ⟨K, P, w, none⟩ β (fun cls d _ H2 => E cls d H2) bd)) : FnG P w K mg base (k + 1) f fd ps (spF ⟨K, P, w, none⟩ np n bd) := by
  obtain ⟨oc, od, kV, doc, pm, an, cdv, ct, osl, rfl, lk, hcd⟩ := F.ex
  refine ⟨fun vs H Q E h => h.1.trans hp.symm, fun A outer s H args us vs Q E hr hgd e0 hbi rv hsp => ?_⟩
  obtain ⟨hlen, as, β, Fz, N', hN', S0, hA⟩ := hsp
  have KX : K.In s.heap := e0.mod.kin.keeps fun b o e => (e0.bs b o e).1
  have named : ∀ y ∈ ps.zip us, (defScope st).names.lookup y.1 = some .local ∨ ((defScope st).names.lookup y.1 = some .cell ∧ ((cellsFrom (s.heap.objs.size + 1) (defScope st).names []).lookup y.1).isSome = true) := by
    rintro ⟨m, u⟩ hy
    exact (S.par m (List.of_mem_zip hy).1).imp id fun q => ⟨q, PySem.W.cellsFrom_some _ _ _ (.inl q)⟩
  refine codeAny_call_function hr.depth (KX _ _ lk) rfl S.co S.gen rfl (PySem.W.codeRec_of KX hcd) (hbi _ _ _ _ ?_)
  refine wpAny_newFunctionEnv_cells S.kind named fun env he s1 ent => ?_
  subst he
  have lim : s.heap.NoLimit := e0.mod.nolimit.keeps fun b o e => (e0.bs b o e).1
  refine ⟨lim.keeps ent.toInCall.keep, codeAny_func ?_⟩
  have I := inv_start (CX := L2.CX P w) (E := E) S hr.hd e0 (hlen.trans hp.symm) rv ent
  have hst : L2.start N' vs = L2.start N vs := by
    unfold L2.start
    rw [hN', hN]
  rw [hst] at S0 hA
  refine wpAny_mono ((hb cdv A outer s H β E (hr.deeper _) hgd (takes_of rfl rfl rfl rfl) (passes_of rfl)).run [] s1 (L2.start N vs) H _ I ⟨entry n as, Fz, S0, hA⟩) (fun fl s' q => ?_) fun e s' q => q
  cases fl with
  | brk => obtain ⟨_, _, _, z⟩ := q; exact z.elim
  | cont => obtain ⟨_, _, _, z⟩ := q; exact z.elim
  | next => obtain ⟨σ', H', J, z⟩ := q; exact ⟨V.non, H', J.os, J.bare, J.base, J.hok, rfl, z⟩
  | ret u => obtain ⟨v, σ', H', J, rv', z⟩ := q; exact ⟨v, H', J.os, J.bare, J.base, J.hok, rv', z⟩

section
variable {K : KX} {X : Cx} {x : Str} {p pos : Pos} {e : Expr} {es : List Expr} {k np n : Nat} {f : Addr} {fd : FuncData} {ps : List Str} {bd : Stm} {g : M (List Rv)}
theorem run_fg {sp : Sp} {W : L2.WX} {pins : List (Addr × Obj)} {σ : L2.St} {H : Hp} {s : Shared} {Q : VK} {us : List Value} {vs : List V} {args : Args} (F : FnG X.prog X.w X.K X.mg X.base k f fd ps sp) (hr : Room k X.A) (hgd : X.A.guards = some []) (tk : L2.Takes X W)
    (hb : BindsTo s fd args (ps.zip us)) (I : Inv X pins σ H s) (rv : Vals vs us) (h : sp vs H Q (fun cls d H2 => W cls d σ H2)) : codeAny (model X.prog X.w) X.A (.call (.ref f) args) (fun r s' => match r with
      | .ok (.ret v) => EP X pins σ Q v s'
      | .ok _ => False
      | .error e => X.xe e s') s := by
  refine codeAny_mono (F.run X.A X.stack s H args us vs Q _ hr hgd I.env0 hb rv h) fun res s' q => ?_
  match res, q with
  | .ok (.ret u), q => exact I.after q
  | .ok .next, q => exact q
  | .ok .brk, q => exact q
  | .ok .cont, q => exact q
  | .error e, q => exact tk e s' (XE.of_call I (fun _ _ _ h => h) q)
/-- the arguments in a row -/
theorem args_ok {G : List Ag → FR} {σ : L2.St} {H : Hp} {Q : VK} (h : tE K α W (callE G g) σ H Q) : tR K α W g σ H fun vs H1 => ∃ r1 F1 xs, SR K α r1 σ H1 F1 ∧ TRs K α r1 σ H1 F1 xs vs ∧ Aft K α σ (OwnTs α r1 σ xs vs) H1 F1 W (callF G xs r1) Q := by
  obtain ⟨r, F, S, h⟩ := h
  refine ⟨r, F, S, ?_⟩
  unfold callE M.bnd at h
  cases e : g r with
  | no => rw [e] at h; exact h
  | ex z r1 => rw [e] at h; exact h
  | ok xs r1 =>
    rw [e] at h
    exact fun vs H1 F1 S1 st T => ⟨r1, F1, xs, S1, T, h.step st fun _ z => z⟩
theorem ar_nil : PA X [] (tR K α W nilR) := pa_weak pa_nil fun _ _ _ q => nilR_ok q
theorem ar_cons {a : M Rv} (h : PE X e (tE K α W a)) (h2 : PA X es (tR K α W g)) (hs : starEach (e :: es) X.env = (false, eval e X.env) :: starEach es X.env := by rfl) : PA X (e :: es) (tR K α W (consR a g)) := pa_weak (pa_cons h h2 hs) fun _ _ _ q => consR_ok q
/-- f(e, ..) -/
theorem ev_call (F : FnG X.prog X.w X.K X.mg X.base k f fd ps (spF (kx X none) np n bd)) (hr : Room k X.A) (hgd : X.A.guards = some []) (tk : L2.Takes X W) (hg : Gl X x) (hm : X.mg x = some (.ref f)) (hk : PySem.W.keepIn (kx X none) (.ref f) = true) (hb : Binds (kx X none) fd ps [])
    (hps : ps.length = np) (hn : np ≤ n) (ha : PA X (e :: es) (tR (kx X none) α W g)) (hdb : (x == ("__debug__" : Str)) = false := by decide) (he : starEach (e :: es) X.env = (false, eval e X.env) :: starEach es X.env := by rfl)
    (hpl : (backTo pos (starEach es X.env)).any (·.1) = false := by rfl) : PE X (.Call (.Name x p) (e :: es) [] pos) (tE (kx X none) α W (callE (runF np n bd) g)) := ⟨fun pins s σ H Q I h => by
  refine wpAny_Call_Name_kw (ld_glob I hg hm ?_ hdb)
  have key := args_ok h
  refine PySem.W.callWith_K (h₀ := X.base) I.ok.mod.kin hk (thn (ha.run pos pins s σ H _ I key) fun us s1 ⟨vs, H1, I1, rv, r1, F1, xs, S1, T, q⟩ => ⟨I1.kIn, ?_⟩) he hpl
  have sp := call_ok hn S1 T q
  have hl : us.length = ps.length := by rw [← rv.length, hps]; exact sp.1
  have b := hb s1 us I1.kIn (by simpa using hl)
  rw [List.append_nil] at b
  exact wpAny_call (run_fg F hr hgd tk b I1 rv sp)⟩
theorem ev_call0 (F : FnG X.prog X.w X.K X.mg X.base k f fd ps (spF (kx X none) np n bd)) (hr : Room k X.A) (hgd : X.A.guards = some []) (tk : L2.Takes X W) (hg : Gl X x) (hm : X.mg x = some (.ref f)) (hk : PySem.W.keepIn (kx X none) (.ref f) = true) (hb : Binds (kx X none) fd ps [])
    (hps : ps.length = np) (hn : np ≤ n) (hdb : (x == ("__debug__" : Str)) = false := by decide) : PE X (.Call (.Name x p) [] [] pos) (tE (kx X none) α W (callE (runF np n bd) nilR)) := ⟨fun pins s σ H Q I h => by
  refine wpAny_Call_Name_kw (ld_glob I hg hm ?_ hdb)
  have key := args_ok h
  refine PySem.W.callWith_K0 I.kIn hk ?_
  obtain ⟨r1, F1, xs, S1, T, q⟩ := nilR_ok key
  have sp := call_ok hn S1 T q
  have hl : ([] : List Value).length = ps.length := by rw [hps]; exact sp.1
  have b := hb s [] I.kIn (by simpa using hl)
  rw [List.append_nil] at b
  exact wpAny_call (run_fg F hr hgd tk b I .nil sp)⟩
/-- f(k = v, ..), all by name; perm: the parameters' order of the values -/
def permL {β : Type} (pm : List Nat) (xs : List β) : List β := pm.filterMap fun i => xs[i]?
def callK (pm : List Nat) (G : List Ag → FR) (f : M (List Rv)) : M Rv := M.bnd f fun xs => callF G (permL pm xs)
end
end Mi

/-! Mi10.lean -/
set_option Elab.async false
set_option linter.all false
set_option maxRecDepth 100000
/-! loops and comprehensions -/
namespace Mi
open PySem L2 PySem.Spec PyProof.Rows
variable {K : KX} {α : List Addr} {r r' : En} {σ : L2.St} {H H' : Hp} {F F' : Addr → Prop}

/-- what is walked: the item at a turn (none: the end), the most turns -/
structure Src where
  nth : En → Nat → Option (Option PyData)
  fuel : Nat
/-- an item drawn: the heap as it was, or with a new tuple -/
def Yl (K : KX) (H : Hp) (F : Addr → Prop) (x : V) (d : PyData) (H' : Hp) : Prop :=
  (H' = H ∧ Fr K H F x d) ∨ ∃ p ts ds, H p = none ∧ H' = upd H p (.tup ts) ∧ x = .ref p ∧ d = .tuple ds ∧ FrAll K H F ts ds
structure SrcOk (K : KX) (α : List Addr) (s : Src) (J : It) (V : Hp → (Addr → Prop) → Prop) : Prop where
  stay : ∀ H F H' F', V H F → Stay H F H' F' → V H' F'
  turn : ∀ r σ H F i o, SR K α r σ H F → V H F → s.nth r i = some o → match o with
    | none => J.stop i H
    | some d => J.go i H ∧ ∀ x H', J.yld i H x H' → Yl K H F x d H'
def AftI (K : KX) (α : List Addr) (σ : L2.St) (O : Addr → Prop) (H : Hp) (F : Addr → Prop) (W : L2.WX) (x : Res Src) (R : It → Hp → Prop) : Prop :=
  match x with
  | .ok s e => ∀ J V H' F', SR K α e σ H' F' → Step O H F H' F' (Own α e σ) → SrcOk K α s J V → V H' F' → R J H'
  | .ex x e => AftX K α σ O H F W x e
  | .no => False
/-- an iterable by its evaluator -/
def tI (K : KX) (α : List Addr) (W : L2.WX) (f : M Src) : TI := fun σ H R => ∃ r F, SR K α r σ H F ∧ AftI K α σ (Own α r σ) H F W (f r) R
theorem pi_weak {X : Cx} {tg e : Expr} {t t' : TI} (h : PI X tg e t) (w : ∀ σ H R, t' σ H R → t σ H R) : PI X tg e t' := ⟨fun pins s σ H R I q => h.run pins s σ H R I (w σ H R q)⟩
theorem pi_or {X : Cx} {tg e : Expr} {t t' : TI} (h : PI X tg e t) (h' : PI X tg e t') : PI X tg e (fun σ H R => t σ H R ∨ t' σ H R) :=
  ⟨fun pins s σ H R I q => q.elim (fun q => h.run pins s σ H R I q) fun q => h'.run pins s σ H R I q⟩
/-! lists and tuples -/
def lstNth (x : Rv) (r : En) (i : Nat) : Option (Option PyData) := match peek r x with
  | some (.list ds) => some ds[i]?
  | _ => none
def tupNth (x : Rv) (r : En) (i : Nat) : Option (Option PyData) := match peek r x with
  | some (.tuple ds) => some ds[i]?
  | _ => none
def lenD : PyData → Nat
  | .list ds => ds.length
  | .tuple ds => ds.length
  | _ => 0
/-- a source that may be walked: frozen, or an object of the caller's -/
def hold (x : Rv) : M Rv := fun r => match x with
  | .at (.obj k) => .ok x r
  | _ => match frz x r with
    | .ok d r1 => .ok (.val d) r1
    | .ex e r1 => .ex e r1
    | .no => .no
def seqI (f : M Rv) : M Src := M.bnd f fun x => M.bnd (hold x) fun y r => match peek r y with
  | some (.list ds) => .ok ⟨lstNth y, ds.length⟩ r
  | some (.tuple ds) => .ok ⟨tupNth y, ds.length⟩ r
  | _ => .no
/-- what a held source leans on -/
def HV (K : KX) (α : List Addr) (y : Rv) (v : V) (H : Hp) (F : Addr → Prop) : Prop := match y with
  | .val d => Fr K H F v d
  | .at (.obj k) => ∃ a, v = .ref a ∧ α[k]? = some a
  | _ => False
theorem HV.stay {y : Rv} {v : V} (h : HV K α y v H F) (s : Stay H F H' F') : HV K α y v H' F' := by
  cases y with
  | val d => exact Fr.stay s h
  | own o => exact h
  | «at» l => cases l <;> exact h
theorem HV.tr {y : Rv} {v : V} (h : HV K α y v H F) (r : En) (σ : L2.St) : TR K α r σ H F y v := by
  cases y with
  | val d => exact h
  | own o => exact h.elim
  | «at» l => cases l with
    | slot i => exact h.elim
    | obj k => exact h
theorem hold_ok (S : SR K α r σ H F) {x y : Rv} {v : V} (t : TR K α r σ H F x v) (e : hold x r = .ok y r') :
    ∃ F', SR K α r' σ H F' ∧ HV K α y v H F' ∧ Step (OwnT α r σ x v) H F H F' (Own α r' σ) := by
  have gen : (match frz x r with
    | .ok d r1 => (.ok (.val d) r1 : Res Rv)
    | .ex e r1 => .ex e r1
    | .no => .no) = .ok y r' → ∃ F', SR K α r' σ H F' ∧ HV K α y v H F' ∧ Step (OwnT α r σ x v) H F H F' (Own α r' σ) := fun e => by
    cases ez : frz x r with
    | no => rw [ez] at e; cases e
    | ex z r1 => rw [ez] at e; cases e
    | ok d r1 =>
      rw [ez] at e
      cases e
      obtain ⟨F1, S1, fr, st, _⟩ := frz_ok S t ez
      exact ⟨F1, S1, fr, st⟩
  cases x with
  | val d => exact gen e
  | own o => exact gen e
  | «at» l => cases l with
    | slot i => exact gen e
    | obj k => cases e; exact ⟨F, S, t, Step.refl fun _ z => .inl z⟩
theorem hold_ex {x : Rv} {z : Exc} : hold x r ≠ .ex z r' := fun e => by
  have gen : (match frz x r with
    | .ok d r1 => (.ok (.val d) r1 : Res Rv)
    | .ex e r1 => .ex e r1
    | .no => .no) = .ex z r' → False := fun e => by
    cases ez : frz x r with
    | no => rw [ez] at e; cases e
    | ex z r1 => exact absurd ez frz_ex
    | ok d r1 => rw [ez] at e; cases e
  cases x with
  | val d => exact gen e
  | own o => exact gen e
  | «at» l => cases l with
    | slot i => exact gen e
    | obj k => cases e
theorem get_some {β : Type} {xs : List β} {i : Nat} {x : β} (h : xs[i]? = some x) : i < xs.length := (List.getElem?_eq_some_iff.mp h).1
theorem get_none {β : Type} {xs : List β} {i : Nat} (h : xs[i]? = none) : xs.length ≤ i := List.getElem?_eq_none_iff.mp h
theorem src_list {y : Rv} {a : Addr} {n : Nat} : SrcOk K α ⟨lstNth y, n⟩ (Itl K a) (HV K α y (.ref a)) where
  stay := fun _ _ _ _ h s => h.stay s
  turn := fun r σ H F i o S h e => by
    have e : lstNth y r i = some o := e
    unfold lstNth at e
    split at e
    · rename_i ds q
      injection e with e
      subst e
      obtain ⟨a', xs, e1, h1, h2⟩ := (peek_rel S (h.tr r σ) q).list
      cases e1
      cases g : ds[i]? with
      | none => exact ⟨xs, h1, by rw [h2.len]; exact get_none g⟩
      | some d =>
        obtain ⟨x, gx, fx⟩ := h2.get g
        exact ⟨⟨xs, x, h1, gx⟩, fun z H' yl => .inl ⟨yl.1, by
          have := yl.2 xs h1
          rw [gx] at this; cases this
          exact fx⟩⟩
    · cases e
theorem src_tup {y : Rv} {a : Addr} {n : Nat} : SrcOk K α ⟨tupNth y, n⟩ (Itt K a) (HV K α y (.ref a)) where
  stay := fun _ _ _ _ h s => h.stay s
  turn := fun r σ H F i o S h e => by
    have e : tupNth y r i = some o := e
    unfold tupNth at e
    split at e
    · rename_i ds q
      injection e with e
      subst e
      obtain ⟨a', xs, e1, h1, h2⟩ := (peek_rel S (h.tr r σ) q).tup
      cases e1
      cases g : ds[i]? with
      | none => exact ⟨xs, h1, by rw [h2.len]; exact get_none g⟩
      | some d =>
        obtain ⟨x, gx, fx⟩ := h2.get g
        exact ⟨⟨xs, x, h1, gx⟩, fun z H' yl => .inl ⟨yl.1, by
          have := yl.2 xs h1
          rw [gx] at this; cases this
          exact fx⟩⟩
    · cases e
theorem seq_ok {f : M Rv} {R : It → Hp → Prop} (h : tI K α W (seqI f) σ H R) : iList K (tE K α W f) σ H R ∨ iTup K (tE K α W f) σ H R := by
  obtain ⟨r, F, S, h⟩ := h
  unfold seqI M.bnd at h
  cases e : f r with
  | no => simp only [e] at h; exact h.elim
  | ex z r1 => simp only [e] at h; exact .inl ⟨r, F, S, by rw [e]; exact h⟩
  | ok x r1 =>
    simp only [e] at h
    cases e2 : hold x r1 with
    | no => simp only [e2] at h; exact h.elim
    | ex z r2 => exact absurd e2 hold_ex
    | ok y r2 =>
      simp only [e2] at h
      split at h
      · rename_i ds q
        refine .inl ⟨r, F, S, ?_⟩
        rw [e]
        intro v H1 F1 S1 st t
        obtain ⟨F2, S2, hv, st2⟩ := hold_ok S1 t e2
        obtain ⟨a, xs, rfl, h1, h2⟩ := (peek_rel S2 (hv.tr r2 σ) q).list
        exact ⟨a, rfl, ⟨xs, h1⟩, h _ _ H1 F2 S2 (st.trans st2 fun _ z => z) src_list hv⟩
      · rename_i ds q
        refine .inr ⟨r, F, S, ?_⟩
        rw [e]
        intro v H1 F1 S1 st t
        obtain ⟨F2, S2, hv, st2⟩ := hold_ok S1 t e2
        obtain ⟨a, xs, rfl, h1, h2⟩ := (peek_rel S2 (hv.tr r2 σ) q).tup
        exact ⟨a, rfl, ⟨xs, h1⟩, h _ _ H1 F2 S2 (st.trans st2 fun _ z => z) src_tup hv⟩
      · exact h.elim
/-! range(n), range(a, b) -/
def rngNth (lo : Int) (n : Nat) (_ : En) (i : Nat) : Option (Option PyData) := if i < n then some (some (.int (lo + i))) else some none
def rng1 (f : M Rv) : M Src := M.bnd f fun x r => match peek r x with
  | some (.int j) => if -(2 ^ 62) ≤ j ∧ j < 2 ^ 62 then .ok ⟨rngNth 0 j.toNat, j.toNat⟩ r else .no
  | _ => .no
def rng2 (f g : M Rv) : M Src := M.bnd f fun x => M.bnd g fun y r => match peek r x, peek r y with
  | some (.int i), some (.int j) => if (-(2 ^ 62) ≤ i ∧ i < 2 ^ 62) ∧ -(2 ^ 62) ≤ j ∧ j < 2 ^ 62 then .ok ⟨rngNth i (j - i).toNat, (j - i).toNat⟩ r else .no
  | _, _ => .no
theorem src_rng {lo : Int} {n : Nat} : SrcOk K α ⟨rngNth lo n, n⟩ (Itr lo n) (fun _ _ => True) where
  stay := fun _ _ _ _ h s => h
  turn := fun r σ H F i o S h e => by
    have e : rngNth lo n r i = some o := e
    unfold rngNth at e
    split at e
    · rename_i hi
      injection e with e
      subst e
      exact ⟨hi, fun x H' y => .inl ⟨y.1, by rw [y.2]; exact .int _⟩⟩
    · rename_i hi
      injection e with e
      subst e
      exact Nat.le_of_not_lt hi
theorem tE_bndI {f : M Rv} {g : Rv → M Src} {R : It → Hp → Prop} (S : SR K α r σ H F) (h : AftI K α σ (Own α r σ) H F W (M.bnd f g r) R) :
    tE K α W f σ H fun v H1 => ∃ r1 F1 x, SR K α r1 σ H1 F1 ∧ Step (Own α r σ) H F H1 F1 (OwnT α r1 σ x v) ∧ TR K α r1 σ H1 F1 x v ∧ AftI K α σ (Own α r1 σ) H1 F1 W (g x r1) R := by
  refine ⟨r, F, S, ?_⟩
  unfold M.bnd at h
  cases e : f r with
  | ok x r1 =>
    rw [e] at h
    have h : AftI K α σ (Own α r σ) H F W (g x r1) R := h
    intro v H1 F1 a b c
    refine ⟨r1, F1, x, a, b, c, ?_⟩
    cases e2 : g x r1 with
    | no => rw [e2] at h; exact h
    | ex z r2 => rw [e2] at h; exact AftX.step h b fun _ z => .inl z
    | ok s r2 => rw [e2] at h; exact fun J V H' F' S' st' => h J V H' F' S' (b.trans st' fun _ z => .inl z)
  | ex x r1 => rw [e] at h; exact h
  | no => rw [e] at h; exact h.elim
theorem rng1_ok {f : M Rv} {R : It → Hp → Prop} (h : tI K α W (rng1 f) σ H R) : iRng1 (tCons (tE K α W f) tNil) σ H R := by
  obtain ⟨r, F, S, h⟩ := h
  refine tE_mono (tE_bndI S h) fun v H1 ⟨r1, F1, x, S1, st, t, h1⟩ => ?_
  split at h1
  · rename_i j q
    split at h1
    · rename_i hj
      exact ⟨j, by rw [(peek_rel S1 t q).int], hj.1, hj.2, h1 _ _ H1 F1 S1 (Step.refl fun _ z => z) src_rng trivial⟩
    · exact h1.elim
  · exact h1.elim
theorem rng2_ok {f g : M Rv} {R : It → Hp → Prop} (h : tI K α W (rng2 f g) σ H R) : iRng2 (tCons (tE K α W f) (tCons (tE K α W g) tNil)) σ H R := by
  obtain ⟨r, F, S, h⟩ := h
  refine tE_mono (tE_bndI S h) fun v H1 ⟨r1, F1, x, S1, st1, t1, h1⟩ => tE_mono (tE_bndI S1 h1) fun w H2 ⟨r2, F2, y, S2, st2, t2, h2⟩ => ?_
  have t1' := t1.step st2 fun _ z => .inl z
  split at h2
  · rename_i i j q1 q2
    split at h2
    · rename_i hj
      exact ⟨i, j, by rw [(peek_rel S2 t1' q1).int, (peek_rel S2 t2 q2).int], ⟨hj.1.1, hj.1.2, hj.2.1, hj.2.2⟩, h2 _ _ H2 F2 S2 (Step.refl fun _ z => z) src_rng trivial⟩
    · exact h2.elim
  · exact h2.elim
/-! enumerate(xs) -/
def enuNth (x : Rv) (r : En) (i : Nat) : Option (Option PyData) := match peek r x with
  | some (.list ds) => some (ds[i]?.map fun d => .tuple [.int (i : Nat), d])
  | _ => none
def enuI (f : M Rv) : M Src := M.bnd f fun x => M.bnd (hold x) fun y r => match peek r y with
  | some (.list ds) => .ok ⟨enuNth y, ds.length⟩ r
  | _ => .no
theorem src_enu {y : Rv} {a : Addr} {n : Nat} : SrcOk K α ⟨enuNth y, n⟩ (Ite K a) (HV K α y (.ref a)) where
  stay := fun _ _ _ _ h s => h.stay s
  turn := fun r σ H F i o S h e => by
    have e : enuNth y r i = some o := e
    unfold enuNth at e
    split at e
    · rename_i ds q
      injection e with e
      subst e
      obtain ⟨a', xs, e1, h1, h2⟩ := (peek_rel S (h.tr r σ) q).list
      cases e1
      cases g : ds[i]? with
      | none => exact ⟨xs, h1, by rw [h2.len]; exact get_none g⟩
      | some d =>
        obtain ⟨x, gx, fx⟩ := h2.get g
        refine ⟨⟨xs, x, h1, gx⟩, fun z H' ⟨T, x', e1, e2, e3, e4⟩ => .inr ⟨T, _, [.int (i : Nat), d], e2, e3, e1, rfl, .cons (.int _) (.cons ?_ .nil)⟩⟩
        have := e4 xs h1
        rw [gx] at this; cases this
        exact fx
    · cases e
theorem enu_ok {f : M Rv} {R : It → Hp → Prop} (h : tI K α W (enuI f) σ H R) : iEnum K (tCons (tE K α W f) tNil) σ H R := by
  obtain ⟨r, F, S, h⟩ := h
  unfold enuI M.bnd at h
  refine ⟨r, F, S, ?_⟩
  cases e : f r with
  | no => simp only [e] at h; exact h.elim
  | ex z r1 => simp only [e] at h; exact h
  | ok x r1 =>
    simp only [e] at h
    cases e2 : hold x r1 with
    | no => simp only [e2] at h; exact h.elim
    | ex z r2 => exact absurd e2 hold_ex
    | ok y r2 =>
      simp only [e2] at h
      split at h
      · rename_i ds q
        intro v H1 F1 S1 st t
        obtain ⟨F2, S2, hv, st2⟩ := hold_ok S1 t e2
        obtain ⟨a, xs, rfl, h1, h2⟩ := (peek_rel S2 (hv.tr r2 σ) q).list
        exact ⟨a, xs, rfl, h1, h _ _ H1 F2 S2 (st.trans st2 fun _ z => z) src_enu hv⟩
      · exact h.elim
section
variable {X : Cx} {tg l a b : Expr} {f g : M Rv} {p pos : Pos}
theorem iv_seq (hl : PE X l (tE (kx X ε) α W f)) : PI X tg l (tI (kx X ε) α W (seqI f)) := pi_weak (pi_or (pi_list hl) (pi_tup hl)) fun _ _ _ q => seq_ok q
theorem iv_rng1 (hg : Gl X "range") (hm : X.mg "range" = none) (ha : PE X a (tE K α W f)) (hs : starEach [a] X.env = [(false, eval a X.env)] := by rfl) : PI X tg (.Call (.Name "range" p) [a] [] pos) (tI K α W (rng1 f)) :=
  pi_weak (pi_range1 hg hm (pa_cons ha pa_nil hs) hs) fun _ _ _ q => rng1_ok q
theorem iv_rng2 (hg : Gl X "range") (hm : X.mg "range" = none) (ha : PE X a (tE K α W f)) (hb : PE X b (tE K α W g)) (hs : starEach [a, b] X.env = [(false, eval a X.env), (false, eval b X.env)] := by rfl) (hs2 : starEach [b] X.env = [(false, eval b X.env)] := by rfl) :
    PI X tg (.Call (.Name "range" p) [a, b] [] pos) (tI K α W (rng2 f g)) := pi_weak (pi_range2 hg hm (pa_cons ha (pa_cons hb pa_nil hs2) (by rw [hs, hs2])) hs hs2) fun _ _ _ q => rng2_ok q
theorem iv_enu {elts : List Expr} {kk : Nat} {tpos : Pos} (hg : Gl X "enumerate") (hm : X.mg "enumerate" = none) (ha : PE X a (tE (kx X ε) α W f)) (hs : starEach [a] X.env = [(false, eval a X.env)] := by rfl) :
    PI X (.Tuple elts kk tpos) (.Call (.Name "enumerate" p) [a] [] pos) (tI (kx X ε) α W (enuI f)) := pi_weak (pi_enum hg hm (pa_cons ha pa_nil hs) hs) fun _ _ _ q => enu_ok q
end
/-! ### targets of loops -/
structure TgOk (K : KX) (α : List Addr) (g : TG) (tg : PyData → En → Option En) (T : List Nat) : Prop where
  go : ∀ (r r1 : En) (σ : L2.St) (H : Hp) (F : Addr → Prop) (x : V) (d : PyData) (Q : L2.St → Hp → Prop), SR K α r σ H F → Fr K H F x d → tg d r = some r1 →
    (∀ σ', SR K α r1 σ' H F → (∀ a, Own α r1 σ' a → Own α r σ a) → wipe σ' T = wipe σ T → Q σ' H) → g x σ H Q
theorem wipe_set (v : Option V) : ∀ (T : List Nat) (σ : L2.St) (i : Nat), i ∈ T → wipe (σ.set i v) T = wipe σ T
  | [], _, _, h => by simp at h
  | t :: T, σ, i, h => by
    unfold wipe
    by_cases e : i ∈ T
    · rw [wipe_set v T σ i e]
    · have e2 : i = t := (List.mem_cons.mp h).elim id fun z => absurd z e
      subst e2
      have comm : ∀ (T : List Nat) (σ : L2.St), i ∉ T → wipe (σ.set i v) T = (wipe σ T).set i v := by
        intro T
        induction T with
        | nil => intro σ _; rfl
        | cons t T ih =>
          intro σ n
          unfold wipe
          rw [ih σ fun z => n (List.mem_cons_of_mem _ z), List.set_comm]
          exact fun z => n (by rw [z]; exact List.mem_cons_self)
      rw [comm T σ e, List.set_set]
theorem tg_name (i : Nat) : TgOk K α (gName i) (fun d r => some (put r i (.val d))) [i] := ⟨fun r r1 σ H F x d Q S h e q => by
  cases e
  refine q _ (S.put (s := .val d) h fun o a z => nomatch z) (fun a z => ?_) (wipe_set _ [i] σ i (by simp))
  rcases put_own z with z | ⟨⟨o, z⟩, _⟩
  · exact z
  · cases z⟩
def tgTup (is : List Nat) (d : PyData) (r : En) : Option En := match d with
  | .tuple ds => bindL is ds r
  | _ => none
theorem gNames_w {T : List Nat} : ∀ {is : List Nat} {ds : List PyData} {vs : List V} {r r1 : En} {σ : L2.St} {H : Hp} {F : Addr → Prop} {Q : L2.St → Hp → Prop}, (∀ i ∈ is, i ∈ T) → SR K α r σ H F → FrAll K H F vs ds → bindL is ds r = some r1 →
    (∀ σ', SR K α r1 σ' H F → (∀ a, Own α r1 σ' a → Own α r σ a) → wipe σ' T = wipe σ T → Q σ' H) → vs.length = is.length ∧ gNames is vs σ H Q
  | [], [], _, _, _, _, _, _, _, _, S, .nil, e, q => by cases e; exact ⟨rfl, rfl, q _ S (fun _ z => z) rfl⟩
  | i :: is, d :: ds, v :: vs, r, r1, σ, H, F, Q, hT, S, .cons h1 h2, e, q => by
    have S1 : SR K α (put r i (.val d)) (σ.set i (some v)) H F := S.put (s := .val d) h1 fun o a z => nomatch z
    have own : ∀ a, Own α (put r i (.val d)) (σ.set i (some v)) a → Own α r σ a := fun a z => by
      rcases put_own z with z | ⟨⟨o, z⟩, _⟩
      · exact z
      · cases z
    obtain ⟨e1, e2⟩ := gNames_w (T := T) (Q := Q) (fun j hj => hT j (List.mem_cons_of_mem _ hj)) S1 h2 e fun σ' S' o w => q σ' S' (fun a z => own a (o a z)) (w.trans (wipe_set _ T σ i (hT i List.mem_cons_self)))
    exact ⟨by simp [e1], v, vs, rfl, e2⟩
theorem tg_tup (is : List Nat) : TgOk K α (gTup K is.length (gNames is)) (tgTup is) is := ⟨fun r r1 σ H F x d Q S h e q => by
  cases d with
  | tuple ds =>
    obtain ⟨a, xs, rfl, h1, h2⟩ := (Pk.fr h).tup
    obtain ⟨e1, e2⟩ := gNames_w (T := is) (Q := Q) (fun _ z => z) S h2 e q
    exact ⟨a, xs, rfl, h1, e1, e2⟩
  | _ => cases e⟩
end Mi

/-! Mi11.lean -/
set_option Elab.async false
set_option linter.all false
set_option maxRecDepth 100000
/-! for, while, comprehensions -/
namespace Mi
open PySem L2 PySem.Spec PyProof.Rows
variable {K : KX} {α : List Addr} {r r' : En} {σ : L2.St} {H H' : Hp} {F F' : Addr → Prop}

def forN (nth : En → Nat → Option (Option PyData)) (tg : PyData → En → Option En) (bd : Stm) : Nat → Nat → Stm
  | m, i, r => match nth r i with
    | none => .no
    | some none => .nx r
    | some (some d) => match m with
      | 0 => .no
      | m + 1 => match tg d r with
        | none => .no
        | some r1 => match bd r1 with
          | .nx r2 => forN nth tg bd m (i + 1) r2
          | .ct r2 => forN nth tg bd m (i + 1) r2
          | .bk r2 => .nx r2
          | o => o
def forS (it : M Src) (tg : PyData → En → Option En) (bd : Stm) : Stm := ofM it fun s r => forN s.nth tg bd s.fuel 0 r
theorem yl_sr (S : SR K α r σ H F) {x : V} {d : PyData} (y : Yl K H F x d H') : SR K α r σ H' F ∧ Fr K H' F x d ∧ Step (Own α r σ) H F H' F (Own α r σ) := by
  rcases y with ⟨e, f⟩ | ⟨p, ts, ds, hp, e, e2, e3, f⟩
  · subst e; exact ⟨S, f, Step.refl fun _ z => z⟩
  · subst e e2 e3
    exact ⟨S.new _ hp, .tup (.inl (.inl upd_same)) (f.stay (stay_new S _ hp)), step_new S _ hp fun a z => .inl z⟩
theorem for_ok {it : M Src} {g : TG} {tg : PyData → En → Option En} {T : List Nat} {bd : Stm} {D : Ends} (ht : TgOk K α g tg T) (h : tS K α W (forS it tg bd) D σ H) : tFor (tI K α W it) g (tS K α W bd) D σ H := by
  obtain ⟨r, F, S, h⟩ := h
  refine ⟨r, F, S, ?_⟩
  unfold forS ofM at h
  cases e : it r with
  | no => rw [e] at h; exact h
  | ex z r1 => rw [e] at h; exact h σ
  | ok s r1 =>
    rw [e] at h
    have h : AftS K α (Own α r σ) H F W (forN s.nth tg bd s.fuel 0 r1) D := h
    intro J V H1 F1 S1 st1 so v1
    refine ⟨fun i m σ H => ∃ r F, SR K α r σ H F ∧ V H F ∧ AftS K α (Own α r σ) H F W (forN s.nth tg bd m i r) D, ⟨s.fuel, r1, F1, S1, v1, h.step st1 fun _ z => z⟩, ?_⟩
    rintro i m σ H ⟨r, F, S, v, h⟩
    unfold forN at h
    cases en : s.nth r i with
    | none => simp only [en] at h; exact h.elim
    | some o =>
      have tn := so.turn r σ H F i o S v en
      cases o with
      | none => simp only [en] at h; exact .inl ⟨tn, AftS.go S h fun _ z => z⟩
      | some d =>
        simp only [en] at h
        obtain ⟨go, yl⟩ := tn
        cases m with
        | zero => exact h.elim
        | succ m =>
          simp only at h
          cases et : tg d r with
          | none => simp only [et] at h; exact h.elim
          | some r2 =>
            simp only [et] at h
            refine .inr ⟨go, fun σ' H' => ∃ r F, SR K α r σ' H' F ∧ V H' F ∧ AftS K α (Own α r σ') H' F W (forN s.nth tg bd m (i + 1) r) D, fun σ' H' q => ⟨m, Nat.lt_succ_self m, q⟩, fun x H' y => ?_⟩
            obtain ⟨S2, fx, st2⟩ := yl_sr S (yl x H' y)
            refine ht.go r r2 σ H' F x d _ S2 fx et fun σ3 S3 ow _ => ⟨r2, F, S3, ?_⟩
            have st3 : Step (Own α r σ) H F H' F (Own α r2 σ3) := st2.more fun a z => ow a z
            have v3 : V H' F := so.stay _ _ _ _ v st2.stay
            cases eb : bd r2 with
            | no => simp only [eb] at h; exact h
            | ex z r3 => simp only [eb] at h; exact AftS.step (x := .ex z r3) (D := D) h st3 fun _ z => z
            | rt z r3 => simp only [eb] at h; exact AftS.step (D := D) h st3 fun _ z => z
            | bk r3 => simp only [eb] at h; exact AftS.step (x := .nx r3) (D := D) h st3 fun _ z => z
            | nx r3 =>
              simp only [eb] at h
              intro σ4 H4 F4 S4 st4
              exact ⟨r3, F4, S4, so.stay _ _ _ _ v3 st4.stay, h.step (st3.trans st4 fun _ z => z) fun _ z => z⟩
            | ct r3 =>
              simp only [eb] at h
              intro σ4 H4 F4 S4 st4
              exact ⟨r3, F4, S4, so.stay _ _ _ _ v3 st4.stay, h.step (st3.trans st4 fun _ z => z) fun _ z => z⟩
/-! while, of at most so many turns -/
def whlN (t : M Bool) (bd : Stm) : Nat → Stm
  | 0, _ => .no
  | m + 1, r => match t r with
    | .no => .no
    | .ex e r1 => .ex e r1
    | .ok false r1 => .nx r1
    | .ok true r1 => match bd r1 with
      | .nx r2 => whlN t bd m r2
      | .ct r2 => whlN t bd m r2
      | .bk r2 => .nx r2
      | o => o
theorem whl_ok {t : M Bool} {bd : Stm} {D : Ends} {m : Nat} (h : tS K α W (whlN t bd m) D σ H) : tWhile (tT K α W t) (tS K α W bd) D σ H := by
  refine ⟨fun m σ H => tS K α W (whlN t bd m) D σ H, ⟨m, h⟩, ?_⟩
  rintro m σ H ⟨r, F, S, h⟩
  cases m with
  | zero => exact h.elim
  | succ m =>
    unfold whlN at h
    refine ⟨r, F, S, ?_⟩
    cases e : t r with
    | no => simp only [e] at h; exact h
    | ex z r1 => simp only [e] at h; exact h σ
    | ok b r1 =>
      simp only [e] at h
      intro H1 F1 S1 st1
      cases b with
      | false => exact iteF (AftS.go (O := Own α r1 σ) S1 (AftS.step (x := .nx r1) (D := D) h st1 fun _ z => z) fun _ z => z)
      | true =>
        refine iteT ⟨fun σ' H' => tS K α W (whlN t bd m) D σ' H', fun σ' H' q => ⟨m, Nat.lt_succ_self m, q⟩, r1, F1, S1, ?_⟩
        cases eb : bd r1 with
        | no => simp only [eb] at h; exact h
        | ex z r3 => simp only [eb] at h; exact AftS.step (x := .ex z r3) (D := D) h st1 fun _ z => z
        | rt z r3 => simp only [eb] at h; exact AftS.step (D := D) h st1 fun _ z => z
        | bk r3 => simp only [eb] at h; exact AftS.step (x := .nx r3) (D := D) h st1 fun _ z => z
        | nx r3 => simp only [eb] at h; exact fun σ4 H4 F4 S4 st4 => ⟨r3, F4, S4, h.step (st1.trans st4 fun _ z => z) fun _ z => z⟩
        | ct r3 => simp only [eb] at h; exact fun σ4 H4 F4 S4 st4 => ⟨r3, F4, S4, h.step (st1.trans st4 fun _ z => z) fun _ z => z⟩
section
variable {X : Cx} {tg i c : Expr} {body : List Stmt} {it : M Src} {g : TG} {tgf : PyData → En → Option En} {T : List Nat} {bd : Stm} {t : M Bool} {pos : Pos}
theorem sv_for (hp : PassesOwn (model X.prog X.w) X.A X.env X.xe) (hc : X.calm = true) (hi : PI X tg i (tI K α W it)) (hg : PG X tg g) (ht : TgOk K α g tgf T) (hb : PSs X body (tS K α W bd)) (hs : ∀ x, foldedSetIterable i X.env x = pure x := by intro _; rfl) : PS X (.For tg i body [] pos) (tS K α W (forS it tgf bd)) := ps_weak (ps_for hp hc hi hg hb hs) fun _ _ _ q => for_ok ht q
theorem sv_while (m : Nat) (hp : PassesOwn (model X.prog X.w) X.A X.env X.xe) (hc : PT X c (tT K α W t)) (hb : PSs X body (tS K α W bd)) : PS X (.While c body [] pos) (tS K α W (whlN t bd m)) := ps_weak (ps_while hp hc hb) fun _ _ _ q => whl_ok q
end
/-! ### [e for x in xs if t] -/
def wipeV (r : En) : List Nat → En
  | [] => r
  | v :: vs => { wipeV r vs with vs := (wipeV r vs).vs.set v none }
/-- the names of the comprehension as they stood ahead -/
def restV (r0 r : En) : List Nat → En
  | [] => r
  | v :: vs => { restV r0 r vs with vs := (restV r0 r vs).vs.set v (r0.vs[v]?.join) }
def calm (r : En) : List Nat → Bool
  | [] => true
  | v :: vs => (match r.vs[v]? with
    | some (some (.own _)) => false
    | some (some (.bor _)) => false
    | some (some (.cau _)) => false
    | _ => true) && calm r vs
def lcN (nth : En → Nat → Option (Option PyData)) (tg : PyData → En → Option En) (T : List Nat) (tt : M Bool) (f : M Rv) : Nat → Nat → List PyData → M (List PyData)
  | m, i, acc, r => match nth r i with
    | none => .no
    | some none => .ok acc r
    | some (some d) => match m with
      | 0 => .no
      | m + 1 => match tg d (wipeV r T) with
        | none => .no
        | some r1 => match tt r1 with
          | .no => .no
          | .ex e r2 => .no
          | .ok false r2 => lcN nth tg T tt f m (i + 1) acc (wipeV r2 T)
          | .ok true r2 => match M.bnd f frz r2 with
            | .no => .no
            | .ex e r3 => .no
            | .ok y r3 => if acc.length < sizeLine then lcN nth tg T tt f m (i + 1) (acc ++ [y]) (wipeV r3 T) else .no
def lcE (it : M Src) (tg : PyData → En → Option En) (T : List Nat) (tt : M Bool) (f : M Rv) : M Rv := M.bnd it fun s r => if calm r T = true then
    (match lcN s.nth tg T tt f s.fuel 0 [] (wipeV r T) with
    | .no => .no
    | .ex e r1 => .no
    | .ok acc r1 => .ok (.own (.lst acc)) (restV r r1 T)) else .no
theorem wipeV_get : ∀ (T : List Nat) {r : En} {i : Nat} {s : Sl}, (wipeV r T).vs[i]? = some (some s) → i ∉ T ∧ r.vs[i]? = some (some s)
  | [], _, _, _, h => ⟨by simp, h⟩
  | t :: T, r, i, s, h => by
    rcases set_get (show ((wipeV r T).vs.set t none)[i]? = some (some s) from h) with ⟨e, q⟩ | ⟨e, q⟩
    · cases q
    · obtain ⟨h1, h2⟩ := wipeV_get T q
      exact ⟨fun z => (List.mem_cons.mp z).elim (fun z => e z.symm) h1, h2⟩
theorem wipeV_os : ∀ (T : List Nat) (r : En), (wipeV r T).os = r.os
  | [], _ => rfl
  | t :: T, r => wipeV_os T r
theorem wipeV_len : ∀ (T : List Nat) (r : En), (wipeV r T).vs.length = r.vs.length
  | [], _ => rfl
  | t :: T, r => by show ((wipeV r T).vs.set t none).length = _; rw [List.length_set]; exact wipeV_len T r
theorem wipe_get : ∀ (T : List Nat) {σ : L2.St} {i : Nat}, i ∉ T → (wipe σ T)[i]? = σ[i]?
  | [], _, _, _ => rfl
  | t :: T, σ, i, h => by
    unfold wipe
    rw [List.getElem?_set_ne (fun e => h (by rw [e]; exact List.mem_cons_self))]
    exact wipe_get T fun z => h (List.mem_cons_of_mem _ z)
theorem wipe_holds {T : List Nat} {l : Lo} {a : Addr} (h : Holds α (wipeV r T) (wipe σ T) l a) : Holds α r σ l a := by
  cases l with
  | slot i =>
    obtain ⟨⟨o, q⟩, h2⟩ := h
    obtain ⟨n, q2⟩ := wipeV_get T q
    rw [wipe_get T n] at h2
    exact ⟨⟨o, q2⟩, h2⟩
  | obj k =>
    obtain ⟨⟨o, q⟩, h2⟩ := h
    rw [wipeV_os] at q
    exact ⟨⟨o, q⟩, h2⟩
theorem SR.wipe (S : SR K α r σ H F) (T : List Nat) : SR K α (wipeV r T) (wipe σ T) H F where
  len := by rw [wipeV_len, wipe_length]; exact S.len
  slot := fun i s q => by
    obtain ⟨n, q2⟩ := wipeV_get T q
    obtain ⟨v, h1, h2⟩ := S.slot i s q2
    exact ⟨v, by rw [wipe_get T n]; exact h1, h2⟩
  obj := fun k b q => S.obj k b (by rw [wipeV_os] at q; exact q)
  apart := fun l l' a h h' => S.apart l l' a (wipe_holds h) (wipe_holds h')
  sep := fun l a h => S.sep l a (wipe_holds h)
  fdom := S.fdom
theorem restV_get : ∀ (T : List Nat) {r0 r : En} {i : Nat} {s : Sl}, (restV r0 r T).vs[i]? = some (some s) → (i ∈ T ∧ r0.vs[i]? = some (some s)) ∨ (i ∉ T ∧ r.vs[i]? = some (some s))
  | [], _, _, _, _, h => .inr ⟨by simp, h⟩
  | t :: T, r0, r, i, s, h => by
    rcases set_get (show ((restV r0 r T).vs.set t (r0.vs[t]?.join))[i]? = some (some s) from h) with ⟨e, q⟩ | ⟨e, q⟩
    · subst e
      refine .inl ⟨List.mem_cons_self, ?_⟩
      cases g : r0.vs[t]? with
      | none => rw [g] at q; cases q
      | some x => rw [g] at q; rw [show x = some s from q]
    · rcases restV_get T q with ⟨h1, h2⟩ | ⟨h1, h2⟩
      · exact .inl ⟨List.mem_cons_of_mem _ h1, h2⟩
      · exact .inr ⟨fun z => (List.mem_cons.mp z).elim (fun z => e z.symm) h1, h2⟩
theorem restV_os : ∀ (T : List Nat) (r0 r : En), (restV r0 r T).os = r.os
  | [], _, _ => rfl
  | t :: T, r0, r => restV_os T r0 r
theorem restV_len : ∀ (T : List Nat) (r0 r : En), (restV r0 r T).vs.length = r.vs.length
  | [], _, _ => rfl
  | t :: T, r0, r => by show ((restV r0 r T).vs.set t _).length = _; rw [List.length_set]; exact restV_len T r0 r
theorem calm_get : ∀ {T : List Nat} {r : En} {i : Nat} {s : Sl}, calm r T = true → i ∈ T → r.vs[i]? = some (some s) → ∃ d, s = .val d
  | [], _, _, _, _, h, _ => by simp at h
  | t :: T, r, i, s, c, h, q => by
    have c : (match r.vs[t]? with
      | some (some (.own _)) => false
      | some (some (.bor _)) => false
      | some (some (.cau _)) => false
      | _ => true) = true ∧ calm r T = true := Bool.and_eq_true_iff.mp c
    rcases List.mem_cons.mp h with e | e
    · subst e
      have c1 := c.1
      rw [q] at c1
      cases s with
      | val d => exact ⟨d, rfl⟩
      | own o => cases c1
      | bor k => cases c1
      | cau x => cases c1
    · exact calm_get c.2 e q
/-- behind a comprehension -/
theorem SR.rest {r0 : En} {H0 : Hp} {F0 : Addr → Prop} {T : List Nat} (S0 : SR K α r0 σ H0 F0) (S : SR K α r (L2.wipe σ T) H F) (st : Stay H0 F0 H F) (c : calm r0 T = true) :
    SR K α (restV r0 r T) σ H F ∧ ∀ a, Own α (restV r0 r T) σ a → Own α r (L2.wipe σ T) a := by
  have ow : ∀ l a, Holds α (restV r0 r T) σ l a → Holds α r (L2.wipe σ T) l a := fun l a h => by
    cases l with
    | slot i =>
      obtain ⟨⟨o, q⟩, h2⟩ := h
      rcases restV_get T q with ⟨h3, h4⟩ | ⟨h3, h4⟩
      · obtain ⟨d, e⟩ := calm_get c h3 h4
        cases e
      · exact ⟨⟨o, h4⟩, by rw [wipe_get T h3]; exact h2⟩
    | obj k =>
      obtain ⟨⟨o, q⟩, h2⟩ := h
      rw [restV_os] at q
      exact ⟨⟨o, q⟩, h2⟩
  refine ⟨⟨by rw [restV_len, S.len, wipe_length], fun i s q => ?_, fun k b q => S.obj k b (by rw [restV_os] at q; exact q), fun l l' a h h' => S.apart l l' a (ow _ _ h) (ow _ _ h'), fun l a h => S.sep l a (ow _ _ h), S.fdom⟩, fun a ⟨l, h⟩ => ⟨l, ow l a h⟩⟩
  rcases restV_get T q with ⟨h3, h4⟩ | ⟨h3, h4⟩
  · obtain ⟨v, h1, h2⟩ := S0.slot i s h4
    obtain ⟨d, e⟩ := calm_get c h3 h4
    subst e
    exact ⟨v, h1, Fr.stay st h2⟩
  · obtain ⟨v, h1, h2⟩ := S.slot i s h4
    rw [wipe_get T h3] at h1
    exact ⟨v, h1, h2⟩
theorem wipe_wipe : ∀ (T : List Nat) (σ : L2.St), L2.wipe (L2.wipe σ T) T = L2.wipe σ T := fun T σ => by
  have idem : ∀ (T U : List Nat) (σ : L2.St), (∀ t ∈ T, t ∈ U) → wipe (wipe σ U) T = wipe σ U := by
    intro T U σ
    induction T with
    | nil => intro _; rfl
    | cons t T ih =>
      intro h
      show (wipe (wipe σ U) T).set t none = wipe σ U
      rw [ih fun x hx => h x (List.mem_cons_of_mem _ hx)]
      apply List.ext_getElem?
      intro i
      by_cases e : t = i
      · subst e
        have hn : ∀ (U : List Nat) (σ : L2.St), t ∈ U → ∀ x, (wipe σ U)[t]? = some x → x = none := by
          intro U
          induction U with
          | nil => intro σ h; simp at h
          | cons u U ih2 =>
            intro σ h x hx
            rcases set_get (show ((wipe σ U).set u none)[t]? = some x from hx) with ⟨e, q⟩ | ⟨e, q⟩
            · exact q.symm
            · exact ih2 σ ((List.mem_cons.mp h).elim (fun z => absurd z.symm e) id) x q
        by_cases hl : t < (wipe σ U).length
        · rw [List.getElem?_set_self hl, List.getElem?_eq_getElem hl]
          have := hn U σ (h t List.mem_cons_self) _ (List.getElem?_eq_getElem hl)
          rw [this]
        · rw [List.getElem?_eq_none (by simpa using hl), List.getElem?_eq_none (by simpa using hl)]
      · rw [List.getElem?_set_ne e]
  exact idem T T σ fun _ h => h
end Mi

/-! Mi12.lean -/
set_option Elab.async false
set_option linter.all false
set_option maxRecDepth 100000
/-! comprehensions -/
namespace Mi
open PySem L2 PySem.Spec PyProof.Rows
variable {K : KX} {α : List Addr} {r r' : En} {σ : L2.St} {H H' : Hp} {F F' : Addr → Prop}

/-- a new list that stands aside -/
theorem TR.move {σ' : L2.St} {O' : Addr → Prop} {o : Ob} {v : V} (h : TR K α r σ H F (.own o) v) (s : Step (Own α r σ) H F H' F' O') (ho : ∀ a, Own α r' σ' a → O' a) : TR K α r' σ' H' F' (.own o) v := by
  obtain ⟨a, u, e, hH, hO, hF, hN⟩ := h
  refine ⟨a, u, e, s.keep a u hH hN, hO.stay s.stay, fun z => ?_, fun z => ?_⟩
  · rcases s.nfz a z with z | z | z
    · exact hF z
    · exact hN z
    · rw [hH] at z; cases z
  · rcases s.own a (ho a z) with z | z
    · exact hN z
    · rw [hH] at z; cases z
theorem TR.grow {D : Addr} {acc : List PyData} {y : V} {d : PyData} (S : SR K α r σ H F) (h : TR K α r σ H F (.own (.lst acc)) (.ref D)) (fy : Fr K H F y d) :
    ∃ xs, H D = some (.lst xs) ∧ xs.length = acc.length ∧ SR K α r σ (upd H D (.lst (xs ++ [y]))) F ∧ TR K α r σ (upd H D (.lst (xs ++ [y]))) F (.own (.lst (acc ++ [d]))) (.ref D) ∧ Stay H F (upd H D (.lst (xs ++ [y]))) F ∧
      Step (fun a => Own α r σ a ∨ a = D) H F (upd H D (.lst (xs ++ [y]))) F (fun a => Own α r σ a ∨ a = D) := by
  obtain ⟨a, u, e, hH, ⟨xs, rfl, fr⟩, hF, hN⟩ := h
  cases e
  have st : Stay H F (upd H D (.lst (xs ++ [y]))) F := ⟨fun _ h => h, fun x q => upd_ne (fun e => hF (by rw [← e]; exact q)), fun x w q i => by
    by_cases e : x = D
    · subst e; rw [hH] at q; cases q; cases i
    · rw [upd_ne e]; exact q⟩
  refine ⟨xs, hH, fr.len, S.over st (fun x q => upd_ne fun e => hN (by rw [← e]; exact q)) (fun x ⟨l, q⟩ => S.sep l x q) (fun x q => ?_), ⟨D, _, rfl, upd_same, ⟨_, rfl, (fr.stay st).app (.cons (fy.stay st) .nil)⟩, hF, hN⟩, st,
    ⟨fun x o q n => by rw [upd_ne (show x ≠ D from fun e => n (.inr e))]; exact q, st, fun x q => .inl q, fun x q => .inl q, fun x q => ?_⟩⟩
  · obtain ⟨w, q2⟩ := S.fdom x q
    exact ⟨w, by rw [upd_ne (show x ≠ D from fun e => hF (by rw [← e]; exact q))]; exact q2⟩
  · by_cases e : x = D
    · subst e; rw [upd_same] at q; cases q
    · rwa [upd_ne e] at q
/-- the state and the new list, in a turn -/
structure Tn (K : KX) (α : List Addr) (O0 : Addr → Prop) (H0 : Hp) (F0 : Addr → Prop) (H1 : Hp) (F1 : Addr → Prop) (V : Hp → (Addr → Prop) → Prop) (D : Addr) (acc : List PyData) (r : En) (σ : L2.St) (H : Hp) (F : Addr → Prop) : Prop where
  sr : SR K α r σ H F
  v : V H F
  tr : TR K α r σ H F (.own (.lst acc)) (.ref D)
  stay : Stay H1 F1 H F
  step : Step O0 H0 F0 H F (fun a => Own α r σ a ∨ a = D)
theorem Tn.next {O0 : Addr → Prop} {H0 H1 : Hp} {F0 F1 : Addr → Prop} {V : Hp → (Addr → Prop) → Prop} {D : Addr} {acc : List PyData} {σ' : L2.St} {O' : Addr → Prop} (t : Tn K α O0 H0 F0 H1 F1 V D acc r σ H F) (hv : ∀ H F H' F', V H F → Stay H F H' F' → V H' F')
    (S : SR K α r' σ' H' F') (s : Step (Own α r σ) H F H' F' O') (ho : ∀ a, Own α r' σ' a → O' a) : Tn K α O0 H0 F0 H1 F1 V D acc r' σ' H' F' :=
  ⟨S, hv _ _ _ _ t.v s.stay, t.tr.move s ho, t.stay.trans s.stay, t.step.trans (s.widen (P := fun a => Own α r σ a ∨ a = D) (fun _ z => .inl z) fun a z => z.elim (fun z => .inl (ho a z)) fun z => .inr (.inr z)) fun _ z => z⟩
theorem lc_ok {it : M Src} {g : TG} {tg : PyData → En → Option En} {T : List Nat} {tt : M Bool} {f : M Rv} {Q : VK} (ht : TgOk K α g tg T) (h : tE K α W (lcE it tg T tt f) σ H Q) : tLc (tI K α W it) g (tT K α W0 tt) (tE K α W0 f) T σ H Q := by
  obtain ⟨r, F, S, h⟩ := h
  refine ⟨r, F, S, ?_⟩
  unfold lcE M.bnd at h
  cases e : it r with
  | no => simp only [e] at h; exact h
  | ex z r1 => simp only [e] at h; exact h
  | ok s r1 =>
    simp only [e] at h
    intro J V H1 F1 S1 st1 so v1 D hD
    by_cases hc : calm r1 T = true
    case neg => rw [if_neg hc] at h; exact h.elim
    rw [if_pos hc] at h
    -- what is wanted of the rest of the loop
    let Pw : Res (List PyData) → Prop := fun x => Aft K α σ (Own α r σ) H F W (match x with
      | .no => .no
      | .ex e r2 => .no
      | .ok acc r2 => .ok (.own (.lst acc)) (restV r1 r2 T)) Q
    have h : Pw (lcN s.nth tg T tt f s.fuel 0 [] (wipeV r1 T)) := h
    have S1w := S1.wipe T
    refine ⟨fun i m H' => ∃ rc F' acc, Tn K α (Own α r σ) H F H1 F1 V D acc rc (L2.wipe σ T) H' F' ∧ Pw (lcN s.nth tg T tt f m i acc rc), ⟨s.fuel, wipeV r1 T, F1, [], ⟨S1w.new _ hD, so.stay _ _ _ _ v1 (stay_new S1 _ hD),
      ⟨D, _, rfl, upd_same, ⟨[], rfl, .nil⟩, notF_new S1 hD, notOwn_new S1w hD⟩, stay_new S1 _ hD, st1.trans (step_new S1 _ hD fun a z => z.imp (fun ⟨l, q⟩ => ⟨l, wipe_holds q⟩) id) fun _ z => z⟩, h⟩, ?_⟩
    rintro i m H2 ⟨rc, F2, acc, t, h⟩
    unfold lcN at h
    cases en : s.nth rc i with
    | none => simp only [en] at h; exact h.elim
    | some o =>
      have tn := so.turn rc _ H2 F2 i o t.sr t.v en
      cases o with
      | none =>
        simp only [en] at h
        obtain ⟨R, ow⟩ := SR.rest S1 t.sr t.stay hc
        refine .inl ⟨tn, h (.ref D) H2 F2 R (t.step.more fun a z => z.imp (ow a) fun ⟨_, z⟩ => by injection z with z; exact z.symm) ?_⟩
        obtain ⟨a, u, e1, e2, e3, e4, e5⟩ := t.tr
        exact ⟨a, u, e1, e2, e3, e4, fun z => e5 (ow a z)⟩
      | some d =>
        simp only [en] at h
        obtain ⟨go, yl⟩ := tn
        cases m with
        | zero => exact h.elim
        | succ m =>
          simp only at h
          cases et : tg d (wipeV rc T) with
          | none => simp only [et] at h; exact h.elim
          | some r2 =>
            simp only [et] at h
            refine .inr ⟨go, fun H' => ∃ rc F' acc, Tn K α (Own α r σ) H F H1 F1 V D acc rc (L2.wipe σ T) H' F' ∧ Pw (lcN s.nth tg T tt f m (i + 1) acc rc), fun H' q => ⟨m, Nat.lt_succ_self m, q⟩, fun x H' y => ?_⟩
            have Sw : SR K α (wipeV rc T) (L2.wipe σ T) H2 F2 := by
              have q := t.sr.wipe T
              rwa [wipe_wipe] at q
            have tw : Tn K α (Own α r σ) H F H1 F1 V D acc (wipeV rc T) (L2.wipe σ T) H2 F2 := t.next so.stay Sw (Step.refl fun _ z => z) fun a ⟨l, q⟩ => by
              rw [← wipe_wipe] at q
              exact ⟨l, wipe_holds q⟩
            obtain ⟨S3, fx, st3⟩ := yl_sr Sw (yl x H' y)
            refine ht.go (wipeV rc T) r2 (L2.wipe σ T) H' F2 x d _ S3 fx et fun σ3 S4 ow4 w4 => ?_
            have w4 : L2.wipe σ3 T = L2.wipe σ T := w4.trans (wipe_wipe T σ)
            have t4 : Tn K α (Own α r σ) H F H1 F1 V D acc r2 σ3 H' F2 := tw.next so.stay S4 st3 ow4
            refine ⟨w4, r2, F2, S4, ?_⟩
            cases ett : tt r2 with
            | no => simp only [ett] at h; exact h
            | ex z r3 => simp only [ett] at h; exact h.elim
            | ok b r3 =>
              simp only [ett] at h
              intro H5 F5 S5 st5
              have t5 : Tn K α (Own α r σ) H F H1 F1 V D acc r3 σ3 H5 F5 := t4.next so.stay S5 st5 fun _ z => z
              have toW : ∀ {acc : List PyData} {r3 : En} {H5 : Hp} {F5 : Addr → Prop}, Tn K α (Own α r σ) H F H1 F1 V D acc r3 σ3 H5 F5 → Tn K α (Own α r σ) H F H1 F1 V D acc (wipeV r3 T) (L2.wipe σ T) H5 F5 := fun {acc r3 H5 F5} t5 => by
                have Sw5 := t5.sr.wipe T
                rw [w4] at Sw5
                exact t5.next so.stay Sw5 (Step.refl fun _ z => z) fun a ⟨l, q⟩ => by
                  rw [← w4] at q
                  exact ⟨l, wipe_holds q⟩
              cases b with
              | false =>
                refine iteF ?_
                exact ⟨wipeV r3 T, F5, acc, toW t5, h⟩
              | true =>
                refine iteT ⟨r3, F5, S5, ?_⟩
                have h : Pw (match M.bnd f frz r3 with
                  | .no => .no
                  | .ex e r3 => .no
                  | .ok y r3 => if acc.length < sizeLine then lcN s.nth tg T tt f m (i + 1) (acc ++ [y]) (wipeV r3 T) else .no) := h
                unfold M.bnd at h
                cases ef : f r3 with
                | no => simp only [ef] at h; exact h
                | ex z r4 => simp only [ef] at h; exact h.elim
                | ok z r4 =>
                  simp only [ef] at h
                  intro yv H6 F6 S6 st6 tz
                  cases ez : frz z r4 with
                  | no => simp only [ez] at h; exact h.elim
                  | ex w r5 => exact absurd ez frz_ex
                  | ok dy r5 =>
                    simp only [ez] at h
                    obtain ⟨F7, S7, fr7, st7, _⟩ := frz_ok S6 tz ez
                    have t7 : Tn K α (Own α r σ) H F H1 F1 V D acc r5 σ3 H6 F7 := t5.next so.stay S7 (st6.trans st7 fun _ z => z) fun _ z => z
                    obtain ⟨xs, h1, h2, h3, h4, h5, h6⟩ := t7.tr.grow t7.sr fr7
                    split at h
                    · rename_i hz
                      refine ⟨xs, h1, by rw [h2]; exact hz, ?_⟩
                      exact ⟨wipeV r5 T, F7, acc ++ [dy], toW ⟨h3, so.stay _ _ _ _ t7.v h5, h4, t7.stay.trans h5, t7.step.trans h6 fun _ z => z⟩, h⟩
                    · exact h.elim
def yesB : M Bool := M.ret true
section
variable {X : Cx} {elt tg iter c : Expr} {ifs : List Expr} {scope : Scope} {own : List (Str × Nat)} {pos spos : Pos} {it : M Src} {g : TG} {tgf : PyData → En → Option En} {tt : M Bool} {f : M Rv}
theorem ts_nil : PTs X [] (tT K α W yesB) := ⟨fun pins s σ H Q I h => pts_nil.run pins s σ H Q I (tB_ret h)⟩
theorem ts_one (h : PT X c (tT K α W0 tt)) : PTs X [c] (tT K α W0 tt) := pts_one h
theorem ev_lc {T : List Nat} (hT : own.map (·.2) = T) (hc : X.calm = true) (hN : X.N.Nodup) (hi : PI X tg iter (tI K α W it)) (ok : BlkOk X.N X.env.scope scope own)
    (hg : ∀ (s : Shared) (H : Hp) (C : Addr) (cl : List (Str × Addr)) (fp : List Addr), PG (X.blk s H scope (compEnvC scope cl C X.env) fp) tg g) (ht : ∀ (s : Shared) (H : Hp) (C : Addr) (cl : List (Str × Addr)) (fp : List Addr), PTs (X.blk s H scope (compEnvC scope cl C X.env) fp) ifs (tT K α W0 tt))
    (he : ∀ (s : Shared) (H : Hp) (C : Addr) (cl : List (Str × Addr)) (fp : List Addr), PE (X.blk s H scope (compEnvC scope cl C X.env) fp) elt (tE K α W0 f)) (htg : TgOk K α g tgf T) (hs : ∀ x, foldedSetIterable iter X.env x = pure x := by intro _; rfl) :
    PE X (.ListComp elt [⟨tg, iter, ifs, 0⟩] scope pos) (tE K α W (lcE it tgf T tt f)) := pe_weak (pe_lc hc hN hi ok hg ht he hs) fun σ H Q q => by
  rw [hT]
  exact lc_ok htg q
/-- y = [..] -/
theorem sv_setLc {i : Nat} {y : Str} {py : Pos} {T : List Nat} (hT : own.map (·.2) = T) (hc : X.calm = true) (hN : X.N.Nodup) (hy : X.N[i]? = some y) (hyl : X.env.scope.names.lookup y = some .local)
    (hsw : swapsWith (.ListComp elt [⟨tg, iter, ifs, 0⟩] scope pos) (some (.Name y py)) spos.line X.env = pure true) (hi : PI X tg iter (tI K α W it)) (ok : BlkOk X.N X.env.scope scope own)
    (hg : ∀ (s : Shared) (H : Hp) (C : Addr) (cl : List (Str × Addr)) (fp : List Addr), PG (X.blk s H scope (compEnvC scope cl C X.env) fp) tg g) (ht : ∀ (s : Shared) (H : Hp) (C : Addr) (cl : List (Str × Addr)) (fp : List Addr), PTs (X.blk s H scope (compEnvC scope cl C X.env) fp) ifs (tT K α W0 tt))
    (he : ∀ (s : Shared) (H : Hp) (C : Addr) (cl : List (Str × Addr)) (fp : List Addr), PE (X.blk s H scope (compEnvC scope cl C X.env) fp) elt (tE K α W0 f)) (htg : TgOk K α g tgf T) (hs : ∀ x, foldedSetIterable iter X.env x = pure x := by intro _; rfl) :
    PS X (.Assign [.Name y py] (.ListComp elt [⟨tg, iter, ifs, 0⟩] scope pos) spos) (tS K α W (setS i (lcE it tgf T tt f))) := ps_weak (ps_setLc hc hN hy hyl hsw hi ok hg ht he hs) fun D σ H ⟨r, F, S, h⟩ => by
  rw [hT]
  exact lc_ok htg (tE_mono (ofM_E S h) fun v H1 ⟨r1, F1, x, S1, st, tr, h1⟩ => bind_ok S1 tr h1)
end
end Mi

/-! Mi13.lean -/
set_option Elab.async false
set_option linter.all false
set_option maxRecDepth 100000
/-! the end of a law -/
namespace Mi
open PySem L2 PySem.Spec PyProof.Rows

/-- a def of the program's top, to be called by its name -/
structure Def (P : Program) (w : World) (K : PySem.W.Frag) (mg : Str → Option Value) (base : Heap) (x : Str) (k np n : Nat) (bd : Stm) : Prop where
  ex : ∃ (f : Addr) (fd : FuncData) (ps : List Str), mg x = some (.ref f) ∧ PySem.W.keepIn K (.ref f) = true ∧ Binds K fd ps [] ∧ ps.length = np ∧ FnG P w K mg base k f fd ps (spF ⟨K, P, w, none⟩ np n bd)
theorem Def.mono {P : Program} {w : World} {K : PySem.W.Frag} {mg : Str → Option Value} {base : Heap} {x : Str} {j k np n : Nat} {bd : Stm} (D : Def P w K mg base x j np n bd) (h : j ≤ k) : Def P w K mg base x k np n bd := by
  obtain ⟨f, fd, ps, h1, h2, h3, h4, h5⟩ := D.ex
  exact ⟨f, fd, ps, h1, h2, h3, h4, h5.mono h⟩
section
variable {X : Cx} {x : Str} {p pos : Pos} {e : Expr} {es : List Expr} {k np n : Nat} {bd : Stm} {g : M (List Rv)} {α : List Addr}
theorem ev_callD (D : Def X.prog X.w X.K X.mg X.base x k np n bd) (hr : Room k X.A) (hgd : X.A.guards = some []) (tk : L2.Takes X W) (hg : Gl X x) (hn : np ≤ n) (ha : PA X (e :: es) (tR (kx X none) α W g)) (hdb : (x == ("__debug__" : Str)) = false := by decide)
    (he : starEach (e :: es) X.env = (false, eval e X.env) :: starEach es X.env := by rfl) (hpl : (backTo pos (starEach es X.env)).any (·.1) = false := by rfl) : PE X (.Call (.Name x p) (e :: es) [] pos) (tE (kx X none) α W (callE (runF np n bd) g)) := by
  obtain ⟨f, fd, ps, h1, h2, h3, h4, h5⟩ := D.ex
  exact ev_call h5 hr hgd tk hg h1 h2 h3 h4 hn ha hdb he hpl
theorem ev_callD0 (D : Def X.prog X.w X.K X.mg X.base x k np n bd) (hr : Room k X.A) (hgd : X.A.guards = some []) (tk : L2.Takes X W) (hg : Gl X x) (hn : np ≤ n) (hdb : (x == ("__debug__" : Str)) = false := by decide) : PE X (.Call (.Name x p) [] [] pos) (tE (kx X none) α W (callE (runF np n bd) nilR)) := by
  obtain ⟨f, fd, ps, h1, h2, h3, h4, h5⟩ := D.ex
  exact ev_call0 h5 hr hgd tk hg h1 h2 h3 h4 hn hdb
end
def pyInts (ns : List Int) : PyData := .list (ns.map PyData.int)
theorem fr_pyInts {K : KX} {H : Hp} {F : Addr → Prop} : ∀ ns : List Int, FrAll K H F (ns.map V.int) (ns.map PyData.int)
  | [] => .nil
  | n :: ns => .cons (.int n) (fr_pyInts ns)
/-- what a law's run over its script wants -/
theorem law_sp {K : KX} {n : Nat} {bd : Stm} {H : Hp} {a : Addr} {ns : List Int} (hn : 1 ≤ n) (fr : Fr K H (fun _ => False) (.ref a) (pyInts ns)) (h : runF 1 n bd [.val (pyInts ns)] = .ret (.val (.bool true)) []) :
    spF K 1 n bd [.ref a] H (fun v _ => v = .bl true) E0 := by
  have S : SR K [] ⟨[some (.val (pyInts ns))], []⟩ [some (.ref a)] H (fun _ => False) := {
    len := rfl
    slot := fun i s q => by
      cases i with
      | zero =>
        have q : some (some (Sl.val (pyInts ns))) = some (some s) := q
        cases q
        exact ⟨.ref a, rfl, fr⟩
      | succ i => simp at q
    obj := fun k b q => by simp at q
    apart := fun l l' a h _ => by
      cases l with
      | slot i =>
        obtain ⟨⟨o, q⟩, _⟩ := h
        cases i with
        | zero => cases q
        | succ i => simp at q
      | obj k => obtain ⟨_, q⟩ := h; simp at q
    sep := fun _ _ _ z => z
    fdom := fun _ z => z.elim }
  refine call_ok (W := W0) (α := []) (r := ⟨[some (.val (pyInts ns))], []⟩) (σ := [some (.ref a)]) (F := fun _ => False) (xs := [.val (pyInts ns)]) hn S ⟨.cons fr .nil, fun i j o o' a h => by
    cases i with
    | zero => cases h
    | succ i => simp at h⟩ ?_
  unfold callF
  have e1 : agsOf ⟨[some (.val (pyInts ns))], []⟩ [Rv.val (pyInts ns)] = some ([.val (pyInts ns)], []) := rfl
  rw [e1]
  simp only [noDup, if_true, h]
  intro v H' F' _ _ t
  cases (show Fr K H' F' v (.bool true) from t)
  rfl
/-- the law's call, at the heap behind the top -/
theorem law_run {P : Program} {w : World} {K : PySem.W.Frag} {mg mb : Str → Option Value} {k n : Nat} {fa a : Addr} {fd : FuncData} {x : Str} {bd : Stm} {s₁ : Shared} {vs : List Value} {ns : List Int}
    (KX : K.In s₁.heap) (hns : s₁.heap.Ns mainGlobals mg) (hb : s₁.heap.Ns builtinsNs mb) (hbb : ∀ x : Str, x ≠ "__name__" → mb x = bootBuiltins x) (hlim : s₁.heap.NoLimit) (hg : s₁.gens = #[])
    (ha : s₁.heap.get? a = some { cls := .type "list", data := .seq vs.toArray }) (hi : IntsAre vs ns) (hl : ns.length ≤ sizeLine) (hr : Room k callerA)
    (hF : ∀ base : Heap, K.In base → base.Ns mainGlobals mg → FnG P w K mg base k fa fd [x] (spF ⟨K, P, w, none⟩ 1 n bd)) (hbind : ∀ (s : Shared) (u : Value), BindsTo s fd ⟨[u], []⟩ [(x, u)]) (hn : 1 ≤ n)
    (hrun : runF 1 n bd [.val (pyInts ns)] = .ret (.val (.bool true)) []) :
    codeAny (model P w) callerA (.call (.ref fa) ⟨[.ref a], []⟩) (fun r s' => r = .ok (.ret (.bool true)) ∧ OldK s₁.heap s'.heap ∧ s'.os = s₁.os ∧ AllBare s'.gens) s₁ := by
  have rv := vals_ints hi
  have lv : ns.length = vs.length := by have := rv.length; simpa using this
  -- from a heap that tells nothing but, perhaps, the script
  have go : ∀ H : Hp, Fr ⟨K, P, w, none⟩ H (fun _ => False) (.ref a) (pyInts ns) → HOk P w H s₁.heap → (∀ b u, H b = some u → b = a ∧ K.lookup a = none ∧ ∃ o xs, u = .frz o (.lst xs)) →
      codeAny (model P w) callerA (.call (.ref fa) ⟨[.ref a], []⟩) (fun r s' => r = .ok (.ret (.bool true)) ∧ OldK s₁.heap s'.heap ∧ s'.os = s₁.os ∧ AllBare s'.gens) s₁ := by
    intro H fr ok only
    have dicts : ∀ {b : Addr} {m : Str → Option Value}, s₁.heap.Ns b m → (hidT s₁.heap H).Ns b m := by
      rintro b m ⟨o, es, ep, e, d, rest⟩
      refine ⟨o, es, ep, hidT_get e ?_, d, rest⟩
      cases q : H b with
      | none => rfl
      | some u =>
        obtain ⟨rfl, _⟩ := only b u q
        rw [ha] at e; cases e; cases d
    have KB : K.In (hidT s₁.heap H) := fun b o e => hidT_get (KX b o e) (by
      cases q : H b with
      | none => rfl
      | some u =>
        obtain ⟨rfl, z, _⟩ := only b u q
        rw [z] at e; cases e)
    have md : Mod K mg (hidT s₁.heap H) := by
      obtain ⟨mc, h1, h2⟩ := hlim
      exact ⟨KB, dicts hns, ⟨mb, dicts hb, hbb⟩, ⟨mc, dicts h1, h2⟩⟩
    have e0 : Env0 P w K mg (hidT s₁.heap H) callerA [] s₁ H := ⟨rfl, md, fun b o e => of_hidT e, Nat.le_of_eq (hidT_size _ _), trivial, fun b z => absurd (show b ∈ ([] : List Addr) from z) (by simp), ok, .of_eq hg⟩
    refine codeAny_mono ((hF _ KB (dicts hns)).run callerA [] s₁ H ⟨[.ref a], []⟩ [.ref a] [.ref a] _ E0 hr rfl e0 (hbind s₁ (.ref a)) (.cons rfl .nil) (law_sp hn fr hrun)) fun res s' q => ?_
    match res, q with
    | .error e, q => obtain ⟨_, _, _, _, _, _, _, _, _, _, _, _, z⟩ := q; exact (show False from z).elim
    | .ok .next, q => exact q.elim
    | .ok .brk, q => exact q.elim
    | .ok .cont, q => exact q.elim
    | .ok (.ret u), ⟨v, H', os, bare, un, ok', r', z⟩ =>
      cases (show v = .bl true from z)
      cases (show u = Value.bool true from r')
      refine ⟨rfl, OldK.of_keep fun b o e => ?_, os, bare⟩
      cases g : H b with
      | none => exact un.keep b o e g (fun z => absurd (show b ∈ ([] : List Addr) from z) (by simp)) (by simp)
      | some w =>
        obtain ⟨_, _, ob, xs, rfl⟩ := only b w g
        have g1 := (ok b _ g).1
        have g2 := (ok' b _ (un.frzs b ob _ g)).1
        rw [e] at g1; cases g1
        exact g2
  cases hk : K.lookup a with
  | some o =>
    have e := KX a o hk
    rw [ha] at e; cases e
    exact go (fun _ => none) (.klst ⟨vs, _, hk, by omega, rv⟩ (fr_pyInts ns)) (fun b u z => nomatch z) fun b u z => nomatch z
  | none =>
    refine go (fun b => if b = a then some (.frz { cls := .type "list", data := .seq vs.toArray } (.lst (ns.map V.int))) else none) (.frz (if_pos rfl) (fr_pyInts ns)) (fun b u z => ?_) fun b u z => ?_
    · have z : (if b = a then some (HO.frz { cls := .type "list", data := .seq vs.toArray } (.lst (ns.map V.int))) else none) = some u := z
      by_cases e : b = a
      · rw [if_pos e] at z; cases z; subst e
        exact ⟨ha, by rw [List.length_map]; exact hl, vs, _, rv, ha⟩
      · rw [if_neg e] at z; cases z
    · have z : (if b = a then some (HO.frz { cls := .type "list", data := .seq vs.toArray } (.lst (ns.map V.int))) else none) = some u := z
      by_cases e : b = a
      · rw [if_pos e] at z; cases z
        exact ⟨e, hk, _, _, rfl⟩
      · rw [if_neg e] at z; cases z
/-- the goal that k_head leaves, by the run of the law's evaluator -/
theorem law_end {l : PySem.W.OpenLaw} {n k : Nat} {q : Program} {loose : List Str} {XP : (Str → Option Value) → Heap → Prop} {YP : World → Heap → Prop} {d : DefRec} {K : Params → PySem.W.Frag} {x : Str} {bd : Stm}
    (hm : l.most = some 63) (hdf : d.params.defaults = []) (hr : Room k callerA) (hY : ∀ (w : World) (h : Heap), YP w h → (K w.params).In h)
    (hF : ∀ (w : World) (mg : Str → Option Value) (fa : Addr) (h : Heap), (K w.params).In h → h.Ns mainGlobals mg → mg d.name = some (.ref fa) →
      ∃ fd : FuncData, (∀ (s : Shared) (u : Value), BindsTo s fd ⟨[u], []⟩ [(x, u)]) ∧ ∀ base : Heap, (K w.params).In base → base.Ns mainGlobals mg → FnG l.prog w (K w.params) mg base k fa fd [x] (spF ⟨K w.params, l.prog, w, none⟩ 1 n bd))
    (hn : 1 ≤ n) (hrun : ∀ ns : List Int, ns.length ≤ 63 → (∀ z ∈ ns, Builtin.Int.intBits z ≤ 1048576) → runF 1 n bd [.val (pyInts ns)] = .ret (.val (.bool true)) []) :
    PySem.W.WalkO q loose XP YP l.row.toRowW d [] (fun f vs => PySem.call f vs) := by
  refine Att.attach_callB hm hdf fun w s₀ s₁ mg mb fa o pm cd doc a vs ns G Y ho hd hcd hmg hobj hints hlen hbits hg => ?_
  obtain ⟨fd, hb, hf⟩ := hF w mg fa _ (hY w _ Y) G.T.g hmg
  exact law_run (hY w _ Y) G.T.g G.T.b G.T.builtins G.T.nolimit hg hobj hints (Nat.le_trans hlen (by decide)) hr hf hb hn (hrun ns hlen hbits)
end Mi

/-! Mi14.lean -/
set_option Elab.async false
set_option linter.all false
set_option maxRecDepth 100000
/-! built-ins by their data -/
namespace Mi
open PySem L2 PySem.Spec PyProof.Rows
variable {K : KX} {α : List Addr} {r r' : En} {σ : L2.St} {H H' : Hp} {F F' : Addr → Prop}

theorem call1_ok {ro : List V → Hp → VK → Prop} {g : PyData → Option Rv} (hs : Op1 K (fun x H Q => ro [x] H Q) g) {fa : M Rv} {Q : VK} (h : tE K α W (unE g fa) σ H Q) : tCB ro (tCons (tE K α W fa) tNil) σ H Q := t1_ok hs h
theorem call2_ok {ro : List V → Hp → VK → Prop} {g : PyData → PyData → Option Rv} (hs : Op2 K (fun x y H Q => ro [x, y] H Q) g) {fa fb : M Rv} {Q : VK} (h : tE K α W (binE g fa fb) σ H Q) : tCB ro (tCons (tE K α W fa) (tCons (tE K α W fb) tNil)) σ H Q := tOp_ok hs h
section
variable {X : Cx} {a b e : Expr} {fa fb f : M Rv} {pos p : Pos} {id : String} {x : Str} {ro : List V → Hp → VK → Prop}
theorem ev_b1 {g : PyData → Option Rv} (hc : CallR X (.builtin id) ro) (hs : Op1 K (fun x H Q => ro [x] H Q) g) (hg : Gl X x) (hm : X.mg x = none) (hv : bootBuiltins x = some (.builtin id)) (ha : PE X a (tE K α W fa)) (hn : x ≠ "__name__" := by decide) (hdb : (x == ("__debug__" : Str)) = false := by decide)
    (he : starEach [a] X.env = (false, eval a X.env) :: starEach [] X.env := by rfl) : PE X (.Call (.Name x p) [a] [] pos) (tE K α W (unE g fa)) := pe_weak (pe_callB hc hg hm hv (pa_cons ha pa_nil he) hn hdb he rfl) fun _ _ _ q => call1_ok hs q
theorem ev_t1 {g : PyData → Option Rv} (hc : CallR X (.type id) ro) (hs : Op1 K (fun x H Q => ro [x] H Q) g) (hg : Gl X x) (hm : X.mg x = none) (hv : bootBuiltins x = some (.type id)) (ha : PE X a (tE K α W fa)) (hn : x ≠ "__name__" := by decide) (hdb : (x == ("__debug__" : Str)) = false := by decide)
    (he : starEach [a] X.env = (false, eval a X.env) :: starEach [] X.env := by rfl) : PE X (.Call (.Name x p) [a] [] pos) (tE K α W (unE g fa)) := pe_weak (pe_callTy hc hg hm hv (pa_cons ha pa_nil he) hn hdb he rfl) fun _ _ _ q => call1_ok hs q
theorem ev_b2 {g : PyData → PyData → Option Rv} (hc : CallR X (.builtin id) ro) (hs : Op2 K (fun x y H Q => ro [x, y] H Q) g) (hg : Gl X x) (hm : X.mg x = none) (hv : bootBuiltins x = some (.builtin id)) (ha : PE X a (tE K α W fa)) (hb : PE X b (tE K α W fb)) (hn : x ≠ "__name__" := by decide) (hdb : (x == ("__debug__" : Str)) = false := by decide)
    (he : starEach [a, b] X.env = (false, eval a X.env) :: starEach [b] X.env := by rfl) (he2 : starEach [b] X.env = (false, eval b X.env) :: starEach [] X.env := by rfl) (hpl : (backTo pos (starEach [b] X.env)).any (·.1) = false := by rfl) : PE X (.Call (.Name x p) [a, b] [] pos) (tE K α W (binE g fa fb)) :=
  pe_weak (pe_callB hc hg hm hv (pa_cons ha (pa_cons hb pa_nil he2) he) hn hdb he hpl) fun _ _ _ q => call2_ok hs q
end
/-! len, list, tuple, int, str -/
def gLen : PyData → Option Rv
  | .str x => if x.length ≤ sizeLine then some (vI x.length) else none
  | .list ds => some (vI ds.length)
  | .tuple ds => some (vI ds.length)
  | _ => none
theorem o_len : Op1 K (fun x H Q => ∃ y n, [x] = [y] ∧ LenV K y H n ∧ Q (.int n) H) gLen := fun H F x d z Q px h q => by
  unfold gLen at h
  split at h
  · obtain ⟨h1, rfl⟩ := opt_if h
    have e := px.str
    subst e
    exact ⟨_, _, rfl, ⟨h1, rfl⟩, q.val _ _ rfl (.int _)⟩
  · cases h
    obtain ⟨a, xs, rfl, h1, h2⟩ := px.list
    exact ⟨_, xs.length, rfl, .inl ⟨xs, h1, rfl⟩, by rw [h2.len]; exact q.val _ _ rfl (.int _)⟩
  · cases h
    obtain ⟨a, xs, rfl, h1, h2⟩ := px.tup
    exact ⟨_, xs.length, rfl, .inr ⟨xs, h1, rfl⟩, by rw [h2.len]; exact q.val _ _ rfl (.int _)⟩
  · cases h
def gList : PyData → Option Rv
  | .list ds => some (.own (.lst ds))
  | .tuple ds => some (.own (.lst ds))
  | _ => none
theorem o_list : Op1 K (fun x H Q => ∃ p ys, [x] = [.ref p] ∧ (SqL K H p ys ∨ SqT K H p ys) ∧ ∀ l, H l = none → Q (.ref l) (upd H l (.lst ys))) gList := fun H F x d z Q px h q => by
  unfold gList at h
  split at h
  · cases h
    obtain ⟨a, xs, rfl, h1, h2⟩ := px.list
    exact ⟨a, xs, rfl, .inl h1, fun l hl => q.new _ _ l rfl hl h2⟩
  · cases h
    obtain ⟨a, xs, rfl, h1, h2⟩ := px.tup
    exact ⟨a, xs, rfl, .inr h1, fun l hl => q.new _ _ l rfl hl h2⟩
  · cases h
def gTuple : PyData → Option Rv
  | .list ds => some (.val (.tuple ds))
  | .tuple ds => some (.val (.tuple ds))
  | _ => none
theorem o_tuple : Op1 K (fun x H Q => ∃ p ys, [x] = [.ref p] ∧ ((SqL K H p ys ∧ ∀ l, H l = none → Q (.ref l) (upd H l (.tup ys))) ∨ (SqT K H p ys ∧ Q (.ref p) H))) gTuple := fun H F x d z Q px h q => by
  unfold gTuple at h
  split at h
  · cases h
    obtain ⟨a, xs, rfl, h1, h2⟩ := px.list
    exact ⟨a, xs, rfl, .inl ⟨h1, fun l hl => q.tup _ _ l rfl hl h2⟩⟩
  · cases h
    obtain ⟨a, xs, rfl, h1, h2⟩ := px.tup
    exact ⟨a, xs, rfl, .inr ⟨h1, q.val _ _ rfl (.tup h1 h2)⟩⟩
  · cases h
def gIntB : PyData → Option Rv
  | .int i => some (vI i)
  | .bool k => some (vI (if k then 1 else 0))
  | _ => none
theorem o_intB : Op1 K (fun x H Q => (∃ i, [x] = [.int i] ∧ Q (.int i) H) ∨ ∃ k, [x] = [.bl k] ∧ Q (.int (if k then 1 else 0)) H) gIntB := fun H F x d z Q px h q => by
  unfold gIntB at h
  split at h
  · cases h; have e := px.int; subst e; exact .inl ⟨_, rfl, q.val _ _ rfl (.int _)⟩
  · cases h; have e := px.bl; subst e; exact .inr ⟨_, rfl, q.val _ _ rfl (.int _)⟩
  · cases h
def gIntS : PyData → Option Rv
  | .str a => if a.length ≤ 640 then (PySem.intText? a).map vI else none
  | _ => none
theorem o_intS : Op1 K (fun x H Q => ∃ a n, [x] = [.str a] ∧ PySem.intText? a = some n ∧ a.length ≤ 640 ∧ Q (.int n) H) gIntS := fun H F x d z Q px h q => by
  unfold gIntS at h
  split at h
  · split at h
    · rename_i hz
      obtain ⟨n, h1, rfl⟩ := Option.map_eq_some_iff.mp h
      have e := px.str
      subst e
      exact ⟨_, n, rfl, h1, hz, q.val _ _ rfl (.int _)⟩
    · cases h
  · cases h
def gStrI : PyData → Option Rv
  | .int i => if i.natAbs.log2 < 1920 then some (vS (toString i)) else none
  | _ => none
theorem o_strI : Op1 K (fun x H Q => ∃ i, [x] = [.int i] ∧ i.natAbs.log2 < 1920 ∧ Q (.str (toString i)) H) gStrI := fun H F x d z Q px h q => by
  unfold gStrI at h
  split at h
  · obtain ⟨h1, rfl⟩ := opt_if h
    have e := px.int
    subst e
    exact ⟨_, rfl, h1, q.val _ _ rfl (.str _)⟩
  · cases h
/-! max, min of two; sum, any, all of a list -/
def gMax2 : PyData → PyData → Option Rv := gI2 fun i j => some (vI (if j > i then j else i))
theorem o_max2 : Op2 K (fun x y H Q => ∃ i j, [x, y] = [.int i, .int j] ∧ Q (.int (if j > i then j else i)) H) gMax2 := fun H F x y d e z Q px py h q => by
  obtain ⟨i, j, rfl, rfl, h⟩ := gI2_inv h
  cases h
  exact ⟨i, j, by rw [px.int, py.int], q.val _ _ rfl (.int _)⟩
def gMin2 : PyData → PyData → Option Rv := gI2 fun i j => some (vI (if j < i then j else i))
theorem o_min2 : Op2 K (fun x y H Q => ∃ i j, [x, y] = [.int i, .int j] ∧ Q (.int (if j < i then j else i)) H) gMin2 := fun H F x y d e z Q px py h q => by
  obtain ⟨i, j, rfl, rfl, h⟩ := gI2_inv h
  cases h
  exact ⟨i, j, by rw [px.int, py.int], q.val _ _ rfl (.int _)⟩
def intsOf : List PyData → Option (List Int)
  | [] => some []
  | .int i :: ds => (intsOf ds).map (i :: ·)
  | _ => none
theorem intsOf_map : ∀ {ds : List PyData} {ns : List Int}, intsOf ds = some ns → ds = ns.map PyData.int
  | [], ns, h => by cases h; rfl
  | .int i :: ds, ns, h => by
    obtain ⟨ms, h1, rfl⟩ := Option.map_eq_some_iff.mp (show (intsOf ds).map (i :: ·) = some ns from h)
    rw [intsOf_map h1]; rfl
  | .none :: _, _, h => by cases h
  | .bool _ :: _, _, h => by cases h
  | .str _ :: _, _, h => by cases h
  | .list _ :: _, _, h => by cases h
  | .tuple _ :: _, _, h => by cases h
  | .dict _ :: _, _, h => by cases h
theorem intsOf_of : ∀ ns : List Int, intsOf (ns.map PyData.int) = some ns
  | [] => rfl
  | n :: ns => by show (intsOf (ns.map PyData.int)).map (n :: ·) = _; rw [intsOf_of ns]; rfl
theorem FrAll.ints : ∀ {ns : List Int} {xs : List V}, FrAll K H F xs (ns.map PyData.int) → xs = ns.map V.int
  | [], _, .nil => rfl
  | n :: ns, _, .cons h1 h2 => by cases h1; rw [FrAll.ints h2]; rfl
def boolsOf : List PyData → Option (List Bool)
  | [] => some []
  | .bool i :: ds => (boolsOf ds).map (i :: ·)
  | _ => none
theorem boolsOf_map : ∀ {ds : List PyData} {ns : List Bool}, boolsOf ds = some ns → ds = ns.map PyData.bool
  | [], ns, h => by cases h; rfl
  | .bool i :: ds, ns, h => by
    obtain ⟨ms, h1, rfl⟩ := Option.map_eq_some_iff.mp (show (boolsOf ds).map (i :: ·) = some ns from h)
    rw [boolsOf_map h1]; rfl
  | .none :: _, _, h => by cases h
  | .int _ :: _, _, h => by cases h
  | .str _ :: _, _, h => by cases h
  | .list _ :: _, _, h => by cases h
  | .tuple _ :: _, _, h => by cases h
  | .dict _ :: _, _, h => by cases h
theorem boolsOf_of : ∀ ns : List Bool, boolsOf (ns.map PyData.bool) = some ns
  | [] => rfl
  | n :: ns => by show (boolsOf (ns.map PyData.bool)).map (n :: ·) = _; rw [boolsOf_of ns]; rfl
theorem FrAll.bools : ∀ {ns : List Bool} {xs : List V}, FrAll K H F xs (ns.map PyData.bool) → xs = ns.map V.bl
  | [], _, .nil => rfl
  | n :: ns, _, .cons h1 h2 => by cases h1; rw [FrAll.bools h2]; rfl
def gSum : PyData → Option Rv
  | .list ds => (intsOf ds).map fun ns => vI ns.sum
  | _ => none
theorem o_sum : Op1 K (fun x H Q => rSum K [x] H Q) gSum := fun H F x d z Q px h q => by
  unfold gSum at h
  split at h
  · obtain ⟨ns, h1, rfl⟩ := Option.map_eq_some_iff.mp h
    obtain ⟨a, xs, rfl, e1, e2⟩ := px.list
    have := intsOf_map h1
    subst this
    have := e2.ints
    subst this
    exact ⟨a, ns, rfl, e1, q.val _ _ rfl (.int _)⟩
  · cases h
def gAny : PyData → Option Rv
  | .list ds => (boolsOf ds).map fun ns => vB (ns.any id)
  | _ => none
theorem o_any : Op1 K (fun x H Q => rAny K [x] H Q) gAny := fun H F x d z Q px h q => by
  unfold gAny at h
  split at h
  · obtain ⟨ns, h1, rfl⟩ := Option.map_eq_some_iff.mp h
    obtain ⟨a, xs, rfl, e1, e2⟩ := px.list
    have := boolsOf_map h1
    subst this
    have := e2.bools
    subst this
    exact ⟨a, ns, rfl, e1, q.val _ _ rfl (.bl _)⟩
  · cases h
def gAll : PyData → Option Rv
  | .list ds => (boolsOf ds).map fun ns => vB (ns.all id)
  | _ => none
theorem o_all : Op1 K (fun x H Q => rAll K [x] H Q) gAll := fun H F x d z Q px h q => by
  unfold gAll at h
  split at h
  · obtain ⟨ns, h1, rfl⟩ := Option.map_eq_some_iff.mp h
    obtain ⟨a, xs, rfl, e1, e2⟩ := px.list
    have := boolsOf_map h1
    subst this
    have := e2.bools
    subst this
    exact ⟨a, ns, rfl, e1, q.val _ _ rfl (.bl _)⟩
  · cases h
/-- the least of a list -/
def leastI : List Int → Option Int
  | [] => none
  | n :: ns => some (ns.foldl (fun a b => if b < a then b else a) n)
theorem foldl_least : ∀ (ns : List Int) (n : Int), (ns.foldl (fun a b => if b < a then b else a) n = n ∨ ns.foldl (fun a b => if b < a then b else a) n ∈ ns) ∧ ns.foldl (fun a b => if b < a then b else a) n ≤ n ∧ ∀ y ∈ ns, ns.foldl (fun a b => if b < a then b else a) n ≤ y
  | [], n => ⟨.inl rfl, Int.le_refl _, fun y h => nomatch h⟩
  | m :: ns, n => by
    obtain ⟨h1, h2, h3⟩ := foldl_least ns (if m < n then m else n)
    simp only [List.foldl_cons]
    refine ⟨?_, ?_, fun y hy => ?_⟩
    · rcases h1 with h1 | h1
      · rw [h1]
        split
        · exact .inr List.mem_cons_self
        · exact .inl rfl
      · exact .inr (List.mem_cons_of_mem _ h1)
    · refine Int.le_trans h2 ?_
      split <;> omega
    · rcases List.mem_cons.mp hy with e | e
      · subst e
        refine Int.le_trans h2 ?_
        split <;> omega
      · exact h3 y e
theorem leastI_is {ns : List Int} {m : Int} (h : m ∈ ns) (hl : ∀ y ∈ ns, m ≤ y) : leastI ns = some m := by
  cases ns with
  | nil => cases h
  | cons n ns =>
    obtain ⟨h1, h2, h3⟩ := foldl_least ns n
    have a : ns.foldl (fun a b => if b < a then b else a) n ∈ n :: ns := h1.elim (fun e => by rw [e]; exact List.mem_cons_self) fun e => List.mem_cons_of_mem _ e
    have b := hl _ a
    have c : ns.foldl (fun a b => if b < a then b else a) n ≤ m := (List.mem_cons.mp h).elim (fun e => by rw [e]; exact h2) fun e => h3 m e
    show some _ = some m
    rw [Int.le_antisymm c b]
def gMin : PyData → Option Rv
  | .list ds => (intsOf ds).bind fun ns => (leastI ns).map vI
  | _ => none
theorem o_min : Op1 K (fun x H Q => rMin K [x] H Q) gMin := fun H F x d z Q px h q => by
  unfold gMin at h
  split at h
  · obtain ⟨ns, h1, h2⟩ := Option.bind_eq_some_iff.mp h
    obtain ⟨m, h3, rfl⟩ := Option.map_eq_some_iff.mp h2
    obtain ⟨a, xs, rfl, e1, e2⟩ := px.list
    have := intsOf_map h1
    subst this
    have := e2.ints
    subst this
    refine ⟨a, ns, rfl, e1, ?_, fun k hk hl => ?_⟩
    · cases ns with
      | nil => cases h3
      | cons n ns => exact Nat.succ_pos _
    · have e := leastI_is hk hl
      rw [h3] at e; cases e
      exact q.val _ _ rfl (.int _)
  · cases h
/-- sorted(a list of ints) -/
def gSortI : PyData → Option Rv
  | .list ds => (intsOf ds).bind fun ns => if ns.length < 64 then some (.own (.lst ((ns.mergeSort (fun a b => decide (a ≤ b))).map PyData.int))) else none
  | _ => none
theorem sorted_one : ∀ {xs ys : List Int}, xs.Perm ys → xs.Pairwise (· ≤ ·) → ys.Pairwise (· ≤ ·) → xs = ys
  | [], ys, p, _, _ => by have := p.length_eq; cases ys with
    | nil => rfl
    | cons y ys => simp at this
  | x :: xs, [], p, _, _ => by have := p.length_eq; simp at this
  | x :: xs, y :: ys, p, h1, h2 => by
    have e : x = y := by
      have a : x ∈ y :: ys := p.mem_iff.mp List.mem_cons_self
      have b : y ∈ x :: xs := p.mem_iff.mpr List.mem_cons_self
      have h1' := (List.pairwise_cons.mp h1).1
      have h2' := (List.pairwise_cons.mp h2).1
      rcases List.mem_cons.mp a with e | e
      · exact e
      · rcases List.mem_cons.mp b with e' | e'
        · exact e'.symm
        · have := h2' x e
          have := h1' y e'
          omega
    subst e
    rw [sorted_one (List.Perm.cons_inv p) (List.pairwise_cons.mp h1).2 (List.pairwise_cons.mp h2).2]
theorem mergeSort_is {xs ns : List Int} (p : xs.Perm ns) (h : xs.Pairwise (· ≤ ·)) : ns.mergeSort (fun a b => decide (a ≤ b)) = xs := by
  refine (sorted_one (p.trans (List.mergeSort_perm ns _).symm) h ?_).symm
  have := List.pairwise_mergeSort (le := fun a b : Int => decide (a ≤ b)) (fun a b c h1 h2 => by simp at *; omega) (fun a b => by simp; omega) ns
  exact this.imp fun h => by simpa using h
theorem fr_intsAll {K : KX} {H : Hp} {F : Addr → Prop} (ns : List Int) : FrAll K H F (ns.map V.int) (ns.map PyData.int) := fr_pyInts ns
theorem o_sortI : Op1 K (fun x H Q => rSorted K [x] H Q) gSortI := fun H F x d z Q px h q => by
  unfold gSortI at h
  split at h
  · obtain ⟨ns, h1, h2⟩ := Option.bind_eq_some_iff.mp h
    obtain ⟨h3, rfl⟩ := opt_if h2
    obtain ⟨a, xs, rfl, e1, e2⟩ := px.list
    have := intsOf_map h1
    subst this
    have := e2.ints
    subst this
    refine ⟨a, ns, rfl, e1, h3, fun ns' p hp hw hn => q.new _ _ p rfl hn ?_⟩
    rw [mergeSort_is hp hw]
    exact fr_intsAll ns'
  · cases h
/-! repr -/
mutual
theorem dp_noDict {K : KX} {H : Hp} : ∀ {v : V} {d : PyData}, Dp K H v d → d.hasDict = false
  | _, _, .non => by simp only [PyData.hasDict]
  | _, _, .bl _ => by simp only [PyData.hasDict]
  | _, _, .int _ => by simp only [PyData.hasDict]
  | _, _, .str _ => by simp only [PyData.hasDict]
  | _, _, .lst _ h => by simp only [PyData.hasDict]; exact dp_noDictAll h
  | _, _, .tup _ h => by simp only [PyData.hasDict]; exact dp_noDictAll h
theorem dp_noDictAll {K : KX} {H : Hp} : ∀ {v : List V} {d : List PyData}, DpAll K H v d → PyData.hasDictAll d = false
  | _, _, .nil => by simp only [PyData.hasDictAll]
  | _, _, .cons h1 h2 => by simp only [PyData.hasDictAll, dp_noDict h1, dp_noDictAll h2, Bool.or_false]
end
def gRepr (d : PyData) : Option Rv := if (d.showable && decide (d.shown.length ≤ sizeLine) && decide (d.depth < 60) && !d.hasDict) = true then some (vS d.shown) else none
def rRepr (K : KX) : List V → Hp → VK → Prop := fun xs H Q => ∃ x d, xs = [x] ∧ Dp K H x d ∧ d.showable = true ∧ d.shown.length ≤ sizeLine ∧ d.depth < 60 ∧ Q (.str d.shown) H
theorem call_reprD {X : Cx} (hgd : X.A.guards = some []) (hu : X.A.units + 64 < cLine) : CallR X (.builtin "repr") (rRepr (kx X ε)) := fun pins s σ H xs us Q I rv h => by
  obtain ⟨x, d, rfl, hd, h1, h2, h3, q⟩ := h
  obtain ⟨u, rfl, ru⟩ := vals1 rv
  obtain ⟨as, rd⟩ := Dp.reads I d x u hd ru
  have nd := dp_noDict hd
  have fin : ∀ (h' : Heap) (t tk : Tok), (∀ b o, s.heap.get? b = some o → h'.get? b = some o) → EP X pins σ Q (.str d.shown t) { s with heap := h', toks := tk } := fun h' t tk k => ⟨.str d.shown, H, I.kept k, ⟨t, rfl⟩, q⟩
  cases u with
  | ref a => exact repr_of_reads' rd h1 (PyData.noDict_hsm nd) hgd (by omega) (fun _ _ e => e) (fun h' t tk k => fin h' t tk k) h2
  | none => cases rd; exact PySem.P.repr_of_none ⟨.str (PyData.shown .none), H, I.tok _, ⟨s.toks, by simp [PyData.shown]⟩, q⟩
  | bool b => cases rd; exact PySem.P.repr_of_bool ⟨.str (PyData.shown (.bool b)), H, I.tok _, ⟨s.toks, by simp [PyData.shown]⟩, q⟩
  | int i t => cases rd; exact PySem.P.repr_of_int (by simpa [PyData.showable] using h1) ⟨.str (PyData.shown (.int i)), H, I.tok _, ⟨s.toks, by simp [PyData.shown]⟩, q⟩
  | str y t => cases rd; exact PySem.P.repr_of_str ⟨.str (PyData.shown (.str y)), H, I.tok _, ⟨s.toks, by simp [PyData.shown]⟩, q⟩ (by simpa [PyData.shown] using h2)
  | _ => cases rd
theorem o_repr : Op1 K (fun x H Q => rRepr K [x] H Q) gRepr := fun H F x d z Q px h q => by
  obtain ⟨h1, rfl⟩ := opt_if h
  simp only [Bool.and_eq_true, decide_eq_true_eq] at h1
  obtain ⟨⟨⟨a1, a2⟩, a3⟩, a4⟩ := h1
  exact ⟨x, d, rfl, px.dp (by simpa using a4), a1, a2, a3, q.val _ _ rfl (.str _)⟩
end Mi

/-! Mi15.lean -/
set_option Elab.async false
set_option linter.all false
set_option maxRecDepth 100000
/-! objects changed: methods, stores; slices; two names at once -/
namespace Mi
open PySem L2 PySem.Spec PyProof.Rows
variable {K : KX} {α : List Addr} {r r' : En} {σ : L2.St} {H H' : Hp} {F F' : Addr → Prop}

/-- the list of a name changed by a method: what becomes of it, what comes back -/
def mutF (x : Rv) (up : List PyData → List PyData → Option (List PyData × PyData)) (as : List PyData) : M Rv := fun r => match x with
  | .at l => match look r l with
    | some (.live (.lst ds)) => match up ds as with
      | some (ds', e) => .ok (.val e) (setLo r l (.live (.lst ds')))
      | none => .no
    | _ => .no
  | _ => .no
def isLst (x : Rv) : M Rv := fun r => match peek r x with
  | some (.list _) => .ok x r
  | _ => .no
def mutE (i : Nat) (up : List PyData → List PyData → Option (List PyData × PyData)) (g : M (List PyData)) : M Rv := M.bnd (nmE i) fun x => M.bnd (isLst x) fun x => M.bnd g fun as => mutF x up as
def MutR (K : KX) (ro : V → List V → Hp → VK → Prop) (up : List PyData → List PyData → Option (List PyData × PyData)) : Prop :=
  ∀ (H : Hp) (F : Addr → Prop) (a : Addr) (xs vs : List V) (ds as ds' : List PyData) (e : PyData) (Q : VK), H a = some (.lst xs) → FrAll K H F xs ds → FrAll K H F vs as → up ds as = some (ds', e) →
    (∀ y ys, Fr K H F y e → FrAll K H F ys ds' → Q y (upd H a (.lst ys))) → ro (.ref a) vs H Q
theorem mutF_ok {ro : V → List V → Hp → VK → Prop} {up : List PyData → List PyData → Option (List PyData × PyData)} (hm : MutR K ro up) {x : Rv} {v : V} {vs : List V} {as : List PyData} {Q : VK} (S : SR K α r σ H F) (t : TR K α r σ H F x v) (fr : FrAll K H F vs as)
    (h : Aft K α σ (Own α r σ) H F W (mutF x up as r) Q) : ro v vs H Q := by
  cases x with
  | val d => exact h.elim
  | own o => exact h.elim
  | «at» l =>
    unfold mutF at h
    simp only at h
    obtain ⟨a, rfl, ha⟩ := t
    split at h
    · rename_i ds q
      split at h
      · rename_i ds' e q2
        obtain ⟨a', u, e1, h1, xs, rfl, h2⟩ := content_rel S (x := .at l) (b := .live (.lst ds)) ⟨a, rfl, ha⟩ q
        cases e1
        refine hm H F a xs vs ds as ds' e Q h1 h2 fr q2 fun y ys fy fys => ?_
        obtain ⟨S', st, ow⟩ := S.write q ha (o' := .lst ds') (u' := .lst ys) ⟨ys, rfl, fys⟩
        exact h y _ F S' (st.more fun z q => q.elim id fun ⟨⟨_, z⟩, _⟩ => nomatch z) (fy.stay st.stay)
      · exact h.elim
    · exact h.elim
theorem isLst_ok {x : Rv} {g : Rv → M Rv} {O : Addr → Prop} {Q : VK} (h : Aft K α σ O H F W (M.bnd (isLst x) g r) Q) : ∃ ds, peek r x = some (.list ds) ∧ Aft K α σ O H F W (g x r) Q := by
  unfold M.bnd isLst at h
  cases ep : peek r x with
  | none => simp only [ep] at h; exact h.elim
  | some d =>
    cases d with
    | list ds => simp only [ep] at h; exact ⟨ds, rfl, h⟩
    | _ => simp only [ep] at h; exact h.elim
theorem tL_bnd {f : M (List PyData)} {g : List PyData → M Rv} {Q : VK} (S : SR K α r σ H F) (h : Aft K α σ (Own α r σ) H F W (M.bnd f g r) Q) :
    tL K α W f σ H fun vs H1 => ∃ r1 F1 ds, SR K α r1 σ H1 F1 ∧ Step (Own α r σ) H F H1 F1 (Own α r1 σ) ∧ FrAll K H1 F1 vs ds ∧ Aft K α σ (Own α r1 σ) H1 F1 W (g ds r1) Q := by
  refine ⟨r, F, S, ?_⟩
  unfold M.bnd at h
  cases e : f r with
  | ok x r1 =>
    rw [e] at h
    exact fun v H1 F1 a b c => ⟨r1, F1, x, a, b, c, h.step b fun _ z => z⟩
  | ex x r1 => rw [e] at h; exact h
  | no => rw [e] at h; exact h.elim
theorem mut_ok {ro : V → List V → Hp → VK → Prop} {up : List PyData → List PyData → Option (List PyData × PyData)} (hm : MutR K ro up) {i : Nat} {g : M (List PyData)} {Q : VK} (h : tE K α W (mutE i up g) σ H Q) :
    tBM K "list" ro (tE K α W (nmE i)) (tL K α W g) σ H Q := by
  obtain ⟨r, F, S, h⟩ := h
  refine tE_mono (tE_bnd S h) fun x H1 ⟨r1, F1, x1, S1, st1, t1, h1⟩ => ?_
  obtain ⟨ds, ep, h2⟩ := isLst_ok h1
  obtain ⟨a, xs, e, hs, _⟩ := (peek_rel S1 t1 ep).list
  subst e
  refine ⟨.inl ⟨rfl, xs, hs⟩, tL_mono (tL_bnd S1 h2) fun vs H2 ⟨r2, F2, as, S2, st2, fr, h3⟩ => ?_⟩
  exact mutF_ok hm S2 (t1.step st2 fun _ z => z) fr h3
theorem mut0_ok {ro : V → List V → Hp → VK → Prop} {up : List PyData → List PyData → Option (List PyData × PyData)} (hm : MutR K ro up) {i : Nat} {Q : VK} (h : tE K α W (mutE i up nilL) σ H Q) :
    tBM0 K "list" ro (tE K α W (nmE i)) σ H Q := by
  obtain ⟨r, F, S, h⟩ := h
  refine tE_mono (tE_bnd S h) fun x H1 ⟨r1, F1, x1, S1, st1, t1, h1⟩ => ?_
  obtain ⟨ds, ep, h2⟩ := isLst_ok h1
  obtain ⟨a, xs, e, hs, _⟩ := (peek_rel S1 t1 ep).list
  subst e
  exact ⟨.inl ⟨rfl, xs, hs⟩, mutF_ok hm S1 t1 .nil h2⟩
def uApp (ds as : List PyData) : Option (List PyData × PyData) := match as with
  | [d] => if ds.length < sizeLine then some (ds ++ [d], .none) else none
  | _ => none
theorem m_app : MutR K rAppend uApp := fun H F a xs vs ds as ds' e Q hH fx fv h q => by
  unfold uApp at h
  split at h
  · obtain ⟨h1, h2⟩ := opt_if h
    cases h2
    match vs, fv with
    | [v], .cons f1 .nil => exact ⟨a, xs, v, rfl, rfl, hH, by rw [fx.len]; exact h1, q _ _ .non (fx.app (.cons f1 .nil))⟩
  · cases h
def uPop0 (ds as : List PyData) : Option (List PyData × PyData) := match as with
  | [] => ds[ds.length - 1]?.map fun e => (ds.dropLast, e)
  | _ => none
theorem FrAll.dropLast {v : List V} {d : List PyData} (h : FrAll K H F v d) : FrAll K H F v.dropLast d.dropLast := by
  rw [List.dropLast_eq_take, List.dropLast_eq_take, h.len]
  exact h.take _
theorem m_pop0 : MutR K rPop uPop0 := fun H F a xs vs ds as ds' e Q hH fx fv h q => by
  unfold uPop0 at h
  split at h
  · obtain ⟨w, h1, h2⟩ := Option.map_eq_some_iff.mp h
    cases h2
    cases fv
    obtain ⟨x, gx, f1⟩ := fx.get h1
    exact ⟨a, xs, x, rfl, rfl, hH, by rw [fx.len]; exact gx, q _ _ f1 fx.dropLast⟩
  · cases h
def uPop (ds as : List PyData) : Option (List PyData × PyData) := match as with
  | [.int i] => if -(2 ^ 63) ≤ i ∧ i < 2 ^ 63 then (ixN ds.length i).bind fun k => ds[k]?.map fun e => (ds.eraseIdx k, e) else none
  | _ => none
theorem m_pop : MutR K rPopAt uPop := fun H F a xs vs ds as ds' e Q hH fx fv h q => by
  unfold uPop at h
  split at h
  · split at h
    · rename_i hi
      obtain ⟨k, h1, h2⟩ := Option.bind_eq_some_iff.mp h
      obtain ⟨w, h3, h4⟩ := Option.map_eq_some_iff.mp h2
      cases h4
      match vs, fv with
      | [_], .cons (.int i) .nil =>
        obtain ⟨x, gx, f1⟩ := fx.get h3
        exact ⟨a, xs, i, k, x, rfl, rfl, hH, hi.1, hi.2, by rw [fx.len]; exact (ixN_seq h1).1, gx, q _ _ f1 (fx.erase k)⟩
    · cases h
  · cases h
def uRev (ds as : List PyData) : Option (List PyData × PyData) := match as with
  | [] => some (ds.reverse, .none)
  | _ => none
theorem m_rev : MutR K rReverse uRev := fun H F a xs vs ds as ds' e Q hH fx fv h q => by
  unfold uRev at h
  split at h
  · cases h; cases fv; exact ⟨a, xs, rfl, rfl, hH, q _ _ .non fx.rev⟩
  · cases h
def uClr (ds as : List PyData) : Option (List PyData × PyData) := match as with
  | [] => some ([], .none)
  | _ => none
theorem m_clr : MutR K rClear uClr := fun H F a xs vs ds as ds' e Q hH fx fv h q => by
  unfold uClr at h
  split at h
  · cases h; cases fv; exact ⟨a, xs, rfl, rfl, hH, q _ _ .non .nil⟩
  · cases h
/-- xs.extend(ys), ys any list -/
def rExtX (K : KX) : V → List V → Hp → VK → Prop := fun x vs H Q => ∃ l b xs zs, x = .ref l ∧ vs = [.ref b] ∧ H l = some (.lst xs) ∧ Lx K H b zs ∧ xs.length + zs.length ≤ sizeLine ∧ Q .non (upd H l (.lst (xs ++ zs)))
theorem mt_extX {X : Cx} : MtM X "list.extend" (rExtX (kx X ε)) := fun pins s σ H x vs v us Q I rx rv h => by
  obtain ⟨l, b, xs, zs, rfl, rfl, hH, hB, hz, q⟩ := h
  cases rx
  obtain ⟨u, rfl, ru⟩ := rv.one
  cases ru
  obtain ⟨_, its, n, r1, _, e1⟩ := I.lstM hH
  obtain ⟨its2, n2, r2, _, e2⟩ := lx_obj I hB
  have l1 := r1.length
  have l2 := r2.length
  have small : its.toArray.size + its2.toArray.size ≤ sizeLine := by simp only [List.size_toArray]; omega
  have nl : ¬ (!its.toArray.isEmpty && Builtin.List.listTooLong (its.toArray.size + its2.toArray.size)) = true := by
    rw [notLongL small]
    simp
  have sl : its2.length ≤ sizeLine := by omega
  refine call_meets F.slot_list_extend ⟨_, e1, rfl⟩ F.entry_list_extend (F.args_list_extend_2 _ _) (AutoSeq1.list_extend_list_list_0 l its.toArray n b its2.toArray n2 nl (by simp only [List.size_toArray]; omega) (by simp only [List.size_toArray] at *; omega)) ⟨e1, e2, ?_⟩
  exact ⟨.non, _, I.lset (its' := its ++ its2) hH e1 (by simp) (Vals.append r1 r2) (by rw [List.length_append]; omega), rfl, q⟩
def uExt (ds as : List PyData) : Option (List PyData × PyData) := match as with
  | [.list es] => if ds.length + es.length ≤ sizeLine then some (ds ++ es, .none) else none
  | _ => none
theorem m_ext : MutR K (rExtX K) uExt := fun H F a xs vs ds as ds' e Q hH fx fv h q => by
  unfold uExt at h
  split at h
  · obtain ⟨h1, h2⟩ := opt_if h
    cases h2
    match vs, fv with
    | [v], .cons f1 .nil =>
      obtain ⟨b, ys, rfl, l1, f2⟩ := f1.lx
      exact ⟨a, b, xs, ys, rfl, rfl, hH, l1, by rw [fx.len, f2.len]; exact h1, q _ _ .non (fx.app f2)⟩
  · cases h
section
variable {X : Cx} {e : Expr} {g : M (List PyData)} {i : Nat} {ro : V → List V → Hp → VK → Prop} {up : List PyData → List PyData → Option (List PyData × PyData)}
theorem ev_mut (h : PE X e (tBM (kx X ε) "list" ro (tE (kx X ε) α W (nmE i)) (tL (kx X ε) α W g))) (hu : MutR (kx X ε) ro up) : PE X e (tE (kx X ε) α W (mutE i up g)) := pe_weak h fun _ _ _ q => mut_ok hu q
theorem ev_mut0 (h : PE X e (tBM0 (kx X ε) "list" ro (tE (kx X ε) α W (nmE i)))) (hu : MutR (kx X ε) ro up) : PE X e (tE (kx X ε) α W (mutE i up nilL)) := pe_weak h fun _ _ _ q => mut0_ok hu q
end
/-! reading methods of lists: xs.count(y) -/
def metE (g : PyData → List PyData → Option Rv) (f : M Rv) (a : M (List PyData)) : M Rv := M.bnd f fun x => M.bnd (isLst x) fun x => M.bnd a fun as r => match peek r x with
  | some d => match g d as with
    | some z => .ok z r
    | none => .no
  | none => .no
def MetR (K : KX) (ro : V → List V → Hp → VK → Prop) (g : PyData → List PyData → Option Rv) : Prop :=
  ∀ (H : Hp) (F : Addr → Prop) (x : V) (vs : List V) (d : PyData) (as : List PyData) (z : Rv) (Q : VK), Pk K H F x d → FrAll K H F vs as → g d as = some z → Fin K H F z Q → ro x vs H Q
theorem met_ok {ro : V → List V → Hp → VK → Prop} {gm : PyData → List PyData → Option Rv} (hm : MetR K ro gm) {f : M Rv} {g : M (List PyData)} {Q : VK} (h : tE K α W (metE gm f g) σ H Q) :
    tBM K "list" ro (tE K α W f) (tL K α W g) σ H Q := by
  obtain ⟨r, F, S, h⟩ := h
  refine tE_mono (tE_bnd S h) fun x H1 ⟨r1, F1, x1, S1, st1, t1, h1⟩ => ?_
  obtain ⟨ds, ep, h2⟩ := isLst_ok h1
  obtain ⟨a, xs, e, hs, _⟩ := (peek_rel S1 t1 ep).list
  subst e
  refine ⟨.inl ⟨rfl, xs, hs⟩, tL_mono (tL_bnd S1 h2) fun vs H2 ⟨r2, F2, as, S2, st2, fr, h3⟩ => ?_⟩
  cases e1 : peek r2 x1 with
  | none => simp only [e1] at h3; exact h3.elim
  | some d =>
    simp only [e1] at h3
    cases e2 : gm d as with
    | none => simp only [e2] at h3; exact h3.elim
    | some z =>
      simp only [e2] at h3
      exact hm H2 F2 _ vs d as z Q (peek_rel S2 (t1.step st2 fun _ z => z) e1) fr e2 (Aft.fin S2 h3)
def flatD : PyData → Bool
  | .none => true
  | .bool _ => true
  | .int _ => true
  | .str _ => true
  | _ => false
def flatV' : PyData → V
  | .bool b => .bl b
  | .int i => .int i
  | .str x => .str x
  | _ => .non
theorem flat_fr {v : V} {d : PyData} (h : Fr K H F v d) (e : flatD d = true) : flatV v = true ∧ v = flatV' d := by
  cases h <;> first | exact ⟨rfl, rfl⟩ | cases e
theorem flat_eq {v w : V} {d e : PyData} (h : Fr K H F v d) (h' : Fr K H F w e) (fd : flatD d = true) (fe : flatD e = true) : eqV v w = PyData.eqv d e := by
  have h1 := (flat_fr h fd).2
  have h2 := (flat_fr h' fe).2
  subst h1 h2
  clear h h'
  cases d <;> first | (cases fd; done) | (cases e <;> first | (cases fe; done) | rfl)
theorem FrAll.flat {v : List V} {d : List PyData} (h : FrAll K H F v d) (e : d.all flatD = true) : v.all flatV = true := by
  induction d generalizing v with
  | nil => cases h; rfl
  | cons d ds ih =>
    cases h with
    | cons h1 h2 =>
      have e := Bool.and_eq_true_iff.mp (show (flatD d && ds.all flatD) = true from e)
      exact Bool.and_eq_true_iff.mpr ⟨(flat_fr h1 e.1).1, ih h2 e.2⟩
theorem FrAll.count {v : List V} {d : List PyData} {w : V} {e : PyData} (h : FrAll K H F v d) (h' : Fr K H F w e) (fd : d.all flatD = true) (fe : flatD e = true) : v.countP (fun y => eqV y w) = d.countP fun z => PyData.eqv z e := by
  induction d generalizing v with
  | nil => cases h; rfl
  | cons d ds ih =>
    cases h with
    | cons h1 h2 =>
      have fd := Bool.and_eq_true_iff.mp (show (flatD d && ds.all flatD) = true from fd)
      rw [List.countP_cons, List.countP_cons, ih h2 fd.2, flat_eq h1 h' fd.1 fe]
def rCntV (K : KX) : V → List V → Hp → VK → Prop := fun x ys H Q => ∃ p xs y, x = .ref p ∧ ys = [y] ∧ Lx K H p xs ∧ flatV y = true ∧ xs.all flatV = true ∧ Q (.int (xs.countP fun z => eqV z y : Nat)) H
def absEq (y : V) (u : Value) : Bool := match absV u with
  | some z => eqV z y
  | none => false
theorem count_vals (y : V) : ∀ {xs : List V} {us : List Value}, Vals xs us → us.countP (absEq y) = xs.countP fun z => eqV z y
  | _, _, .nil => rfl
  | _, _, .cons r t => by
    rw [List.countP_cons, List.countP_cons, count_vals y t]
    unfold absEq
    rw [r.abs]
theorem vals_mem : ∀ {xs : List V} {us : List Value} {u : Value}, Vals xs us → u ∈ us → ∃ x ∈ xs, RelV x u
  | _, _, _, .nil, h => nomatch h
  | _, _, _, .cons r t, h => (List.mem_cons.mp h).elim (fun e => ⟨_, List.mem_cons_self, e ▸ r⟩) fun h => by
    obtain ⟨x, h1, h2⟩ := vals_mem t h
    exact ⟨x, List.mem_cons_of_mem _ h1, h2⟩
theorem mt_cntV {X : Cx} : MtR X "list.count" (rCntV (kx X ε)) := fun pins s σ H x ys v us Q I rx ry h => by
  obtain ⟨p, xs, y, rfl, rfl, hl, fy, fx, q⟩ := h
  cases rx
  obtain ⟨u, rfl, ru⟩ := ry.one
  obtain ⟨its, n, rv, _, ho⟩ := lx_obj I hl
  refine call_meets PySem.F.slot_list_count ⟨_, ho, rfl⟩ PySem.F.entry_list_count (PySem.F.args_list_count_2 _ _) (SeqAt.list_countAt p its.toArray n none #[] u (absEq y)) ⟨ho, fun z hz => ?_, ?_⟩
  · obtain ⟨x, h1, h2⟩ := vals_mem rv (by simpa using hz)
    have e : absEq y z = eqV x y := by unfold absEq; rw [h2.abs]
    rw [e]
    exact eqAt_V h2 ru (List.all_eq_true.mp fx x h1) fy
  · refine ⟨.int (xs.countP fun z => eqV z y : Nat), H, I.tok _, ⟨s.toks, ?_⟩, q⟩
    rw [← count_vals y rv]
def gCnt (d : PyData) (as : List PyData) : Option Rv := match d, as with
  | .list ds, [e] => if (ds.all flatD && flatD e) = true then some (vI (ds.countP fun z => PyData.eqv z e : Nat)) else none
  | _, _ => none
theorem o_cnt : MetR K (rCntV K) gCnt := fun H F x vs d as z Q px fr h q => by
  unfold gCnt at h
  split at h
  · obtain ⟨h1, rfl⟩ := opt_if h
    obtain ⟨f1, f2⟩ := Bool.and_eq_true_iff.mp h1
    obtain ⟨a, xs, rfl, l, fx⟩ := px.lx
    match vs, fr with
    | [v], .cons fv .nil => exact ⟨a, xs, v, rfl, rfl, l, (flat_fr fv f2).1, fx.flat f1, by rw [fx.count fv f1 f2]; exact q.val _ _ rfl (.int _)⟩
  · cases h
theorem ev_met {X : Cx} {e : Expr} {f : M Rv} {g : M (List PyData)} {ro : V → List V → Hp → VK → Prop} {gm : PyData → List PyData → Option Rv} (h : PE X e (tBM (kx X ε) "list" ro (tE (kx X ε) α W f) (tL (kx X ε) α W g))) (hm : MetR (kx X ε) ro gm) : PE X e (tE (kx X ε) α W (metE gm f g)) := pe_weak h fun _ _ _ q => met_ok hm q
/-! ### xs[i] = e -/
def stoF (d : PyData) (o i : Rv) (r : En) : Out := match o with
  | .at l => match look r l, peek r i with
    | some (.live (.lst ds)), some (.int k) => match ixN ds.length k with
      | some n => .nx (setLo r l (.live (.lst (ds.set n d))))
      | none => .no
    | _, _ => .no
  | _ => .no
def stoS (f : M Rv) (j : Nat) (g : M Rv) : Stm := ofM f fun x => ofM (frz x) fun d => ofM (nmE j) fun o => ofM g fun i => stoF d o i
theorem stoF_ok {d : PyData} {o i : Rv} {v vo vi : V} {D : Ends} {O : Addr → Prop} (S : SR K α r σ H F) (fv : Fr K H F v d) (t1 : TR K α r σ H F o vo) (t2 : TR K α r σ H F i vi) (ho : ∀ a, Own α r σ a → O a) (h : AftS K α O H F W (stoF d o i r) D) :
    rSetL vo vi v H fun H3 => D.nx σ H3 := by
  cases o with
  | val d => exact h.elim
  | own o => exact h.elim
  | «at» l =>
    unfold stoF at h
    simp only at h
    split at h
    · rename_i ds k q1 q2
      split at h
      · rename_i n q3
        obtain ⟨a, rfl, ha⟩ := t1
        obtain ⟨a', u, e1, h1, xs, rfl, h2⟩ := content_rel S (x := .at l) (b := .live (.lst ds)) ⟨a, rfl, ha⟩ q1
        cases e1
        have e := (peek_rel S t2 q2).int
        subst e
        obtain ⟨S', st, ow⟩ := S.write q1 ha (o' := .lst (ds.set n d)) (u' := .lst (xs.set n v)) ⟨_, rfl, h2.set fv n⟩
        exact ⟨a, xs, k, n, rfl, rfl, h1, by rw [h2.len]; exact q3, h σ _ F S' (st.widen ho fun z q => .inl q)⟩
      · exact h.elim
    · exact h.elim
theorem sto_ok {f : M Rv} {j : Nat} {g : M Rv} {D : Ends} (h : tS K α W (stoS f j g) D σ H) : tAsg (tE K α W f) (gSub (tE K α W (nmE j)) (tE K α W g) rSetL) D σ H := by
  obtain ⟨r, F, S, h⟩ := h
  refine tE_mono (ofM_E S h) fun v H1 ⟨r1, F1, x, S1, st1, t1, h1⟩ => ?_
  unfold ofM at h1
  cases ez : frz x r1 with
  | no => simp only [ez] at h1; exact h1.elim
  | ex w r5 => exact absurd ez frz_ex
  | ok d r2 =>
    simp only [ez] at h1
    obtain ⟨F2, S2, fv, st2, _⟩ := frz_ok S1 t1 ez
    have h2 : AftS K α (Own α r2 σ) H1 F2 W (ofM (nmE j) (fun o => ofM g fun i => stoF d o i) r2) D := AftS.step h1 st2 fun _ z => z
    refine tE_mono (ofM_E S2 h2) fun vo H3 ⟨r3, F3, o, S3, st3, t3, h3⟩ => ?_
    have h3' : AftS K α (Own α r3 σ) H3 F3 W (ofM g (fun i => stoF d o i) r3) D := AftS.step h3 (Step.refl (O' := Own α r3 σ) fun _ z => .inl z) fun _ z => z
    refine tE_mono (ofM_E S3 h3') fun vi H4 ⟨r4, F4, i, S4, st4, t4, h4⟩ => ?_
    exact stoF_ok S4 (Fr.stay st4.stay (Fr.stay st3.stay fv)) (t3.step st4 fun _ z => .inl z) t4 (fun _ z => .inl z) h4
theorem sv_sto {X : Cx} {e : Expr} {f g : M Rv} {j : Nat} {pos : Pos} {tg : Expr} (he : PE X e (tE K α W f)) (hg : PG X tg (gSub (tE K α W (nmE j)) (tE K α W g) rSetL)) (hs : swapsWithSole [tg] e pos.line X.env = pure false := by rfl) (hw : swappedStores [tg] e X.env = pure none := by rfl)
    (h1 : (assignEach [tg] X.env).map (·.2) = [assign tg X.env] := by rfl) : PS X (.Assign [tg] e pos) (tS K α W (stoS f j g)) := ps_weak (ps_asg he hg hs hw h1) fun _ _ _ q => sto_ok q
/-! ### x[a:b] -/
def optI (f : Option (M Rv)) : M (Option Int) := match f with
  | none => M.ret none
  | some f => M.bnd f fun x r => match peek r x with
    | some (.int i) => .ok (some i) r
    | _ => .no
def cutD (xs : List PyData) (lo hi : Option Int) : List PyData := (xs.drop (HT.sIx xs.length 0 lo)).take (HT.sIx xs.length xs.length hi - HT.sIx xs.length 0 lo)
def gSl (d : PyData) (lo hi : Option Int) : Option Rv := match d with
  | .list ds => some (.own (.lst (cutD ds lo hi)))
  | .tuple ds => some (.val (.tuple (cutD ds lo hi)))
  | .str z => if z.length ≤ sizeLine then some (vS (cutS z lo hi)) else none
  | _ => none
def slE (f : M Rv) (lo hi : Option (M Rv)) : M Rv := M.bnd f fun x => M.bnd (optI lo) fun l => M.bnd (optI hi) fun h r => match (peek r x).bind fun d => gSl d l h with
  | some z => .ok z r
  | none => .no
theorem FrAll.cut {xs : List V} {ds : List PyData} (h : FrAll K H F xs ds) (lo hi : Option Int) : FrAll K H F (cutV xs lo hi) (cutD ds lo hi) := by
  unfold cutV cutD
  rw [h.len]
  exact (h.drop _).take _
def tO' (K : KX) (α : List Addr) (W : L2.WX) (f : M (Option Int)) : TO := tB' K α W f
theorem tE_bndO {β : Type} {f : M Rv} {g : Rv → M β} {Q : β → Hp → Prop} (S : SR K α r σ H F) (h : AftB K α σ (Own α r σ) H F W (M.bnd f g r) Q) :
    tE K α W f σ H fun v H1 => ∃ r1 F1 x, SR K α r1 σ H1 F1 ∧ TR K α r1 σ H1 F1 x v ∧ AftB K α σ (Own α r1 σ) H1 F1 W (g x r1) Q := tE_mono (tE_bndB S h) fun v H1 ⟨r1, F1, x, a, b, c, d⟩ => ⟨r1, F1, x, a, c, d⟩
theorem optI_ok {f : M Rv} {Q : Option Int → Hp → Prop} (h : tB' K α W (optI (some f)) σ H Q) : tPart (tE K α W f) σ H Q := by
  obtain ⟨r, F, S, h⟩ := h
  refine tE_mono (tE_bndO S h) fun v H1 ⟨r1, F1, x, S1, t, h1⟩ => ?_
  split at h1
  · rename_i i q
    exact ⟨i, (peek_rel S1 t q).int, AftB.here S1 h1⟩
  · exact h1.elim
def rSlX (K : KX) : V → Option Int → Option Int → Hp → VK → Prop := fun x lo hi H Q => rSlL K x lo hi H Q ∨ rSlA K x lo hi H Q ∨ rSlS x lo hi H Q
theorem sl_any {X : Cx} : L2.SlR X (rSlX (kx X ε)) := sl_list.or (sl_tupA.or sl_str)
theorem o_sl {x : V} {d : PyData} {lo hi : Option Int} {z : Rv} {Q : VK} (px : Pk K H F x d) (h : gSl d lo hi = some z) (q : Fin K H F z Q) : rSlX K x lo hi H Q := by
  unfold gSl at h
  split at h
  · cases h
    obtain ⟨a, xs, rfl, e1, r1⟩ := px.list
    exact .inl ⟨a, xs, rfl, e1, fun p hp => q.new _ _ p rfl hp (r1.cut lo hi)⟩
  · cases h
    obtain ⟨a, xs, rfl, e1, r1⟩ := px.tup
    refine .inr (.inl ⟨a, xs, rfl, e1, fun w => ?_, fun _ p hp => q.tup _ _ p rfl hp (r1.cut lo hi)⟩)
    refine q.val _ _ rfl (.tup e1 ?_)
    have c := r1.cut lo hi
    have e : cutV xs lo hi = xs := by
      unfold cutV
      rw [w.1, w.2]
      simp
    rwa [e] at c
  · obtain ⟨h1, rfl⟩ := opt_if h
    have e := px.str
    subst e
    exact .inr (.inr ⟨_, rfl, h1, q.val _ _ rfl (.str _)⟩)
  · cases h
theorem tB_bndK {β γ : Type} {f : M β} {g : β → M γ} {P : Res γ → Prop} (hno : ¬ P .no) (S : SR K α r σ H F) (hex : ∀ x e, P (.ex x e) → AftX K α σ (Own α r σ) H F W x e) (h : P (M.bnd f g r)) {Q : β → Hp → Prop}
    (q : ∀ b H1 r1 F1, SR K α r1 σ H1 F1 → Step (Own α r σ) H F H1 F1 (Own α r1 σ) → P (g b r1) → Q b H1) : tB' K α W f σ H Q := by
  refine ⟨r, F, S, ?_⟩
  unfold M.bnd at h
  cases e : f r with
  | no => rw [e] at h; exact absurd h hno
  | ex z r1 => rw [e] at h; exact hex _ _ h
  | ok b r1 => rw [e] at h; exact fun H1 F1 S1 st => q b H1 r1 F1 S1 st h
theorem sl_ok {f : M Rv} {lo hi : Option (M Rv)} {tl th : TO} (hl : ∀ σ H Q, tB' K α W (optI lo) σ H Q → tl σ H Q) (hh : ∀ σ H Q, tB' K α W (optI hi) σ H Q → th σ H Q) {Q : VK} (h : tE K α W (slE f lo hi) σ H Q) : tSl (rSlX K) (tE K α W f) tl th σ H Q := by
  obtain ⟨r, F, S, h⟩ := h
  refine tE_mono (tE_bnd S h) fun x H1 ⟨r1, F1, x1, S1, st1, t1, h1⟩ => hl _ _ _ ?_
  refine tB_bndK (P := fun z => Aft K α σ (Own α r1 σ) H1 F1 W z Q) (fun z => z) S1 (fun _ _ z => z) h1 fun l H2 r2 F2 S2 st2 h2 => hh _ _ _ ?_
  have h2 := h2.step st2 fun _ z => z
  refine tB_bndK (P := fun z => Aft K α σ (Own α r2 σ) H2 F2 W z Q) (fun z => z) S2 (fun _ _ z => z) h2 fun u H3 r3 F3 S3 st3 h3 => ?_
  have h3 := h3.step st3 fun _ z => z
  split at h3
  · rename_i z q
    obtain ⟨d, q1, q2⟩ := Option.bind_eq_some_iff.mp q
    exact o_sl (peek_rel S3 ((t1.step st2 fun _ z => z).step st3 fun _ z => z) q1) q2 (Aft.fin S3 h3)
  · exact h3.elim
section
variable {X : Cx} {e a b : Expr} {f fa fb : M Rv} {pos p2 : Pos}
theorem ev_sl (he : PE X e (tE (kx X ε) α W f)) : PE X (.Subscript e (.Slice none none none p2) pos) (tE (kx X ε) α W (slE f none none)) := pe_weak (pe_slice sl_any he po_none po_none) fun _ _ _ q => sl_ok (fun _ _ _ z => tB_ret z) (fun _ _ _ z => tB_ret z) q
theorem ev_slL (he : PE X e (tE (kx X ε) α W f)) (ha : PE X a (tE (kx X ε) α W fa)) : PE X (.Subscript e (.Slice (some a) none none p2) pos) (tE (kx X ε) α W (slE f (some fa) none)) := pe_weak (pe_slice sl_any he (po_some ha) po_none) fun _ _ _ q => sl_ok (fun _ _ _ z => optI_ok z) (fun _ _ _ z => tB_ret z) q
theorem ev_slH (he : PE X e (tE (kx X ε) α W f)) (hb : PE X b (tE (kx X ε) α W fb)) : PE X (.Subscript e (.Slice none (some b) none p2) pos) (tE (kx X ε) α W (slE f none (some fb))) := pe_weak (pe_slice sl_any he po_none (po_some hb)) fun _ _ _ q => sl_ok (fun _ _ _ z => tB_ret z) (fun _ _ _ z => optI_ok z) q
theorem ev_slLH (he : PE X e (tE (kx X ε) α W f)) (ha : PE X a (tE (kx X ε) α W fa)) (hb : PE X b (tE (kx X ε) α W fb)) : PE X (.Subscript e (.Slice (some a) (some b) none p2) pos) (tE (kx X ε) α W (slE f (some fa) (some fb))) := pe_weak (pe_slice sl_any he (po_some ha) (po_some hb)) fun _ _ _ q => sl_ok (fun _ _ _ z => optI_ok z) (fun _ _ _ z => optI_ok z) q
end
end Mi

/-! Mi16.lean -/
set_option Elab.async false
set_option linter.all false
set_option maxRecDepth 100000
/-! constants of the top; two names at once; repeated lists; ranges as lists -/
namespace Mi
open PySem L2 PySem.Spec PyProof.Rows
variable {K : KX} {α : List Addr} {r r' : En} {σ : L2.St} {H H' : Hp} {F F' : Addr → Prop}
theorem u65 {A : Around} {k : Nat} (hr : Room k A) : A.units + 65 < cLine := by have := hr.un; omega
theorem ev_gint {X : Cx} {x : Str} {pos : Pos} {i : Int} (hg : Gl X x) (h : ∃ t, X.mg x = some (.int i t)) (hd : (x == ("__debug__" : Str)) = false := by decide) : PE X (.Name x pos) (tE K α W (kE (.int i))) := by
  obtain ⟨t, h⟩ := h
  exact ev_k (v := .int i) (pe_glob hg h ⟨t, rfl⟩ hd) fun _ _ => .int i
theorem ev_gstr {X : Cx} {x : Str} {pos : Pos} {i : Str} (hg : Gl X x) (h : ∃ t, X.mg x = some (.str i t)) (hd : (x == ("__debug__" : Str)) = false := by decide) : PE X (.Name x pos) (tE K α W (kE (.str i))) := by
  obtain ⟨t, h⟩ := h
  exact ev_k (v := .str i) (pe_glob hg h ⟨t, rfl⟩ hd) fun _ _ => .str i
/-! a, b = x, y -/
def deS (x : Rv) : M Rv := fun r => match x with
  | .at (.slot j) => match frz (.at (.slot j)) r with
    | .ok d r1 => .ok (.val d) r1
    | _ => .no
  | _ => .ok x r
def slOf (r : En) : Rv → Option Sl
  | .val d => some (.val d)
  | .own o => some (.own o)
  | .at (.obj k) => match r.os[k]? with
    | some (.live _) => some (.bor k)
    | some (.dead d) => some (.val d)
    | none => none
  | .at (.slot _) => none
def parS (i j : Nat) (g : M (List Rv)) : Stm := fun r => match g r with
  | .ok [x, y] r1 => match deS x r1 with
    | .ok x r2 => match deS y r2 with
      | .ok y r3 => match slOf r3 x, slOf r3 y with
        | some s, some t => .nx (put (put r3 i s) j t)
        | _, _ => .no
      | _ => .no
    | _ => .no
  | .ex e r1 => .ex e r1
  | _ => .no
theorem deS_ok (S : SR K α r σ H F) {x y : Rv} {v : V} (t : TR K α r σ H F x v) (e : deS x r = .ok y r') : ∃ F', SR K α r' σ H F' ∧ TR K α r' σ H F' y v ∧ Step (Own α r σ) H F H F' (Own α r' σ) ∧
    (∀ a, Own α r' σ a → Own α r σ a) ∧ ((∃ o, y = .own o) → x = y) := by
  have same : .ok x r = (.ok y r' : Res Rv) → ∃ F', SR K α r' σ H F' ∧ TR K α r' σ H F' y v ∧ Step (Own α r σ) H F H F' (Own α r' σ) ∧ (∀ a, Own α r' σ a → Own α r σ a) ∧ ((∃ o, y = .own o) → x = y) := fun e => by
    cases e; exact ⟨F, S, t, Step.refl fun _ z => z, fun _ z => z, fun _ => rfl⟩
  cases x with
  | val d => exact same e
  | own o => exact same e
  | «at» l =>
    cases l with
    | obj k => exact same e
    | slot j =>
      have e : (match frz (.at (.slot j)) r with
        | .ok d r1 => (.ok (.val d) r1 : Res Rv)
        | _ => .no) = .ok y r' := e
      split at e
      · rename_i d r1 q
        cases e
        obtain ⟨F', S', fr, st, ow⟩ := frz_ok S t q
        exact ⟨F', S', fr, st.widen (fun a z => z.elim id fun ⟨⟨_, z⟩, _⟩ => nomatch z) fun a z => .inl z, fun a z => ow a z, fun ⟨_, z⟩ => nomatch z⟩
      · cases e
theorem slOf_ok (S : SR K α r σ H F) {x : Rv} {v : V} {s : Sl} (t : TR K α r σ H F x v) (e : slOf r x = some s) : SlR K α H F s v ∧ (∀ o, s = .own o → x = .own o) ∧ (∀ o a, s = .own o → v = .ref a → ¬ F a ∧ ¬ Own α r σ a) := by
  cases x with
  | val d => cases e; exact ⟨t, nofun, nofun⟩
  | own o =>
    cases e
    obtain ⟨a, u, rfl, h1, h2, h3, h4⟩ := t
    exact ⟨⟨a, u, rfl, h1, h2⟩, fun o z => by cases z; rfl, fun o' a' _ z => by cases z; exact ⟨h3, h4⟩⟩
  | «at» l =>
    cases l with
    | slot j => cases e
    | obj k =>
      obtain ⟨a, rfl, ha⟩ := t
      have e : (match r.os[k]? with
        | some (.live _) => some (.bor k)
        | some (.dead d) => some (.val d)
        | none => none) = some s := e
      split at e
      · cases e; exact ⟨⟨a, rfl, ha⟩, nofun, nofun⟩
      · rename_i d q
        cases e
        obtain ⟨a', h1, h2⟩ := S.obj _ _ q
        have ha : α[k]? = some a := ha
        rw [h1] at ha; cases ha
        exact ⟨h2, nofun, nofun⟩
      · cases e
theorem par_ok {g : M (List Rv)} {i j : Nat} {D : Ends} (S : SR K α r σ H F) (h : AftS K α (Own α r σ) H F W (parS i j g r) D) :
    tR K α W g σ H fun vs H1 => ∃ v w, vs = [v, w] ∧ D.nx ((σ.set i (some v)).set j (some w)) H1 := by
  refine ⟨r, F, S, ?_⟩
  unfold parS at h
  cases e : g r with
  | no => rw [e] at h; exact h.elim
  | ex x r1 => rw [e] at h; exact h σ
  | ok xs r1 =>
    rw [e] at h
    intro vs H1 F1 S1 st1 t1
    obtain ⟨all, one⟩ := t1
    match xs, vs, all, h with
    | [x, y], [v, w], .cons tx (.cons ty .nil), h =>
      refine ⟨v, w, rfl, ?_⟩
      cases e1 : deS x r1 with
      | no => simp only [e1] at h; exact h.elim
      | ex z r2 => simp only [e1] at h; exact h.elim
      | ok x' r2 =>
        simp only [e1] at h
        cases e2 : deS y r2 with
        | no => simp only [e2] at h; exact h.elim
        | ex z r3 => simp only [e2] at h; exact h.elim
        | ok y' r3 =>
          simp only [e2] at h
          obtain ⟨F2, S2, tx2, st2, ow2, sx⟩ := deS_ok S1 tx e1
          obtain ⟨F3, S3, ty3, st3, ow3, sy⟩ := deS_ok S2 (ty.step st2 fun a z => z) e2
          have tx3 := tx2.step st3 fun a z => z
          cases e3 : slOf r3 x' with
          | none => simp only [e3] at h; exact h.elim
          | some s =>
            cases e4 : slOf r3 y' with
            | none => simp only [e3, e4] at h; exact h.elim
            | some t =>
              simp only [e3, e4] at h
              obtain ⟨rs, os, ns⟩ := slOf_ok S3 tx3 e3
              obtain ⟨rt, ot, nt⟩ := slOf_ok S3 ty3 e4
              have far : ∀ o o' a, s = .own o → v = .ref a → t = .own o' → w = .ref a → False := fun o o' a z1 z2 z3 z4 => by
                have ex : x = .own o := by rw [sx ⟨o, os o z1⟩]; exact os o z1
                have ey : y = .own o' := by rw [sy ⟨o', ot o' z3⟩]; exact ot o' z3
                have := one 0 1 o o' a (by simp [ex]) (by simp [z2]) (by simp [ey]) (by simp [z4])
                cases this
              have S4 := S3.put (i := i) rs ns
              have S5 := S4.put (i := j) rt fun o a z1 z2 => ⟨(nt o a z1 z2).1, fun z => (put_own z).elim (nt o a z1 z2).2 fun ⟨⟨o', z3⟩, z4⟩ => far o' o a z3 z4 z1 z2⟩
              have wide : ∀ a, Own α r1 σ a → OwnTs α r1 σ [x, y] [v, w] a := fun a z => .inl z
              have st12 := st1.trans (st2.widen wide fun a z => .inr (.inl (ow2 a z))) fun a z => z
              have st13 := st12.trans st3 fun a z => z
              refine h _ H1 F3 S5 ?_
              have fresh : ∀ (q : V) (u : Rv) (k : Nat) (a : Addr), (∃ o, [x, y][k]? = some (.own o)) → [v, w][k]? = some (.ref a) → OwnTs α r1 σ [x, y] [v, w] a := fun q u k a ⟨o, z1⟩ z2 => .inr ⟨k, o, z1, z2⟩
              have low : ∀ a, Own α (put (put r3 i s) j t) ((σ.set i (some v)).set j (some w)) a → OwnTs α r1 σ [x, y] [v, w] a := fun a z => by
                rcases put_own z with z | ⟨⟨o, z1⟩, z2⟩
                · rcases put_own z with z | ⟨⟨o, z1⟩, z2⟩
                  · exact .inl (ow2 a (ow3 a z))
                  · exact .inr ⟨0, o, by rw [sx ⟨o, os o z1⟩, os o z1]; rfl, by rw [z2]; rfl⟩
                · exact .inr ⟨1, o, by rw [sy ⟨o, ot o z1⟩, ot o z1]; rfl, by rw [z2]; rfl⟩
              exact ⟨st13.keep, st13.stay, st13.nfz, fun a z => st1.own a (low a z), st13.dom⟩
theorem sv_par {X : Cx} {i j : Nat} {x y : Str} {a b : Expr} {g : M (List Rv)} {px py pt pos : Pos} {kt k2 pt2} (hc : X.calm = true) (hN : X.N.Nodup) (hi : X.N[i]? = some x) (hj : X.N[j]? = some y) (hij : i ≠ j)
    (hx : X.env.scope.names.lookup x = some .local) (hy : X.env.scope.names.lookup y = some .local) (ha : PA X [a, b] (tR (kx X ε) α W g))
    (hw : swappedStores [.Tuple [.Name x px, .Name y py] kt pt] (.Tuple [a, b] k2 pt2) X.env = pure (some [x, y]) := by rfl)
    (hs : swapsWithSole [.Tuple [.Name x px, .Name y py] kt pt] (.Tuple [a, b] k2 pt2) pos.line X.env = pure false := by rfl) :
    PS X (.Assign [.Tuple [.Name x px, .Name y py] kt pt] (.Tuple [a, b] k2 pt2) pos) (tS (kx X ε) α W (parS i j g)) := ps_weak (ps_par hc hN hi hj hij hx hy ha hw hs) fun D σ H ⟨r, F, S, h⟩ => par_ok S h
end Mi

/-! Mi17.lean -/
set_option Elab.async false
set_option linter.all false
set_option maxRecDepth 100000
/-! lists repeated; ranges as lists; two sequences side by side; types -/
namespace Mi
open PySem L2 PySem.Spec PyProof.Rows
variable {K : KX} {α : List Addr} {r r' : En} {σ : L2.St} {H H' : Hp} {F F' : Addr → Prop}
theorem FrAll.repl {v : List V} {d : List PyData} (h : FrAll K H F v d) : ∀ n : Nat, FrAll K H F (List.replicate n v).flatten (List.replicate n d).flatten
  | 0 => .nil
  | n + 1 => by rw [List.replicate_succ, List.replicate_succ, List.flatten_cons, List.flatten_cons]; exact h.app (h.repl n)
def repE (f g : M Rv) : M Rv := M.bnd f fun x => M.bnd g fun y r => match x, peek r y with
  | .own (.lst ds), some (.int k) => if (-(2 ^ 63) ≤ k ∧ k < 2 ^ 63) ∧ ds.length * k.toNat ≤ sizeLine then .ok (.own (.lst (List.replicate k.toNat ds).flatten)) r else .no
  | _, _ => .no
theorem rep_ok {f g : M Rv} {Q : VK} (h : tE K α W (repE f g) σ H Q) : tOp rRep (tE K α W f) (tE K α W g) σ H Q := by
  obtain ⟨r, F, S, h⟩ := h
  refine tE_mono (tE_bnd S h) fun x H1 ⟨r1, F1, x1, S1, st1, t1, h1⟩ => ?_
  refine tE_mono (tE_bnd S1 h1) fun y H2 ⟨r2, F2, x2, S2, st2, t2, h2⟩ => ?_
  have t1' := t1.step st2 fun a z => .inl z
  split at h2
  · rename_i ds k q _
    split at h2
    · rename_i c
      obtain ⟨a, u, rfl, hH, ⟨xs, rfl, fr⟩, _, _⟩ := t1'
      exact ⟨a, k, xs, rfl, (peek_rel S2 t2 q).int, hH, c.1.1, c.1.2, by rw [fr.len]; exact c.2, fun p hp => (Aft.fin S2 h2).new _ _ p rfl hp (fr.repl _)⟩
    · exact h2.elim
  · exact h2.elim
theorem ev_rep {X : Cx} {a b : Expr} {pos : Pos} {f g : M Rv} (ha : PE X a (tE K α W f)) (hb : PE X b (tE K α W g)) : PE X (.BinOp a .Mult b pos) (tE K α W (repE f g)) := pe_weak (pe_op op_rep ha hb) fun _ _ _ q => rep_ok q
/-! list(range(n)) -/
def rgD (a b : Int) : List PyData := (List.range (b - a).toNat).map fun i => PyData.int (a + (i : Nat))
theorem rgD_fr (a b : Int) : FrAll K H F (rgV a b) (rgD a b) := by
  unfold rgV rgD
  induction List.range (b - a).toNat with
  | nil => exact .nil
  | cons x xs ih => exact .cons (.int _) ih
def lrgE (f : M Rv) : M Rv := M.bnd f fun x r => match peek r x with
  | some (.int j) => if 0 ≤ j ∧ j ≤ 16777216 then .ok (.own (.lst (rgD 0 j))) r else .no
  | _ => .no
theorem lrg_ok {f : M Rv} {Q : VK} (h : tE K α W (lrgE f) σ H Q) : tLstRg (tRg1 (tE K α W f)) σ H Q := by
  obtain ⟨r, F, S, h⟩ := h
  refine tE_mono (tE_bnd S h) fun x H1 ⟨r1, F1, x1, S1, st1, t1, h1⟩ => ?_
  split at h1
  · rename_i j q
    split at h1
    · rename_i c
      exact ⟨j, (peek_rel S1 t1 q).int, RgOk.of_le (Int.le_refl 0) c.2 (by decide) c.1, fun p hp => (Aft.fin S1 h1).new _ _ p rfl hp (rgD_fr 0 j)⟩
    · exact h1.elim
  · exact h1.elim
theorem ev_lrg {X : Cx} {a : Expr} {p p2 pos pos2 : Pos} {f : M Rv} (hc : X.calm = true) (hg : Gl X "list") (hm : X.mg "list" = none) (hg2 : Gl X "range") (hm2 : X.mg "range" = none) (ha : PE X a (tE K α W f)) (na : starEach [a] X.env = (false, eval a X.env) :: starEach [] X.env := by rfl)
    (na2 : starEach [Expr.Call (.Name "range" p2) [a] [] pos2] X.env = (false, eval (Expr.Call (.Name "range" p2) [a] [] pos2) X.env) :: starEach [] X.env := by rfl) :
    PE X (.Call (.Name "list" p) [.Call (.Name "range" p2) [a] [] pos2] [] pos) (tE K α W (lrgE f)) := pe_weak (pe_listRg hc hg hm (prg_1 hg2 hm2 ha na) na2) fun _ _ _ q => lrg_ok q
/-! zip(xs, ys) -/
def zipNth (x y : Rv) (r : En) (i : Nat) : Option (Option PyData) := match peek r x, peek r y with
  | some (.list ds), some (.list es) => some (match ds[i]?, es[i]? with
    | some d, some e => some (.tuple [d, e])
    | _, _ => none)
  | _, _ => none
def zipTh (x y : Rv) (r : En) (i : Nat) : Option (Option PyData) := match peek r x, peek r y with
  | some (.tuple ds), some (.tuple es) => some (match ds[i]?, es[i]? with
    | some d, some e => some (.tuple [d, e])
    | _, _ => none)
  | _, _ => none
def zipI (f g : M Rv) : M Src := M.bnd f fun x => M.bnd (hold x) fun x => M.bnd g fun y => M.bnd (hold y) fun y r => match peek r x, peek r y with
  | some (.list ds), some (.list es) => .ok ⟨zipNth x y, min ds.length es.length⟩ r
  | some (.tuple ds), some (.tuple es) => .ok ⟨zipTh x y, min ds.length es.length⟩ r
  | _, _ => .no
theorem src_zip {x y : Rv} {a b : Addr} {n : Nat} : SrcOk K α ⟨zipNth x y, n⟩ (Itz K a b) (fun H F => HV K α x (.ref a) H F ∧ HV K α y (.ref b) H F) where
  stay := fun _ _ _ _ h s => ⟨h.1.stay s, h.2.stay s⟩
  turn := fun r σ H F i o S h e => by
    have e : zipNth x y r i = some o := e
    unfold zipNth at e
    split at e
    · rename_i ds es q1 q2
      injection e with e
      subst e
      obtain ⟨a', xs, e1, h1, h2⟩ := (peek_rel S (h.1.tr r σ) q1).list
      cases e1
      obtain ⟨b', ys, e1, h3, h4⟩ := (peek_rel S (h.2.tr r σ) q2).list
      cases e1
      cases g : ds[i]? with
      | none => exact ⟨xs, ys, h1, h3, .inl (by rw [h2.len]; exact get_none g)⟩
      | some d =>
        cases g2 : es[i]? with
        | none => exact ⟨xs, ys, h1, h3, .inr (by rw [h4.len]; exact get_none g2)⟩
        | some e =>
          obtain ⟨u, gu, fu⟩ := h2.get g
          obtain ⟨w, gw, fw⟩ := h4.get g2
          refine ⟨⟨xs, ys, u, w, h1, h3, gu, gw⟩, fun z H' ⟨T, u', w', e1, e2, e3, e4, e5⟩ => .inr ⟨T, _, [d, e], e2, e3, e1, rfl, .cons ?_ (.cons ?_ .nil)⟩⟩
          · have := e4 xs h1; rw [gu] at this; cases this; exact fu
          · have := e5 ys h3; rw [gw] at this; cases this; exact fw
    · cases e
theorem src_zipT {x y : Rv} {a b : Addr} {n : Nat} : SrcOk K α ⟨zipTh x y, n⟩ (RZ.ItzT K a b) (fun H F => HV K α x (.ref a) H F ∧ HV K α y (.ref b) H F) where
  stay := fun _ _ _ _ h s => ⟨h.1.stay s, h.2.stay s⟩
  turn := fun r σ H F i o S h e => by
    have e : zipTh x y r i = some o := e
    unfold zipTh at e
    split at e
    · rename_i ds es q1 q2
      injection e with e
      subst e
      obtain ⟨a', xs, e1, h1, h2⟩ := (peek_rel S (h.1.tr r σ) q1).tup
      cases e1
      obtain ⟨b', ys, e1, h3, h4⟩ := (peek_rel S (h.2.tr r σ) q2).tup
      cases e1
      cases g : ds[i]? with
      | none => exact ⟨xs, ys, h1, h3, .inl (by rw [h2.len]; exact get_none g)⟩
      | some d =>
        cases g2 : es[i]? with
        | none => exact ⟨xs, ys, h1, h3, .inr (by rw [h4.len]; exact get_none g2)⟩
        | some e =>
          obtain ⟨u, gu, fu⟩ := h2.get g
          obtain ⟨w, gw, fw⟩ := h4.get g2
          refine ⟨⟨xs, ys, u, w, h1, h3, gu, gw⟩, fun z H' ⟨T, u', w', e1, e2, e3, e4, e5⟩ => .inr ⟨T, _, [d, e], e2, e3, e1, rfl, .cons ?_ (.cons ?_ .nil)⟩⟩
          · have := e4 xs h1; rw [gu] at this; cases this; exact fu
          · have := e5 ys h3; rw [gw] at this; cases this; exact fw
    · cases e
theorem tE_hold {f : M Rv} {g : Rv → M Src} {R : It → Hp → Prop} (S : SR K α r σ H F) (h : AftI K α σ (Own α r σ) H F W (M.bnd f (fun x => M.bnd (hold x) g) r) R) :
    tE K α W f σ H fun v H1 => ∃ r1 F1 x, SR K α r1 σ H1 F1 ∧ Stay H F H1 F1 ∧ HV K α x v H1 F1 ∧ AftI K α σ (Own α r1 σ) H1 F1 W (g x r1) R := by
  refine ⟨r, F, S, ?_⟩
  unfold M.bnd at h
  cases e : f r with
  | no => simp only [e] at h; exact h.elim
  | ex z r1 => simp only [e] at h; exact h
  | ok x r1 =>
    simp only [e] at h
    cases e2 : hold x r1 with
    | no => simp only [e2] at h; exact h.elim
    | ex z r2 => exact absurd e2 hold_ex
    | ok y r2 =>
      simp only [e2] at h
      intro v H1 F1 S1 st t
      obtain ⟨F2, S2, hv, st2⟩ := hold_ok S1 t e2
      have tot := st.trans st2 fun _ z => z
      refine ⟨r2, F2, y, S2, tot.stay, hv, ?_⟩
      cases e3 : g y r2 with
      | no => rw [e3] at h; exact h
      | ex z r3 => rw [e3] at h; exact AftX.step h tot fun _ z => z
      | ok s r3 => rw [e3] at h; exact fun J V H' F' S' st' => h J V H' F' S' (tot.trans st' fun _ z => z)
theorem zip_ok {f g : M Rv} {R : It → Hp → Prop} (h : tI K α W (zipI f g) σ H R) : RZ.iZipA K (tCons (tE K α W f) (tCons (tE K α W g) tNil)) σ H R := by
  obtain ⟨r, F, S, h⟩ := h
  refine tE_mono (tE_hold S h) fun v H1 ⟨r1, F1, x, S1, _, hx, h1⟩ => tE_mono (tE_hold S1 h1) fun w H2 ⟨r2, F2, y, S2, sy, hy, h2⟩ => ?_
  have hx := hx.stay sy
  split at h2
  · rename_i ds es q1 q2
    obtain ⟨a, xs, rfl, e1, _⟩ := (peek_rel S2 (hx.tr r2 σ) q1).list
    obtain ⟨b, ys, rfl, e2, _⟩ := (peek_rel S2 (hy.tr r2 σ) q2).list
    exact ⟨a, b, xs, ys, rfl, .inl ⟨e1, e2, h2 _ _ H2 F2 S2 (Step.refl fun _ z => z) src_zip ⟨hx, hy⟩⟩⟩
  · rename_i ds es q1 q2
    obtain ⟨a, xs, rfl, e1, _⟩ := (peek_rel S2 (hx.tr r2 σ) q1).tup
    obtain ⟨b, ys, rfl, e2, _⟩ := (peek_rel S2 (hy.tr r2 σ) q2).tup
    exact ⟨a, b, xs, ys, rfl, .inr ⟨e1, e2, h2 _ _ H2 F2 S2 (Step.refl fun _ z => z) src_zipT ⟨hx, hy⟩⟩⟩
  · exact h2.elim
theorem iv_zip {X : Cx} {a b : Expr} {f g : M Rv} {p pos tpos : Pos} {elts : List Expr} {kk : Nat} (hg : Gl X "zip") (hm : X.mg "zip" = none) (ha : PE X a (tE (kx X ε) α W f)) (hb : PE X b (tE (kx X ε) α W g))
    (hs : starEach [a, b] X.env = (false, eval a X.env) :: starEach [b] X.env := by rfl) (hs2 : starEach [b] X.env = (false, eval b X.env) :: starEach [] X.env := by rfl) (hpl : (backTo pos (starEach [b] X.env)).any (·.1) = false := by rfl) :
    PI X (.Tuple elts kk tpos) (.Call (.Name "zip" p) [a, b] [] pos) (tI (kx X ε) α W (zipI f g)) := pi_weak (RZ.pi_zipA hg hm (pa_cons ha (pa_cons hb pa_nil hs2) hs) hs hpl) fun _ _ _ q => zip_ok q
end Mi

/-! Mi18.lean -/
set_option Elab.async false
set_option linter.all false
set_option maxRecDepth 100000
/-! the types of data -/
namespace Mi
open PySem L2 PySem.Spec PyProof.Rows
variable {K : KX} {α : List Addr} {r r' : En} {σ : L2.St} {H H' : Hp} {F F' : Addr → Prop}
/-- a value that has the built-in type n -/
inductive TyD (K : KX) (H : Hp) : V → String → Prop where
  | non : TyD K H .non "NoneType"
  | bl (b) : TyD K H (.bl b) "bool"
  | int (i) : TyD K H (.int i) "int"
  | str (x) : TyD K H (.str x) "str"
  | lst {a : Addr} {xs : List V} : Rd H a (.lst xs) → TyD K H (.ref a) "list"
  | tup {a : Addr} {xs : List V} : Rd H a (.tup xs) → TyD K H (.ref a) "tuple"
  | dct {a : Addr} {ps : List (Key × V)} : H a = some (.dK ps) → TyD K H (.ref a) "dict"
  | klst {a : Addr} {o : Obj} : K.lookup a = some o → o.cls = .type "list" → TyD K H (.ref a) "list"
  | ktup {a : Addr} {o : Obj} : K.lookup a = some o → o.cls = .type "tuple" → TyD K H (.ref a) "tuple"
def tyN : PyData → Option String
  | .none => some "NoneType"
  | .bool _ => some "bool"
  | .int _ => some "int"
  | .str _ => some "str"
  | .list _ => some "list"
  | .tuple _ => some "tuple"
  | .dict ((.none, _) :: _) => none
  | .dict _ => some "dict"
theorem SqL.ty {a : Addr} {xs : List V} (h : SqL K H a xs) : TyD K H (.ref a) "list" := h.elim .lst fun ⟨_, _, _, h1, h2, _⟩ => .klst h1 h2
theorem SqT.ty {a : Addr} {xs : List V} (h : SqT K H a xs) : TyD K H (.ref a) "tuple" := h.elim .tup fun ⟨_, _, _, h1, h2, _⟩ => .ktup h1 h2
theorem Pk.ty {v : V} {d : PyData} {n : String} (h : Pk K H F v d) (e : tyN d = some n) : TyD K H v n := by
  cases d with
  | none => cases e; rw [h.non]; exact .non
  | bool b => cases e; rw [h.bl]; exact .bl b
  | int b => cases e; rw [h.int]; exact .int b
  | str b => cases e; rw [h.str]; exact .str b
  | list ds => cases e; obtain ⟨a, xs, rfl, h1, _⟩ := h.list; exact SqL.ty h1
  | tuple ds => cases e; obtain ⟨a, xs, rfl, h1, _⟩ := h.tup; exact SqT.ty h1
  | dict kvs =>
    have e2 : n = "dict" := by
      unfold tyN at e
      split at e <;> first | cases e | skip
      all_goals first | rfl | (rename_i q; cases q)
    subst e2
    have z := h.dead fun _ => nofun
    cases z with
    | dct h1 h2 _ _ => exact .dct h2
section
variable {X : Cx} {pins : List (Addr × Obj)} {s : Shared}
theorem TyD.is {v : V} {u : Value} {n : String} (I : Inv X pins σ H s) (rx : RelV v u) (t : TyD (kx X ε) H v n) : s.TypeIs u n ∧ (Value.type n == Value.type "builtin_function_or_method") = false := by
  cases t with
  | non => cases (show u = Value.none from rx); exact ⟨rfl, by decide +kernel⟩
  | bl b => cases (show u = Value.bool b from rx); exact ⟨rfl, by decide +kernel⟩
  | int i => obtain ⟨t, rfl⟩ := (show ∃ t, u = Value.int i t from rx); exact ⟨rfl, by decide +kernel⟩
  | str i => obtain ⟨t, rfl⟩ := (show ∃ t, u = Value.str i t from rx); exact ⟨rfl, by decide +kernel⟩
  | @lst a xs h =>
    cases (show u = Value.ref a from rx)
    obtain ⟨_, _, n, _, h1⟩ := (show ObjOk X.prog X.w H s.heap a (.lst xs) from h.ok I.hok)
    exact ⟨⟨_, h1, rfl⟩, by decide +kernel⟩
  | @tup a xs h =>
    cases (show u = Value.ref a from rx)
    obtain ⟨_, _, _, o, h1, h2, _⟩ := (show ObjOk X.prog X.w H s.heap a (.tup xs) from h.ok I.hok)
    exact ⟨⟨o, h1, h2⟩, by decide +kernel⟩
  | @dct a ps h =>
    cases (show u = Value.ref a from rx)
    obtain ⟨_, _, vs, _, o, es, ep, h1, h2, _⟩ := (show ObjOk X.prog X.w H s.heap a (.dK ps) from I.hok a _ h)
    exact ⟨⟨o, h1, h2.1⟩, by decide +kernel⟩
  | @klst a o h c => cases (show u = Value.ref a from rx); exact ⟨⟨o, I.kIn a o h, c⟩, by decide +kernel⟩
  | @ktup a o h c => cases (show u = Value.ref a from rx); exact ⟨⟨o, I.kIn a o h, c⟩, by decide +kernel⟩
def rTyD (K : KX) : List V → Hp → VK → Prop := fun xs H Q => ∃ x n, xs = [x] ∧ TyD K H x n ∧ Q (.ty n) H
theorem call_tyD : CallR X (.type "type") (rTyD (kx X ε)) := by
  intro pins s σ H xs us Q I r h
  obtain ⟨x, n, rfl, t, q⟩ := h
  cases r with
  | cons r rr =>
    cases rr
    obtain ⟨h1, h2⟩ := t.is I r
    exact call_type_of h1 h2 ⟨.ty n, H, I, rfl, q⟩
def MetaOk (n : String) : Prop := ∀ s' : Shared, s'.TypeIs (.type n) "type"
theorem meta_of {v : V} {n : String} (t : TyD K H v n) : MetaOk n := by
  cases t with
  | non => exact PySem.TypeEq.meta_NoneType
  | bl _ => exact PySem.TypeEq.meta_bool
  | int _ => exact PySem.TypeEq.meta_int
  | str _ => exact PySem.TypeEq.meta_str
  | lst _ => exact PySem.TypeEq.meta_list
  | tup _ => exact PySem.TypeEq.meta_tuple
  | dct _ => exact PySem.TypeEq.meta_dict
  | klst _ _ => exact PySem.TypeEq.meta_list
  | ktup _ _ => exact PySem.TypeEq.meta_tuple
theorem op_eqTyD : OpR X (compareOp .Eq) (fun x y H Q => ∃ m n, x = .ty m ∧ y = .ty n ∧ MetaOk m ∧ MetaOk n ∧ Q (.bl (decide (m = n))) H) := by
  intro pins s σ H x y v u Q I rx ry h
  obtain ⟨m, n, rfl, rfl, hm, hn, q⟩ := h
  cases (show v = Value.type m from rx)
  cases (show u = Value.type n from ry)
  by_cases e : m = n
  · subst e
    exact PySem.TypeEq.eq_type_same hm ⟨.bl true, H, I, rfl, by simpa using q⟩
  · exact PySem.TypeEq.eq_type_other hm hn (by rw [Bool.eq_false_iff]; intro z; rw [beq_iff_eq] at z; cases z; exact e rfl) ⟨.bl false, H, I, rfl, by simpa [e] using q⟩
end
def gTyEq (n : String) (d : PyData) : Option Rv := (tyN d).map fun m => .val (.bool (decide (m = n)))
theorem ty_ok {n : String} (hn : MetaOk n) {f : M Rv} {Q : VK} (h : tE K α W (unE (gTyEq n) f) σ H Q) :
    tOp (fun x y H Q => ∃ m n, x = .ty m ∧ y = .ty n ∧ MetaOk m ∧ MetaOk n ∧ Q (.bl (decide (m = n))) H) (tCB (rTyD K) (tCons (tE K α W f) tNil)) (tC (.ty n)) σ H Q := by
  obtain ⟨r, F, S, h⟩ := h
  refine tE_mono (tE_bnd S h) fun x H1 ⟨r1, F1, x1, S1, st1, t1, h1⟩ => ?_
  unfold op1 at h1
  cases e1 : peek r1 x1 with
  | none => simp only [e1] at h1; exact h1.elim
  | some d =>
    simp only [e1] at h1
    unfold gTyEq at h1
    cases e3 : tyN d with
    | none => rw [e3] at h1; exact h1.elim
    | some m =>
      rw [e3] at h1
      have t := (peek_rel S1 t1 e1).ty e3
      exact ⟨x, m, rfl, t, m, n, rfl, rfl, meta_of t, hn, (Aft.fin S1 h1).val _ _ rfl (.bl _)⟩
theorem ev_tyEq {X : Cx} {a : Expr} {p q q2 pos : Pos} {x : Str} {n : String} {f : M Rv} (hn : MetaOk n) (hg : Gl X "type") (hm : X.mg "type" = none) (hg2 : Gl X x) (hm2 : X.mg x = none) (hv : bootBuiltins x = some (.type n)) (ha : PE X a (tE (kx X ε) α W f))
    (h1 : x ≠ "__name__" := by decide) (h2 : (x == ("__debug__" : Str)) = false := by decide) (he : starEach [a] X.env = (false, eval a X.env) :: starEach [] X.env := by rfl) :
    PE X (.Compare (.Call (.Name "type" p) [a] [] q) [.Eq] [.Name x q2] pos) (tE (kx X ε) α W (unE (gTyEq n) f)) :=
  pe_weak (pe_cmpR op_eqTyD (pe_callTy call_tyD hg hm (by decide +kernel) (pa_cons ha pa_nil he) (he := he)) (pe_bltn (v := .ty n) hg2 hm2 hv rfl h1 h2) (nomark _)) fun _ _ _ q => ty_ok hn q
/-! isinstance(x, T) -/
theorem TyD.x {v : V} {n : String} (t : TyD K H v n) : TyX K H v (.type n) := by
  cases t with
  | non => exact .base .non
  | bl b => exact .base (.bl b)
  | int b => exact .base (.int b)
  | str b => exact .base (.str b)
  | lst h => exact h.elim (fun h => .base (.lst h)) fun ⟨o, h⟩ => .base (.frz h)
  | tup h => exact h.elim (fun h => .base (.tup h)) fun ⟨o, h⟩ => .fTuple h
  | dct h => exact .base (.dK h)
  | klst h c => exact .kList h c
  | ktup h c => exact .kTuple h c
def isN (m n : String) : Bool := decide (m = n) || (decide (m = "bool") && decide (n = "int"))
def IsiOk (K : KX) (n : String) : Prop := ∀ m, m ∈ ["NoneType", "bool", "int", "str", "list", "tuple", "dict"] → PySem.W.kitOne K (.type m) (.type n) = some (isN m n)
theorem isi_str : IsiOk K "str" := fun m h => by
  simp only [List.mem_cons, List.not_mem_nil, or_false] at h
  rcases h with rfl | rfl | rfl | rfl | rfl | rfl | rfl <;> rfl
theorem isi_int : IsiOk K "int" := fun m h => by
  simp only [List.mem_cons, List.not_mem_nil, or_false] at h
  rcases h with rfl | rfl | rfl | rfl | rfl | rfl | rfl <;> rfl
theorem isi_bool : IsiOk K "bool" := fun m h => by
  simp only [List.mem_cons, List.not_mem_nil, or_false] at h
  rcases h with rfl | rfl | rfl | rfl | rfl | rfl | rfl <;> rfl
def gIsi (n : String) (d : PyData) : Option Rv := (tyN d).map fun m => .val (.bool (isN m n))
theorem tyN_mem {d : PyData} {m : String} (e : tyN d = some m) : m ∈ ["NoneType", "bool", "int", "str", "list", "tuple", "dict"] := by
  cases d <;> try (cases e <;> simp)
  unfold tyN at e
  split at e <;> first | cases e | skip
  all_goals simp
theorem isi_ok {n : String} (hn : IsiOk K n) {f : M Rv} {Q : VK} (h : tE K α W (unE (gIsi n) f) σ H Q) : tCB (rIsi K) (tCons (tE K α W f) (tCons (tC (.ty n)) tNil)) σ H Q := by
  obtain ⟨r, F, S, h⟩ := h
  refine tE_mono (tE_bnd S h) fun x H1 ⟨r1, F1, x1, S1, st1, t1, h1⟩ => ?_
  unfold op1 at h1
  cases e1 : peek r1 x1 with
  | none => simp only [e1] at h1; exact h1.elim
  | some d =>
    simp only [e1] at h1
    unfold gIsi at h1
    cases e3 : tyN d with
    | none => rw [e3] at h1; exact h1.elim
    | some m =>
      rw [e3] at h1
      exact ⟨x, .ty n, .type m, .type n, isN m n, rfl, .ty n, ((peek_rel S1 t1 e1).ty e3).x, hn m (tyN_mem e3), (Aft.fin S1 h1).val _ _ rfl (.bl _)⟩
theorem ev_isi {X : Cx} {a : Expr} {p q2 pos : Pos} {x : Str} {n : String} {f : M Rv} (hn : IsiOk (kx X ε) n) (hg : Gl X "isinstance") (hm : X.mg "isinstance" = none) (hg2 : Gl X x) (hm2 : X.mg x = none) (hv : bootBuiltins x = some (.type n)) (ha : PE X a (tE (kx X ε) α W f))
    (h1 : x ≠ "__name__" := by decide) (h2 : (x == ("__debug__" : Str)) = false := by decide) (he : starEach [a, Expr.Name x q2] X.env = (false, eval a X.env) :: starEach [Expr.Name x q2] X.env := by rfl) (he2 : starEach [Expr.Name x q2] X.env = (false, eval (Expr.Name x q2) X.env) :: starEach [] X.env := by rfl)
    (hpl : (backTo pos (starEach [Expr.Name x q2] X.env)).any (·.1) = false := by rfl) : PE X (.Call (.Name "isinstance" p) [a, .Name x q2] [] pos) (tE (kx X ε) α W (unE (gIsi n) f)) :=
  pe_weak (pe_callB call_isi hg hm (by decide +kernel) (pa_cons ha (pa_cons (pe_bltn (v := .ty n) hg2 hm2 hv rfl h1 h2) pa_nil he2) he) (he := he) (hpl := hpl)) fun _ _ _ q => isi_ok hn q
end Mi

/-! Mi19.lean -/
set_option Elab.async false
set_option linter.all false
set_option maxRecDepth 100000
/-! dicts -/
namespace Mi
open PySem L2 PySem.Spec PyProof.Rows
variable {K : KX} {α : List Addr} {r r' : En} {σ : L2.St} {H H' : Hp} {F F' : Addr → Prop}
abbrev DRel (K : KX) (H : Hp) (F : Addr → Prop) : List (Key × V) → List (Key × PyData) → Prop := Paired fun (p : Key × V) (q : Key × PyData) => p.1 = q.1 ∧ Fr K H F p.2 q.2
def keyOf : PyData → Option Key
  | .int i => some (.inl i)
  | .str x => some (.inr x)
  | _ => none
def valD (kvs : List (Key × PyData)) (k : Key) : Option PyData := (kvs.find? fun kv => decide (kv.1 = k)).map (·.2)
def putD (kvs : List (Key × PyData)) (k : Key) (v : PyData) : List (Key × PyData) :=
  if (kvs.any fun kv => decide (kv.1 = k)) = true then kvs.map (fun kv => if kv.1 = k then (kv.1, v) else kv) else kvs ++ [(k, v)]
theorem Pk.key {v : V} {d : PyData} {k : Key} (h : Pk K H F v d) (e : keyOf d = some k) : v = kV k := by
  cases d with
  | int i => cases e; exact h.int
  | str i => cases e; exact h.str
  | _ => cases e
theorem DRel.val {ps : List (Key × V)} {kvs : List (Key × PyData)} (h : DRel K H F ps kvs) (k : Key) : match valD kvs k with
    | some d => ∃ v, valV ps k = some v ∧ Fr K H F v d
    | none => valV ps k = none := by
  induction h with
  | nil => rfl
  | @cons p q ps qs h t ih =>
    by_cases e : q.1 = k
    · have e1 : valD (q :: qs) k = some q.2 := by simp [valD, List.find?_cons, e]
      rw [e1]
      exact ⟨p.2, valV_pos (h.1.trans e), h.2⟩
    · have e1 : valD (q :: qs) k = valD qs k := by simp [valD, List.find?_cons, e]
      have e2 : valV (p :: ps) k = valV ps k := valV_neg fun z => e (h.1.symm.trans z)
      rw [e1, e2]; exact ih
theorem DRel.any {ps : List (Key × V)} {kvs : List (Key × PyData)} (h : DRel K H F ps kvs) (k : Key) : (ps.any fun kv => decide (kv.1 = k)) = kvs.any fun kv => decide (kv.1 = k) := by
  induction h with
  | nil => rfl
  | cons h t ih => simp only [List.any_cons, ih, h.1]
theorem DRel.mapP {ps : List (Key × V)} {kvs : List (Key × PyData)} (h : DRel K H F ps kvs) (k : Key) {v : V} {d : PyData} (hv : Fr K H F v d) : DRel K H F (ps.map fun kv => if kv.1 = k then (kv.1, v) else kv) (kvs.map fun kv => if kv.1 = k then (kv.1, d) else kv) := by
  induction h with
  | nil => exact .nil
  | @cons p q ps qs h t ih =>
    refine .cons ?_ ih
    show (if p.1 = k then (p.1, v) else p).1 = (if q.1 = k then (q.1, d) else q).1 ∧ Fr K H F (if p.1 = k then (p.1, v) else p).2 (if q.1 = k then (q.1, d) else q).2
    by_cases e : q.1 = k
    · rw [if_pos e, if_pos (h.1.trans e)]; exact ⟨h.1, hv⟩
    · rw [if_neg e, if_neg fun z => e (h.1.symm.trans z)]; exact h
theorem DRel.app {ps qs : List (Key × V)} {kvs lvs : List (Key × PyData)} (h : DRel K H F ps kvs) (h2 : DRel K H F qs lvs) : DRel K H F (ps ++ qs) (kvs ++ lvs) := by
  induction h with
  | nil => exact h2
  | cons h t ih => exact .cons h ih
theorem DRel.put {ps : List (Key × V)} {kvs : List (Key × PyData)} (h : DRel K H F ps kvs) (k : Key) {v : V} {d : PyData} (hv : Fr K H F v d) : DRel K H F (putK ps k v) (putD kvs k d) := by
  unfold putK putD
  rw [h.any k]
  split
  · exact h.mapP k hv
  · exact h.app (.cons ⟨rfl, hv⟩ .nil)
theorem DRel.len {ps : List (Key × V)} {kvs : List (Key × PyData)} (h : DRel K H F ps kvs) : ps.length = kvs.length := by
  induction h with
  | nil => rfl
  | cons h t ih => simp [ih]
/-- the dict that stands there -/
def dctOf (r : En) : Rv → Option (List (Key × PyData))
  | .at l => match look r l with
    | some (.live (.dct kvs)) => some kvs
    | some (.live (.fdc kvs)) => some kvs
    | _ => none
  | _ => none
theorem dct_rel (S : SR K α r σ H F) {x : Rv} {v : V} {kvs : List (Key × PyData)} (t : TR K α r σ H F x v) (e : dctOf r x = some kvs) : ∃ a ps, v = .ref a ∧ Rd H a (.dK ps) ∧ DRel K H F ps kvs := by
  cases x with
  | val d => cases e
  | own d => cases e
  | «at» l =>
    unfold dctOf at e
    simp only at e
    split at e
    · rename_i q
      cases e
      obtain ⟨a, u, e1, h1, ps, rfl, h2⟩ := content_rel S t q
      exact ⟨a, ps, e1, .inl h1, h2⟩
    · rename_i q
      cases e
      obtain ⟨a, u, e1, h1, o, ps, rfl, h2⟩ := content_rel S t q
      exact ⟨a, ps, e1, .inr ⟨o, h1⟩, h2⟩
    · cases e
/-! {} -/
def dnewE : M Rv := fun r => .ok (.own (.dct [])) r
theorem ev_dnew {X : Cx} {pos : Pos} : PE X (.Dict [] [] pos) (tE K α W dnewE) := pe_weak pe_dnewK fun _ _ _ ⟨r, F, S, h⟩ p hp => (Aft.fin S h).dct p rfl hp
/-! d.get(k) -/
def dgE (f g : M Rv) : M Rv := M.bnd f fun x r1 => match dctOf r1 x with
  | none => .no
  | some _ => (M.bnd g fun y r2 => match dctOf r2 x, (peek r2 y).bind keyOf with
    | some kvs, some k => .ok (.val ((valD kvs k).getD .none)) r2
    | _, _ => .no) r1
theorem dg_ok {f g : M Rv} {Q : VK} (h : tE K α W (dgE f g) σ H Q) : tDGet1 (tE K α W f) (tE K α W g) σ H Q := by
  obtain ⟨r, F, S, h⟩ := h
  refine tE_mono (tE_bnd S h) fun x H1 ⟨r1, F1, x1, S1, st1, t1, h1⟩ => ?_
  cases e1 : dctOf r1 x1 with
  | none => simp only [e1] at h1; exact h1.elim
  | some kvs =>
    simp only [e1] at h1
    obtain ⟨a, ps, rfl, rd, _⟩ := dct_rel S1 t1 e1
    refine ⟨a, rfl, .inl ⟨ps, rd⟩, tE_mono (tE_bnd S1 h1) fun y H2 ⟨r2, F2, x2, S2, st2, t2, h2⟩ => ?_⟩
    have t1' := t1.step st2 fun a z => .inl z
    split at h2
    · rename_i kvs' k q1 q2
      obtain ⟨a', ps', e2, rd', dr⟩ := dct_rel S2 t1' q1
      cases e2
      cases ep : peek r2 x2 with
      | none => rw [ep] at q2; cases q2
      | some d =>
        rw [ep] at q2
        have ek := (peek_rel S2 t2 ep).key q2
        refine ⟨valV ps' k, .inl ⟨ps', k, rd', ek, rfl⟩, (Aft.fin S2 h2).val _ _ rfl ?_⟩
        have := dr.val k
        cases ev : valD kvs' k with
        | none => rw [ev] at this; rw [this]; exact .non
        | some d => rw [ev] at this; obtain ⟨v, e3, fv⟩ := this; rw [e3]; exact fv
    · exact h2.elim
theorem ev_dg {X : Cx} {o e : Expr} {apos cpos : Pos} {f g : M Rv} (hu : X.A.units + 1 < cLine) (ho : PE X o (tE K α W f)) (he : PE X e (tE K α W g)) (m : M1 X o "get" apos e cpos := by exact ⟨by rfl, by rfl, by rfl, by rfl⟩) :
    PE X (.Call (.Attribute o "get" apos) [e] [] cpos) (tE K α W (dgE f g)) := pe_weak (pe_dget1 hu ho he m) fun _ _ _ q => dg_ok q
/-! d[k] = v -/
def dstF (d : PyData) (o i : Rv) (r : En) : Out := match o with
  | .at l => match look r l, (peek r i).bind keyOf with
    | some (.live (.dct kvs)), some k => if kvs.length < sizeLine then .nx (setLo r l (.live (.dct (putD kvs k d)))) else .no
    | _, _ => .no
  | _ => .no
def dstS (f : M Rv) (j : Nat) (g : M Rv) : Stm := ofM f fun x => ofM (frz x) fun d => ofM (nmE j) fun o => ofM g fun i => dstF d o i
theorem dstF_ok {d : PyData} {o i : Rv} {v vo vi : V} {D : Ends} {O : Addr → Prop} (S : SR K α r σ H F) (fv : Fr K H F v d) (t1 : TR K α r σ H F o vo) (t2 : TR K α r σ H F i vi) (ho : ∀ a, Own α r σ a → O a) (h : AftS K α O H F W (dstF d o i r) D) :
    rSetD vo vi v H fun H3 => D.nx σ H3 := by
  cases o with
  | val d => exact h.elim
  | own o => exact h.elim
  | «at» l =>
    unfold dstF at h
    simp only at h
    split at h
    · rename_i kvs k q1 q2
      split at h
      · rename_i hl
        obtain ⟨a, rfl, ha⟩ := t1
        obtain ⟨a', u, e1, h1, ps, rfl, h2⟩ := content_rel S (x := .at l) (b := .live (.dct kvs)) ⟨a, rfl, ha⟩ q1
        cases e1
        have h2 : DRel K H F ps kvs := h2
        cases ep : peek r i with
        | none => rw [ep] at q2; cases q2
        | some di =>
          rw [ep] at q2
          have ek := (peek_rel S t2 ep).key q2
          obtain ⟨S', st, ow⟩ := S.write q1 ha (o' := .dct (putD kvs k d)) (u' := .dK (putK ps k v)) ⟨_, rfl, h2.put k fv⟩
          exact ⟨a, _, rfl, .inl ⟨ps, k, h1, ek, by rw [h2.len]; exact hl, rfl⟩, h σ _ F S' (st.widen ho fun z q => .inl q)⟩
      · exact h.elim
    · exact h.elim
theorem dst_ok {f : M Rv} {j : Nat} {g : M Rv} {D : Ends} (h : tS K α W (dstS f j g) D σ H) : tAsg (tE K α W f) (gSub (tE K α W (nmE j)) (tE K α W g) rSetD) D σ H := by
  obtain ⟨r, F, S, h⟩ := h
  refine tE_mono (ofM_E S h) fun v H1 ⟨r1, F1, x, S1, st1, t1, h1⟩ => ?_
  unfold ofM at h1
  cases ez : frz x r1 with
  | no => simp only [ez] at h1; exact h1.elim
  | ex w r5 => exact absurd ez frz_ex
  | ok d r2 =>
    simp only [ez] at h1
    obtain ⟨F2, S2, fv, st2, _⟩ := frz_ok S1 t1 ez
    have h2 : AftS K α (Own α r2 σ) H1 F2 W (ofM (nmE j) (fun o => ofM g fun i => dstF d o i) r2) D := AftS.step h1 st2 fun _ z => z
    refine tE_mono (ofM_E S2 h2) fun vo H3 ⟨r3, F3, o, S3, st3, t3, h3⟩ => ?_
    have h3' : AftS K α (Own α r3 σ) H3 F3 W (ofM g (fun i => dstF d o i) r3) D := AftS.step h3 (Step.refl (O' := Own α r3 σ) fun _ z => .inl z) fun _ z => z
    refine tE_mono (ofM_E S3 h3') fun vi H4 ⟨r4, F4, i, S4, st4, t4, h4⟩ => ?_
    exact dstF_ok S4 (Fr.stay st4.stay (Fr.stay st3.stay fv)) (t3.step st4 fun _ z => .inl z) t4 (fun _ z => .inl z) h4
theorem sv_dst {X : Cx} {e : Expr} {f g : M Rv} {j : Nat} {pos : Pos} {tg : Expr} (he : PE X e (tE K α W f)) (hg : PG X tg (gSub (tE K α W (nmE j)) (tE K α W g) rSetD)) (hs : swapsWithSole [tg] e pos.line X.env = pure false := by rfl) (hw : swappedStores [tg] e X.env = pure none := by rfl)
    (h1 : (assignEach [tg] X.env).map (·.2) = [assign tg X.env] := by rfl) : PS X (.Assign [tg] e pos) (tS K α W (dstS f j g)) := ps_weak (ps_asg he hg hs hw h1) fun _ _ _ q => dst_ok q
end Mi

/-! Mi20.lean -/
set_option Elab.async false
set_option linter.all false
set_option maxRecDepth 100000
/-! a dict while its keys are walked -/
namespace Mi
open PySem L2 PySem.Spec PyProof.Rows
variable {K : KX} {α : List Addr} {r r' : En} {σ : L2.St} {H H' : Hp} {F F' : Addr → Prop}
def isDk : HO → Bool
  | .dK _ => true
  | .frz _ (.dK _) => true
  | _ => false
/-- all stays but dicts -/
def Thin (F : Addr → Prop) (H H' : Hp) : Prop := ∀ a u, H a = some u → (isDk u = false ∨ F a) → H' a = some u
theorem sqt_thin (s : Thin F H H') {a : Addr} {xs : List V} (h : SqT K H a xs) : SqT K H' a xs := by
  rcases h with (h | ⟨o, h⟩) | h
  · exact .inl (.inl (s _ _ h (.inl rfl)))
  · exact .inl (.inr ⟨o, s _ _ h (.inl rfl)⟩)
  · exact .inr h
mutual
theorem Fr.thin (s : Thin F H H') : ∀ {v : V} {d : PyData}, Fr K H F v d → Fr K H' F v d
  | _, _, .non => .non
  | _, _, .bl b => .bl b
  | _, _, .int i => .int i
  | _, _, .str x => .str x
  | _, _, .own h1 h2 h3 => .own h1 (s _ _ h2 (.inl rfl)) (FrAll.thin s h3)
  | _, _, .frz h1 h3 => .frz (s _ _ h1 (.inl rfl)) (FrAll.thin s h3)
  | _, _, .dct h1 h2 h3 h4 => .dct h1 (s _ _ h2 (.inr h1)) h3 (FrAll.thin s h4)
  | _, _, .klst h1 h3 => .klst h1 (FrAll.thin s h3)
  | _, _, .tup h1 h3 => .tup (sqt_thin s h1) (FrAll.thin s h3)
theorem FrAll.thin (s : Thin F H H') : ∀ {v : List V} {d : List PyData}, FrAll K H F v d → FrAll K H' F v d
  | _, _, .nil => .nil
  | _, _, .cons h1 h2 => .cons (Fr.thin s h1) (FrAll.thin s h2)
end
theorem ObR.thin (s : Thin F H H') {a : Addr} {o : Ob} {u : HO} (h : ObR K H F a o u) : ObR K H' F a o u := by
  cases o with
  | ddt kvs => obtain ⟨o, xs, e, h1, h⟩ := h; exact ⟨o, xs, e, h1, paired_imp (fun a b ⟨q1, q2, v, q3, q4⟩ => ⟨q1, q2.thin s, v, q3, q4.thin s⟩) h⟩
  | lst ds => obtain ⟨xs, e, h⟩ := h; exact ⟨xs, e, h.thin s⟩
  | dct kvs => obtain ⟨ps, e, h⟩ := h; exact ⟨ps, e, paired_imp (fun a b q => ⟨q.1, q.2.thin s⟩) h⟩
  | fdc kvs => obtain ⟨o, ps, e, h⟩ := h; exact ⟨o, ps, e, paired_imp (fun a b q => ⟨q.1, q.2.thin s⟩) h⟩
theorem lo_at (S : SR K α r σ H F) {l : Lo} {o : Ob} (q : look r l = some (.live o)) : ∃ a u, LoAt α σ l a ∧ H a = some u ∧ ObR K H F a o u := by
  cases l with
  | slot i =>
    obtain ⟨v, h1, a, u, rfl, h2, h3⟩ := S.slot i (.own o) (look_slot q)
    exact ⟨a, u, h1, h2, h3⟩
  | obj k =>
    obtain ⟨a, h1, u, h2, h3⟩ := S.obj k (.live o) q
    exact ⟨a, u, h1, h2, h3⟩
theorem LoAt.same {l : Lo} {a b : Addr} (h : LoAt α σ l a) (h2 : LoAt α σ l b) : a = b := by
  cases l with
  | slot i => have h : σ[i]? = some (some (V.ref a)) := h; have h2 : σ[i]? = some (some (V.ref b)) := h2; rw [h] at h2; cases h2; rfl
  | obj k => have h : α[k]? = some a := h; have h2 : α[k]? = some b := h2; rw [h] at h2; cases h2; rfl
def lockL (l : Lo) (f : M Rv) : M Rv := fun r => match look r l with
  | some (.live (.dct kvs)) => match f (setLo r l (.live (.fdc kvs))) with
    | .ok x r1 => match look r1 l with
      | some (.live (.fdc kvs)) => .ok x (setLo r1 l (.live (.dct kvs)))
      | _ => .no
    | _ => .no
  | _ => .no
/-- the dict of name i is walked in f -/
def lockE (i : Nat) (f : M Rv) : M Rv := fun r => match nmE i r with
  | .ok (.at l) _ => lockL l f r
  | _ => .no
theorem lockL_ok {l : Lo} {f : M Rv} {Q : VK} (S : SR K α r σ H F) (h : Aft K α σ (Own α r σ) H F W (lockL l f r) Q) : tLockE (tE K α W f) σ H Q := by
  unfold lockL at h
  split at h
  · rename_i kvs q
    obtain ⟨d, u, ha, hd, ps, rfl, dr⟩ := lo_at S q
    have hold : Own α r σ d := ⟨l, look_holds q ha⟩
    refine ⟨d, .dK ps, hd, trivial, fun od => ?_⟩
    obtain ⟨S1, st1, ow1⟩ := S.write q ha (o' := .fdc kvs) (u' := .frz od (.dK ps)) ⟨od, ps, rfl, dr⟩
    refine ⟨_, F, S1, ?_⟩
    cases e : f (setLo r l (.live (.fdc kvs))) with
    | no => simp only [e] at h; exact h.elim
    | ex z r1 => simp only [e] at h; exact h.elim
    | ok x r1 =>
      simp only [e] at h
      intro v H1 F1 S2 st2 t2
      split at h
      · rename_i kvs2 q2
        obtain ⟨d2, u2, ha2, hd2, od2, ps2, rfl, dr2⟩ := lo_at S2 q2
        have := ha.same ha2
        subst this
        have hH := st2.stay.imm d _ upd_same rfl
        rw [hH] at hd2
        cases hd2
        refine ⟨hH, ?_⟩
        have nF1 : ¬ F1 d := S2.sep l d (look_holds q2 ha)
        have thin : Thin F1 H1 (upd H1 d (.dK ps)) := fun a u e i => by
          by_cases z : a = d
          · subst z
            rcases i with i | i
            · rw [hH] at e; cases e; cases i
            · exact absurd i nF1
          · rw [upd_ne z]; exact e
        obtain ⟨S3, ow3⟩ := S2.writeG q2 ha (o' := .dct kvs2) (u' := .dK ps) ⟨ps, rfl, paired_imp (fun a b q => ⟨q.1, q.2.thin thin⟩) dr2⟩ (fun _ _ z => z.thin thin) fun _ _ _ z => z.thin thin
        have ow3' : ∀ a, Own α (setLo r1 l (.live (.dct kvs2))) σ a → Own α r1 σ a := fun a ⟨l', z⟩ => ⟨l', ow3 l' a z⟩
        have in1 : Own α r1 σ d := ⟨l, look_holds q2 ha⟩
        have ne : ∀ a, ¬ Own α r σ a → a ≠ d := fun a n z => n (z ▸ hold)
        have neF : ∀ a, F a → a ≠ d := fun a z e => by subst e; obtain ⟨l, z2⟩ := hold; exact S.sep l a z2 z
        refine h v (upd H1 d (.dK ps)) F1 S3 ⟨fun a u e n => ?_, ⟨st2.stay.fz, fun a z => ?_, fun a o e i => ?_⟩, fun a z => ?_, fun a z => ?_, fun a z => ?_⟩ ?_
        · rw [upd_ne (ne a n)]
          exact st2.keep a u (st1.keep a u e n) fun z => n (ow1 a z)
        · rw [upd_ne (neF a z), st2.stay.ffz a z, upd_ne (neF a z)]
        · have : a ≠ d := fun z => by subst z; rw [hd] at e; cases e; cases i
          rw [upd_ne this]
          exact st2.stay.imm a o (st1.stay.imm a o e i) i
        · rcases st2.nfz a z with z | z | z
          · exact .inl z
          · exact .inr (.inl (ow1 a z))
          · exact .inr (.inr (st1.dom a z))
        · have z : OwnT α r1 σ x v a := z.elim (fun z => .inl (ow3' a z)) .inr
          rcases st2.own a z with z | z
          · exact .inl (ow1 a z)
          · exact .inr (st1.dom a z)
        · by_cases e : a = d
          · subst e; rw [upd_same] at z; cases z
          · rw [upd_ne e] at z; exact st1.dom a (st2.dom a z)
        · cases x with
          | val y => exact t2.thin thin
          | own o =>
            obtain ⟨a, u, rfl, g1, g2, g3, g4⟩ := t2
            exact ⟨a, u, rfl, by rw [upd_ne (show a ≠ d from fun z => g4 (by rw [z]; exact in1))]; exact g1, g2.thin thin, g3, fun z => g4 (ow3' a z)⟩
          | «at» l => exact t2
      · exact h.elim
  · exact h.elim
theorem lock_ok {i : Nat} {f : M Rv} {Q : VK} (h : tE K α W (lockE i f) σ H Q) : tLockE (tE K α W f) σ H Q := by
  obtain ⟨r, F, S, h⟩ := h
  unfold lockE at h
  split at h
  · exact lockL_ok S h
  · exact h.elim
theorem ev_lock {X : Cx} {e : Expr} {f : M Rv} (i : Nat) (h : PE X e (tE K α W f)) : PE X e (tE K α W (lockE i f)) := pe_weak (pe_lock h) fun _ _ _ q => lock_ok q
/-! walking keys -/
def fdcOf (r : En) : Rv → Option (List (Key × PyData))
  | .at l => match look r l with
    | some (.live (.fdc kvs)) => some kvs
    | _ => none
  | _ => none
def keysI (f : M Rv) : M Src := M.bnd f fun x r => match fdcOf r x with
  | some kvs => .ok ⟨fun _ i => some ((kvs.map fun kv => keyD kv.1)[i]?), kvs.length⟩ r
  | none => .no
theorem key_fr (k : Key) : Fr K H F (kV k) (keyD k) := by
  cases k with
  | inl i => exact .int i
  | inr i => exact .str i
theorem DRel.at {ps : List (Key × V)} {kvs : List (Key × PyData)} (h : DRel K H F ps kvs) : ∀ i : Nat, (ps[i]?).map (·.1) = (kvs[i]?).map (·.1) := by
  induction h with
  | nil => intro i; simp
  | cons h t ih =>
    intro i
    cases i with
    | zero => simp [h.1]
    | succ i => simpa using ih i
theorem src_keys {d : Addr} {o : Obj} {ps : List (Key × V)} {kvs : List (Key × PyData)} {n : Nat} (he : ∀ i : Nat, (ps[i]?).map (·.1) = (kvs[i]?).map (·.1)) (hl : ps.length = kvs.length) :
    SrcOk K α ⟨fun _ i => some ((kvs.map fun kv => keyD kv.1)[i]?), n⟩ (Itk d o ps) (fun H _ => H d = some (.frz o (.dK ps))) where
  stay := fun _ _ _ _ h s => s.imm _ _ h rfl
  turn := fun r σ H F i z S h e => by
    have e : (kvs.map fun kv => keyD kv.1)[i]? = z := Option.some.inj e
    subst e
    cases g : kvs[i]? with
    | none =>
      rw [List.getElem?_map, g]
      exact ⟨h, by rw [hl]; exact get_none g⟩
    | some kv =>
      rw [List.getElem?_map, g]
      refine ⟨⟨h, by rw [hl]; exact get_some g⟩, fun x H' ⟨e1, k, v, e2, e3⟩ => .inl ⟨e1, ?_⟩⟩
      have := he i
      rw [g, e2] at this
      cases this
      subst e3
      exact key_fr kv.1
theorem keys_ok {f : M Rv} {R : It → Hp → Prop} (h : tI K α W (keysI f) σ H R) : iKeys (tE K α W f) σ H R := by
  obtain ⟨r, F, S, h⟩ := h
  refine tE_mono (tE_bndI S h) fun v H1 ⟨r1, F1, x, S1, st, t, h1⟩ => ?_
  cases q : fdcOf r1 x with
  | none => rw [q] at h1; exact h1.elim
  | some kvs =>
    rw [q] at h1
    cases x with
    | val d => cases q
    | own d => cases q
    | «at» l =>
      unfold fdcOf at q
      simp only at q
      split at q
      · rename_i q2
        cases q
        obtain ⟨a, u, rfl, g1, o, ps, rfl, g2⟩ := content_rel S1 t q2
        have g2 : DRel K H1 F1 ps kvs := g2
        exact ⟨a, o, rfl, .inl ⟨ps, g1, h1 _ _ H1 F1 S1 (Step.refl fun _ z => z) (src_keys g2.at g2.len) g1⟩⟩
      · cases q
theorem iv_keys {X : Cx} {tg l : Expr} {f : M Rv} (hl : PE X l (tE K α W f)) : PI X tg l (tI K α W (keysI f)) := pi_weak (pi_keys hl) fun _ _ _ q => keys_ok q
section
variable {X : Cx} {elt tg iter : Expr} {ifs : List Expr} {scope : Scope} {own : List (Str × Nat)} {pos spos : Pos} {it : M Src} {g : TG} {tgf : PyData → En → Option En} {tt : M Bool} {f : M Rv}
/-- y = [.. for .. in d] -/
theorem sv_setLcL {i : Nat} {j : Nat} {y : Str} {py : Pos} {T : List Nat} (hT : own.map (·.2) = T) (hc : X.calm = true) (hN : X.N.Nodup) (hy : X.N[i]? = some y) (hyl : X.env.scope.names.lookup y = some .local)
    (hsw : swapsWith (.ListComp elt [⟨tg, iter, ifs, 0⟩] scope pos) (some (.Name y py)) spos.line X.env = pure true) (hi : PI X tg iter (tI K α W it)) (ok : BlkOk X.N X.env.scope scope own)
    (hg : ∀ (s : Shared) (H : Hp) (C : Addr) (cl : List (Str × Addr)) (fp : List Addr), PG (X.blk s H scope (compEnvC scope cl C X.env) fp) tg g) (ht : ∀ (s : Shared) (H : Hp) (C : Addr) (cl : List (Str × Addr)) (fp : List Addr), PTs (X.blk s H scope (compEnvC scope cl C X.env) fp) ifs (tT K α W0 tt))
    (he : ∀ (s : Shared) (H : Hp) (C : Addr) (cl : List (Str × Addr)) (fp : List Addr), PE (X.blk s H scope (compEnvC scope cl C X.env) fp) elt (tE K α W0 f)) (htg : TgOk K α g tgf T) (hs : ∀ x, foldedSetIterable iter X.env x = pure x := by intro _; rfl) :
    PS X (.Assign [.Name y py] (.ListComp elt [⟨tg, iter, ifs, 0⟩] scope pos) spos) (tS K α W (setS i (lockE j (lcE it tgf T tt f)))) := ps_weak (ps_lock (ps_setLc hc hN hy hyl hsw hi ok hg ht he hs)) fun D σ H ⟨r, F, S, h⟩ => by
  rw [hT]
  have q : tE K α W (lockE j (lcE it tgf T tt f)) σ H fun v H1 => D.nx (σ.set i (some v)) H1 := tE_mono (ofM_E S h) fun v H1 ⟨r1, F1, x, S1, st, tr, h1⟩ => bind_ok S1 tr h1
  obtain ⟨d, u, hd, mu, q⟩ := lock_ok q
  exact ⟨d, u, hd, mu, fun od => lc_ok htg (q od)⟩
end
end Mi

/-! Mi21.lean -/
set_option Elab.async false
set_option linter.all false
set_option maxRecDepth 100000
/-! comprehensions of two loops -/
namespace Mi
open PySem L2 PySem.Spec PyProof.Rows
variable {K : KX} {α : List Addr} {r r' : En} {σ : L2.St} {H H' : Hp} {F F' : Addr → Prop}
theorem wipe_sub {T : List Nat} : ∀ (U : List Nat) (σ : L2.St), (∀ i ∈ U, i ∈ T) → wipe (wipe σ U) T = wipe σ T
  | [], _, _ => rfl
  | u :: U, σ, h => by
    show wipe ((wipe σ U).set u none) T = _
    rw [wipe_set none T _ u (h u List.mem_cons_self)]
    exact wipe_sub U σ fun i m => h i (List.mem_cons_of_mem _ m)
section
variable {O0 : Addr → Prop} {H0 H1 Hs : Hp} {F0 F1 Fs : Addr → Prop} {V V1 : Hp → (Addr → Prop) → Prop} {D : Addr} {acc0 : List PyData} {s : Src} {J : It} {g : TG} {tg : PyData → En → Option En} {T : List Nat} {tt : M Bool} {f : M Rv}
theorem inner_ok (ht : TgOk K α g tg T) (so : SrcOk K α s J V1) (hV : ∀ H F H' F', V H F → Stay H F H' F' → V H' F') {Pw : Res (List PyData) → Prop} (no : ¬ Pw .no) {Nx : Hp → Prop}
    (t0 : Tn K α O0 H0 F0 H1 F1 V D acc0 r σ Hs Fs) (v0 : V1 Hs Fs) (h : Pw (lcN s.nth tg T tt f s.fuel 0 acc0 (wipeV r T))) (hN : ∀ acc rc H' F', Tn K α O0 H0 F0 H1 F1 V D acc rc (L2.wipe σ T) H' F' → Pw (.ok acc rc) → Nx H') :
    ∃ W : Nat → Nat → Hp → Prop, (∃ m, W 0 m Hs) ∧ ∀ i m H, W i m H → (J.stop i H ∧ Nx H) ∨ (J.go i H ∧ ∃ Nx1 : Hp → Prop, (∀ H', Nx1 H' → ∃ m', m' < m ∧ W (i + 1) m' H') ∧ ∀ x H', J.yld i H x H' → g x (L2.wipe σ T) H' fun σ3 H5 => L2.wipe σ3 T = L2.wipe σ T ∧ (tT K α W0 tt) σ3 H5 fun b H6 =>
      if b = true then (tE K α W0 f) σ3 H6 fun y H7 => ∃ acc, H7 D = some (.lst acc) ∧ acc.length < sizeLine ∧ Nx1 (upd H7 D (.lst (acc ++ [y]))) else Nx1 H6) := by
  let V2 : Hp → (Addr → Prop) → Prop := fun H F => V H F ∧ V1 H F
  have hV2 : ∀ H F H' F', V2 H F → Stay H F H' F' → V2 H' F' := fun _ _ _ _ a b => ⟨hV _ _ _ _ a.1 b, so.stay _ _ _ _ a.2 b⟩
  have t00 : Tn K α O0 H0 F0 H1 F1 V2 D acc0 r σ Hs Fs := ⟨t0.sr, ⟨t0.v, v0⟩, t0.tr, t0.stay, t0.step⟩
  have tw0 : Tn K α O0 H0 F0 H1 F1 V2 D acc0 (wipeV r T) (L2.wipe σ T) Hs Fs := t00.next hV2 (t0.sr.wipe T) (Step.refl fun _ z => z) fun a ⟨l, q⟩ => ⟨l, wipe_holds q⟩
  refine ⟨fun i m H' => ∃ rc F' acc, Tn K α O0 H0 F0 H1 F1 V2 D acc rc (L2.wipe σ T) H' F' ∧ Pw (lcN s.nth tg T tt f m i acc rc), ⟨s.fuel, _, Fs, acc0, tw0, h⟩, ?_⟩
  rintro i m H2 ⟨rc, F2, acc, t, h⟩
  unfold lcN at h
  cases en : s.nth rc i with
  | none => simp only [en] at h; exact absurd h no
  | some o =>
    have tn := so.turn rc _ H2 F2 i o t.sr t.v.2 en
    cases o with
    | none =>
      simp only [en] at h
      exact .inl ⟨tn, hN acc rc H2 F2 ⟨t.sr, t.v.1, t.tr, t.stay, t.step⟩ h⟩
    | some d =>
      simp only [en] at h
      obtain ⟨go, yl⟩ := tn
      cases m with
      | zero => exact absurd h no
      | succ m =>
        simp only at h
        cases et : tg d (wipeV rc T) with
        | none => simp only [et] at h; exact absurd h no
        | some r2 =>
          simp only [et] at h
          refine .inr ⟨go, fun H' => ∃ rc F' acc, Tn K α O0 H0 F0 H1 F1 V2 D acc rc (L2.wipe σ T) H' F' ∧ Pw (lcN s.nth tg T tt f m (i + 1) acc rc), fun H' q => ⟨m, Nat.lt_succ_self m, q⟩, fun x H' y => ?_⟩
          have Sw : SR K α (wipeV rc T) (L2.wipe σ T) H2 F2 := by
            have q := t.sr.wipe T
            rwa [wipe_wipe] at q
          have tw : Tn K α O0 H0 F0 H1 F1 V2 D acc (wipeV rc T) (L2.wipe σ T) H2 F2 := t.next hV2 Sw (Step.refl fun _ z => z) fun a ⟨l, q⟩ => by
            rw [← wipe_wipe] at q
            exact ⟨l, wipe_holds q⟩
          obtain ⟨S3, fx, st3⟩ := yl_sr Sw (yl x H' y)
          refine ht.go (wipeV rc T) r2 (L2.wipe σ T) H' F2 x d _ S3 fx et fun σ3 S4 ow4 w4 => ?_
          have w4 : L2.wipe σ3 T = L2.wipe σ T := w4.trans (wipe_wipe T σ)
          have t4 : Tn K α O0 H0 F0 H1 F1 V2 D acc r2 σ3 H' F2 := tw.next hV2 S4 st3 ow4
          refine ⟨w4, r2, F2, S4, ?_⟩
          cases ett : tt r2 with
          | no => simp only [ett] at h; exact absurd h no
          | ex z r3 => simp only [ett] at h; exact absurd h no
          | ok b r3 =>
            simp only [ett] at h
            intro H5 F5 S5 st5
            have t5 : Tn K α O0 H0 F0 H1 F1 V2 D acc r3 σ3 H5 F5 := t4.next hV2 S5 st5 fun _ z => z
            have toW : ∀ {acc : List PyData} {r3 : En} {H5 : Hp} {F5 : Addr → Prop}, Tn K α O0 H0 F0 H1 F1 V2 D acc r3 σ3 H5 F5 → Tn K α O0 H0 F0 H1 F1 V2 D acc (wipeV r3 T) (L2.wipe σ T) H5 F5 := fun {acc r3 H5 F5} t5 => by
              have Sw5 := t5.sr.wipe T
              rw [w4] at Sw5
              exact t5.next hV2 Sw5 (Step.refl fun _ z => z) fun a ⟨l, q⟩ => by
                rw [← w4] at q
                exact ⟨l, wipe_holds q⟩
            cases b with
            | false =>
              refine iteF ?_
              exact ⟨wipeV r3 T, F5, acc, toW t5, h⟩
            | true =>
              refine iteT ⟨r3, F5, S5, ?_⟩
              have h : Pw (match M.bnd f frz r3 with
                | .no => .no
                | .ex e r3 => .no
                | .ok y r3 => if acc.length < sizeLine then lcN s.nth tg T tt f m (i + 1) (acc ++ [y]) (wipeV r3 T) else .no) := h
              unfold M.bnd at h
              cases ef : f r3 with
              | no => simp only [ef] at h; exact absurd h no
              | ex z r4 => simp only [ef] at h; exact absurd h no
              | ok z r4 =>
                simp only [ef] at h
                intro yv H6 F6 S6 st6 tz
                cases ez : frz z r4 with
                | no => simp only [ez] at h; exact absurd h no
                | ex w r5 => exact absurd ez frz_ex
                | ok dy r5 =>
                  simp only [ez] at h
                  obtain ⟨F7, S7, fr7, st7, _⟩ := frz_ok S6 tz ez
                  have t7 : Tn K α O0 H0 F0 H1 F1 V2 D acc r5 σ3 H6 F7 := t5.next hV2 S7 (st6.trans st7 fun _ z => z) fun _ z => z
                  obtain ⟨xs, h1, h2, h3, h4, h5, h6⟩ := t7.tr.grow t7.sr fr7
                  split at h
                  · rename_i hz
                    refine ⟨xs, h1, by rw [h2]; exact hz, ?_⟩
                    exact ⟨wipeV r5 T, F7, acc ++ [dy], toW ⟨h3, hV2 _ _ _ _ t7.v h5, h4, t7.stay.trans h5, t7.step.trans h6 fun _ z => z⟩, h⟩
                  · exact absurd h no
end
theorem tg_nameT (i : Nat) {T : List Nat} (h : i ∈ T) : TgOk K α (gName i) (fun d r => some (put r i (.val d))) T := ⟨fun r r1 σ H F x d Q S h2 e q => by
  cases e
  refine q _ (S.put (s := .val d) h2 fun o a z => nomatch z) (fun a z => ?_) (wipe_set _ T σ i h)
  rcases put_own z with z | ⟨⟨o, z⟩, _⟩
  · exact z
  · cases z⟩
theorem tg_tupT (is : List Nat) {T : List Nat} (hT : ∀ i ∈ is, i ∈ T) : TgOk K α (gTup K is.length (gNames is)) (tgTup is) T := ⟨fun r r1 σ H F x d Q S h e q => by
  cases d with
  | tuple ds =>
    obtain ⟨a, xs, rfl, h1, h2⟩ := (Pk.fr h).tup
    obtain ⟨e1, e2⟩ := gNames_w (T := T) (Q := Q) hT S h2 e q
    exact ⟨a, xs, rfl, h1, e1, e2⟩
  | _ => cases e⟩
def lc2N (nth : En → Nat → Option (Option PyData)) (tg : PyData → En → Option En) (T : List Nat) (tt : M Bool) (it1 : M Src) (tg1 : PyData → En → Option En) (T1 : List Nat) (tt1 : M Bool) (f : M Rv) : Nat → Nat → List PyData → M (List PyData)
  | m, i, acc, r => match nth r i with
    | none => .no
    | some none => .ok acc r
    | some (some d) => match m with
      | 0 => .no
      | m + 1 => match tg d (wipeV r T) with
        | none => .no
        | some r1 => match tt r1 with
          | .no => .no
          | .ex e r2 => .no
          | .ok false r2 => lc2N nth tg T tt it1 tg1 T1 tt1 f m (i + 1) acc (wipeV r2 T)
          | .ok true r2 => match it1 r2 with
            | .no => .no
            | .ex e r3 => .no
            | .ok s1 r3 => match lcN s1.nth tg1 T1 tt1 f s1.fuel 0 acc (wipeV r3 T1) with
              | .no => .no
              | .ex e r4 => .no
              | .ok acc r4 => lc2N nth tg T tt it1 tg1 T1 tt1 f m (i + 1) acc (wipeV r4 T)
def lc2E (it : M Src) (tg : PyData → En → Option En) (T : List Nat) (tt : M Bool) (it1 : M Src) (tg1 : PyData → En → Option En) (T1 : List Nat) (tt1 : M Bool) (f : M Rv) : M Rv := M.bnd it fun s r => if calm r T = true then
    (match lc2N s.nth tg T tt it1 tg1 T1 tt1 f s.fuel 0 [] (wipeV r T) with
    | .no => .no
    | .ex e r1 => .no
    | .ok acc r1 => .ok (.own (.lst acc)) (restV r r1 T)) else .no
theorem lc2_ok {it it1 : M Src} {g g1 : TG} {tg tg1 : PyData → En → Option En} {T T1 : List Nat} {tt tt1 : M Bool} {f : M Rv} {Q : VK} (ht : TgOk K α g tg T) (ht1 : TgOk K α g1 tg1 T1) (hT : ∀ i ∈ T1, i ∈ T) (h : tE K α W (lc2E it tg T tt it1 tg1 T1 tt1 f) σ H Q) :
    tLc2 (tI K α W it) g (tT K α W0 tt) (tI K α W0 it1) g1 (tT K α W0 tt1) (tE K α W0 f) T T1 σ H Q := by
  obtain ⟨r, F, S, h⟩ := h
  refine ⟨r, F, S, ?_⟩
  unfold lc2E M.bnd at h
  cases e : it r with
  | no => simp only [e] at h; exact h
  | ex z r1 => simp only [e] at h; exact h
  | ok s r1 =>
    simp only [e] at h
    intro J V H1 F1 S1 st1 so v1 D hD
    by_cases hc : calm r1 T = true
    case neg => rw [if_neg hc] at h; exact h.elim
    rw [if_pos hc] at h
    let Pw : Res (List PyData) → Prop := fun x => Aft K α σ (Own α r σ) H F W (match x with
      | .no => .no
      | .ex e r2 => .no
      | .ok acc r2 => .ok (.own (.lst acc)) (restV r1 r2 T)) Q
    have h : Pw (lc2N s.nth tg T tt it1 tg1 T1 tt1 f s.fuel 0 [] (wipeV r1 T)) := h
    have S1w := S1.wipe T
    refine ⟨fun i m H' => ∃ rc F' acc, Tn K α (Own α r σ) H F H1 F1 V D acc rc (L2.wipe σ T) H' F' ∧ Pw (lc2N s.nth tg T tt it1 tg1 T1 tt1 f m i acc rc), ⟨s.fuel, wipeV r1 T, F1, [], ⟨S1w.new _ hD, so.stay _ _ _ _ v1 (stay_new S1 _ hD),
      ⟨D, _, rfl, upd_same, ⟨[], rfl, .nil⟩, notF_new S1 hD, notOwn_new S1w hD⟩, stay_new S1 _ hD, st1.trans (step_new S1 _ hD fun a z => z.imp (fun ⟨l, q⟩ => ⟨l, wipe_holds q⟩) id) fun _ z => z⟩, h⟩, ?_⟩
    rintro i m H2 ⟨rc, F2, acc, t, h⟩
    unfold lc2N at h
    cases en : s.nth rc i with
    | none => simp only [en] at h; exact h.elim
    | some o =>
      have tn := so.turn rc _ H2 F2 i o t.sr t.v en
      cases o with
      | none =>
        simp only [en] at h
        obtain ⟨R, ow⟩ := SR.rest S1 t.sr t.stay hc
        refine .inl ⟨tn, h (.ref D) H2 F2 R (t.step.more fun a z => z.imp (ow a) fun ⟨_, z⟩ => by injection z with z; exact z.symm) ?_⟩
        obtain ⟨a, u, e1, e2, e3, e4, e5⟩ := t.tr
        exact ⟨a, u, e1, e2, e3, e4, fun z => e5 (ow a z)⟩
      | some d =>
        simp only [en] at h
        obtain ⟨go, yl⟩ := tn
        cases m with
        | zero => exact h.elim
        | succ m =>
          simp only at h
          cases et : tg d (wipeV rc T) with
          | none => simp only [et] at h; exact h.elim
          | some r2 =>
            simp only [et] at h
            refine .inr ⟨go, fun H' => ∃ rc F' acc, Tn K α (Own α r σ) H F H1 F1 V D acc rc (L2.wipe σ T) H' F' ∧ Pw (lc2N s.nth tg T tt it1 tg1 T1 tt1 f m (i + 1) acc rc), fun H' q => ⟨m, Nat.lt_succ_self m, q⟩, fun x H' y => ?_⟩
            have Sw : SR K α (wipeV rc T) (L2.wipe σ T) H2 F2 := by
              have q := t.sr.wipe T
              rwa [wipe_wipe] at q
            have tw : Tn K α (Own α r σ) H F H1 F1 V D acc (wipeV rc T) (L2.wipe σ T) H2 F2 := t.next so.stay Sw (Step.refl fun _ z => z) fun a ⟨l, q⟩ => by
              rw [← wipe_wipe] at q
              exact ⟨l, wipe_holds q⟩
            obtain ⟨S3, fx, st3⟩ := yl_sr Sw (yl x H' y)
            refine ht.go (wipeV rc T) r2 (L2.wipe σ T) H' F2 x d _ S3 fx et fun σ3 S4 ow4 w4 => ?_
            have w4 : L2.wipe σ3 T = L2.wipe σ T := w4.trans (wipe_wipe T σ)
            have t4 : Tn K α (Own α r σ) H F H1 F1 V D acc r2 σ3 H' F2 := tw.next so.stay S4 st3 ow4
            refine ⟨w4, r2, F2, S4, ?_⟩
            cases ett : tt r2 with
            | no => simp only [ett] at h; exact h
            | ex z r3 => simp only [ett] at h; exact h.elim
            | ok b r3 =>
              simp only [ett] at h
              intro H5 F5 S5 st5
              have t5 : Tn K α (Own α r σ) H F H1 F1 V D acc r3 σ3 H5 F5 := t4.next so.stay S5 st5 fun _ z => z
              have toW : ∀ {σ5 : L2.St} {acc : List PyData} {r3 : En} {H5 : Hp} {F5 : Addr → Prop}, L2.wipe σ5 T = L2.wipe σ T → Tn K α (Own α r σ) H F H1 F1 V D acc r3 σ5 H5 F5 → Tn K α (Own α r σ) H F H1 F1 V D acc (wipeV r3 T) (L2.wipe σ T) H5 F5 := fun {σ5 acc r3 H5 F5} w5 t5 => by
                have Sw5 := t5.sr.wipe T
                rw [w5] at Sw5
                exact t5.next so.stay Sw5 (Step.refl fun _ z => z) fun a ⟨l, q⟩ => by
                  rw [← w5] at q
                  exact ⟨l, wipe_holds q⟩
              cases b with
              | false =>
                refine iteF ?_
                exact ⟨wipeV r3 T, F5, acc, toW w4 t5, h⟩
              | true =>
                refine iteT ⟨r3, F5, S5, ?_⟩
                have h : Pw (match it1 r3 with
                  | .no => .no
                  | .ex e r3 => .no
                  | .ok s1 r3 => match lcN s1.nth tg1 T1 tt1 f s1.fuel 0 acc (wipeV r3 T1) with
                    | .no => .no
                    | .ex e r4 => .no
                    | .ok acc r4 => lc2N s.nth tg T tt it1 tg1 T1 tt1 f m (i + 1) acc (wipeV r4 T)) := h
                cases ei : it1 r3 with
                | no => simp only [ei] at h; exact h
                | ex z r4 => simp only [ei] at h; exact h.elim
                | ok s1 r4 =>
                  simp only [ei] at h
                  intro J1 V1 H6 F6 S6 st6 so1 v6
                  have t6 : Tn K α (Own α r σ) H F H1 F1 V D acc r4 σ3 H6 F6 := t5.next so.stay S6 st6 fun _ z => z
                  refine inner_ok (Pw := fun x => Pw (match x with
                    | .no => .no
                    | .ex e r4 => .no
                    | .ok acc r4 => lc2N s.nth tg T tt it1 tg1 T1 tt1 f m (i + 1) acc (wipeV r4 T))) ht1 so1 so.stay (fun z => z) t6 v6 h fun acc' rc' H' F' t' h' => ?_
                  exact ⟨wipeV rc' T, F', acc', toW ((wipe_sub T1 σ3 hT).trans w4) t', h'⟩
section
variable {X : Cx} {elt tg iter tg1 iter1 : Expr} {ifs ifs1 : List Expr} {scope : Scope} {own : List (Str × Nat)} {pos spos : Pos} {it it1 : M Src} {g g1 : TG} {tgf tgf1 : PyData → En → Option En} {tt tt1 : M Bool} {f : M Rv}
theorem ev_lc2 {T T1 : List Nat} (hT : own.map (·.2) = T) (hT1 : ∀ i ∈ T1, i ∈ T) (hc : X.calm = true) (hN : X.N.Nodup) (hi : PI X tg iter (tI K α W it)) (ok : BlkOk X.N X.env.scope scope own)
    (hg : ∀ (s : Shared) (H : Hp) (C : Addr) (cl : List (Str × Addr)) (fp : List Addr), PG (X.blk s H scope (compEnvC scope cl C X.env) fp) tg g) (ht : ∀ (s : Shared) (H : Hp) (C : Addr) (cl : List (Str × Addr)) (fp : List Addr), PTs (X.blk s H scope (compEnvC scope cl C X.env) fp) ifs (tT K α W0 tt))
    (hi1 : ∀ (s : Shared) (H : Hp) (C : Addr) (cl : List (Str × Addr)) (fp : List Addr), PI (X.blk s H scope (compEnvC scope cl C X.env) fp) tg1 iter1 (tI K α W0 it1))
    (hg1 : ∀ (s : Shared) (H : Hp) (C : Addr) (cl : List (Str × Addr)) (fp : List Addr), PG (X.blk s H scope (compEnvC scope cl C X.env) fp) tg1 g1) (ht1 : ∀ (s : Shared) (H : Hp) (C : Addr) (cl : List (Str × Addr)) (fp : List Addr), PTs (X.blk s H scope (compEnvC scope cl C X.env) fp) ifs1 (tT K α W0 tt1))
    (he : ∀ (s : Shared) (H : Hp) (C : Addr) (cl : List (Str × Addr)) (fp : List Addr), PE (X.blk s H scope (compEnvC scope cl C X.env) fp) elt (tE K α W0 f)) (htg : TgOk K α g tgf T) (htg1 : TgOk K α g1 tgf1 T1) (hs : ∀ x, foldedSetIterable iter X.env x = pure x := by intro _; rfl) (hs1 : ∀ env x, foldedSetIterable iter1 env x = pure x := by intro _ _; rfl) :
    PE X (.ListComp elt [⟨tg, iter, ifs, 0⟩, ⟨tg1, iter1, ifs1, 0⟩] scope pos) (tE K α W (lc2E it tgf T tt it1 tgf1 T1 tt1 f)) := pe_weak (pe_lc2 (vs1 := T1) hc hN hi ok (by rw [hT]; exact hT1) hg ht hi1 hg1 ht1 he hs hs1) fun σ H Q q => by
  rw [hT]
  exact lc2_ok htg htg1 hT1 q
theorem sv_setLc2 {i : Nat} {y : Str} {py : Pos} {T T1 : List Nat} (hT : own.map (·.2) = T) (hT1 : ∀ i ∈ T1, i ∈ T) (hc : X.calm = true) (hN : X.N.Nodup) (hy : X.N[i]? = some y) (hyl : X.env.scope.names.lookup y = some .local)
    (hsw : swapsWith (.ListComp elt [⟨tg, iter, ifs, 0⟩, ⟨tg1, iter1, ifs1, 0⟩] scope pos) (some (.Name y py)) spos.line X.env = pure true) (hi : PI X tg iter (tI K α W it)) (ok : BlkOk X.N X.env.scope scope own)
    (hg : ∀ (s : Shared) (H : Hp) (C : Addr) (cl : List (Str × Addr)) (fp : List Addr), PG (X.blk s H scope (compEnvC scope cl C X.env) fp) tg g) (ht : ∀ (s : Shared) (H : Hp) (C : Addr) (cl : List (Str × Addr)) (fp : List Addr), PTs (X.blk s H scope (compEnvC scope cl C X.env) fp) ifs (tT K α W0 tt))
    (hi1 : ∀ (s : Shared) (H : Hp) (C : Addr) (cl : List (Str × Addr)) (fp : List Addr), PI (X.blk s H scope (compEnvC scope cl C X.env) fp) tg1 iter1 (tI K α W0 it1))
    (hg1 : ∀ (s : Shared) (H : Hp) (C : Addr) (cl : List (Str × Addr)) (fp : List Addr), PG (X.blk s H scope (compEnvC scope cl C X.env) fp) tg1 g1) (ht1 : ∀ (s : Shared) (H : Hp) (C : Addr) (cl : List (Str × Addr)) (fp : List Addr), PTs (X.blk s H scope (compEnvC scope cl C X.env) fp) ifs1 (tT K α W0 tt1))
    (he : ∀ (s : Shared) (H : Hp) (C : Addr) (cl : List (Str × Addr)) (fp : List Addr), PE (X.blk s H scope (compEnvC scope cl C X.env) fp) elt (tE K α W0 f)) (htg : TgOk K α g tgf T) (htg1 : TgOk K α g1 tgf1 T1) (hs : ∀ x, foldedSetIterable iter X.env x = pure x := by intro _; rfl) (hs1 : ∀ env x, foldedSetIterable iter1 env x = pure x := by intro _ _; rfl) :
    PS X (.Assign [.Name y py] (.ListComp elt [⟨tg, iter, ifs, 0⟩, ⟨tg1, iter1, ifs1, 0⟩] scope pos) spos) (tS K α W (setS i (lc2E it tgf T tt it1 tgf1 T1 tt1 f))) := ps_weak (ps_setLc2 (vs1 := T1) hc hN hy hyl hsw hi ok (by rw [hT]; exact hT1) hg ht hi1 hg1 ht1 he hs hs1) fun D σ H ⟨r, F, S, h⟩ => by
  rw [hT]
  exact lc2_ok htg htg1 hT1 (tE_mono (ofM_E S h) fun v H1 ⟨r1, F1, x, S1, st, tr, h1⟩ => bind_ok S1 tr h1)
end
end Mi

/-! Mi22.lean -/
set_option Elab.async false
set_option linter.all false
set_option maxRecDepth 100000
/-! min of a tuple; names from a list -/
namespace Mi
open PySem L2 PySem.Spec PyProof.Rows
variable {K : KX} {α : List Addr} {r r' : En} {σ : L2.St} {H H' : Hp} {F F' : Addr → Prop}
def rMinT (K : KX) : List V → Hp → VK → Prop := fun vs H Q => ∃ (a : Addr) (n : Int) (ns : List Int), vs = [V.ref a] ∧ SqT K H a ((n :: ns).map V.int) ∧ Q (.int (PySem.W.minOf n ns)) H
theorem holdAll_ints {h : Heap} : ∀ {ns : List Int} {us : List Value}, Vals (ns.map V.int) us → PySem.W.HoldAll h us ns
  | [], _, .nil => ⟨[], .nil⟩
  | n :: ns, _, .cons ⟨t, e⟩ k => by
    subst e
    obtain ⟨as, r⟩ := holdAll_ints (h := h) k
    exact ⟨_, .cons (.int n t) r⟩
theorem cr_minT {X : Cx} (hc : X.calm = true) (hu : X.A.units + 64 < cLine) : CallR X (.builtin "min") (rMinT (kx X ε)) := by
  intro pins s σ H vs us Q I r h
  obtain ⟨a, n, ns, rfl, hs, q⟩ := h
  obtain ⟨its, rv, hl, _⟩ := I.tuple hs
  rw [Vals.ref1 r]
  refine PySem.W.min_tuple_datum (α := Int) (x := n) (xs := ns) (I.ok.hd hc) hl (holdAll_ints (by simpa using rv)) (by show X.A.units + 1 + 0 < cLine; omega) fun i v h' tk hi hm hk => ?_
  obtain ⟨bs, hm⟩ := hm
  generalize PySem.W.minOf n ns = m at hm q
  cases hm with
  | int j t => exact ⟨.int _, H, I.kept hk, ⟨_, rfl⟩, q⟩
def gMinX : PyData → Option Rv
  | .list ds => gMin (.list ds)
  | .tuple ds => (intsOf ds).bind fun ns => match ns with
    | [] => none
    | n :: ns => some (vI (PySem.W.minOf n ns))
  | _ => none
theorem o_minX : Op1 K (fun x H Q => rMin K [x] H Q ∨ rMinT K [x] H Q) gMinX := fun H F x d z Q px h q => by
  unfold gMinX at h
  split at h
  · exact .inl (o_min H F x _ z Q px h q)
  · obtain ⟨ns, h1, h2⟩ := Option.bind_eq_some_iff.mp h
    cases ns with
    | nil => cases h2
    | cons n ns =>
      cases h2
      obtain ⟨a, xs, rfl, e1, e2⟩ := px.tup
      have := intsOf_map h1
      subst this
      have := e2.ints
      subst this
      exact .inr ⟨a, n, ns, rfl, e1, q.val _ _ rfl (.int _)⟩
  · cases h
/-! a, b = xs -/
def unlS (is : List Nat) (f : M Rv) : Stm := ofM f fun x r => match peek r x with
  | some (.list ds) => match frz x r with
    | .ok _ r1 => match bindL is ds r1 with
      | some r2 => .nx r2
      | none => .no
    | _ => .no
  | _ => .no
theorem sv_unl {X : Cx} {e tg : Expr} {f : M Rv} {pos : Pos} {is : List Nat} (he : PE X e (tE (kx X ε) α W f)) (hg : PG X tg (gUnl (kx X ε) is.length (gNames is))) (hs : swapsWithSole [tg] e pos.line X.env = pure false := by rfl) (hw : swappedStores [tg] e X.env = pure none := by rfl)
    (h1 : (assignEach [tg] X.env).map (·.2) = [assign tg X.env] := by rfl) : PS X (.Assign [tg] e pos) (tS (kx X ε) α W (unlS is f)) := ps_weak (ps_asg he hg hs hw h1) fun D σ H ⟨r, F, S, h⟩ =>
  tE_mono (ofM_E S h) fun v H1 ⟨r1, F1, x, S1, st, tr, h1⟩ => by
    split at h1
    · rename_i ds q
      cases ez : frz x r1 with
      | no => simp only [ez] at h1; exact h1.elim
      | ex w r5 => exact absurd ez frz_ex
      | ok d r2 =>
        simp only [ez] at h1
        obtain ⟨a, xs, rfl, hx, fr⟩ := (peek_rel S1 tr q).list
        obtain ⟨F2, S2, fv, st2, ow2⟩ := frz_ok S1 tr ez
        have fr2 := FrAll.stay st2.stay fr
        cases e2 : bindL is ds r2 with
        | none => simp only [e2] at h1; exact h1.elim
        | some r3 =>
          simp only [e2] at h1
          obtain ⟨l, g⟩ := gNames_ok (Q := D.nx) S2 fr2 e2 fun σ' S' o => h1 σ' H1 F2 S' (st2.more fun a z => o a z)
          exact ⟨a, xs, rfl, hx, l, g⟩
    · exact h1.elim
theorem u1 {A : Around} {k : Nat} (hr : Room k A) : A.units + 1 < cLine := by have := hr.un; omega
end Mi

/-! Mi23.lean -/
set_option Elab.async false
set_option linter.all false
set_option maxRecDepth 100000
/-! the letters of a text, or the items of a sequence -/
namespace Mi
open PySem L2 PySem.Spec PyProof.Rows
variable {K : KX} {α : List Addr} {r r' : En} {σ : L2.St} {H H' : Hp} {F F' : Addr → Prop}
def strNth (z : Str) (_ : En) (i : Nat) : Option (Option PyData) := some (z.cps.toList[i]?.map fun c => PyData.str ⟨#[c]⟩)
def sqI (f : M Rv) : M Src := fun r => match f r with
  | .ok x r1 => match peek r1 x with
    | some (.str z) => .ok ⟨strNth z, z.cps.toList.length⟩ r1
    | _ => seqI (fun _ => .ok x r1) r
  | .ex e r1 => .ex e r1
  | .no => .no
theorem src_str {z : Str} {n : Nat} : SrcOk K α ⟨strNth z, n⟩ (Its z) (fun _ _ => True) where
  stay := fun _ _ _ _ h s => h
  turn := fun r σ H F i o S h e => by
    have e : z.cps.toList[i]?.map (fun c => PyData.str ⟨#[c]⟩) = o := Option.some.inj e
    subst e
    cases g : z.cps.toList[i]? with
    | none =>
      show z.cps.size ≤ i
      have := get_none g
      simpa using this
    | some c =>
      refine ⟨show i < z.cps.size by have := get_some g; simpa using this, fun x H' ⟨e1, c', e2, e3⟩ => .inl ⟨e1, ?_⟩⟩
      have : c' = c := by
        rw [Array.getElem?_toList] at g
        rw [g] at e2
        cases e2; rfl
      subst this
      subst e3
      exact .str _
theorem sq_ok {f : M Rv} {R : It → Hp → Prop} (h : tI K α W (sqI f) σ H R) : iStr (tE K α W f) σ H R ∨ (iList K (tE K α W f) σ H R ∨ iTup K (tE K α W f) σ H R) := by
  obtain ⟨r, F, S, h⟩ := h
  unfold sqI at h
  cases e : f r with
  | no => simp only [e] at h; exact h.elim
  | ex z r1 => simp only [e] at h; exact .inl ⟨r, F, S, by rw [e]; exact h⟩
  | ok x r1 =>
    simp only [e] at h
    split at h
    · rename_i z q
      refine .inl ⟨r, F, S, ?_⟩
      rw [e]
      intro v H1 F1 S1 st t
      exact ⟨z, (peek_rel S1 t q).str, h _ _ H1 F1 S1 (st.trans (Step.refl (O' := Own α r1 σ) fun a z => .inl z) fun _ z => z) src_str trivial⟩
    · refine .inr (seq_ok ⟨r, F, S, ?_⟩)
      have e2 : seqI f r = seqI (fun _ => .ok x r1) r := by unfold seqI M.bnd; rw [e]
      rw [e2]
      exact h
theorem iv_sq {X : Cx} {tg l : Expr} {f : M Rv} (hl : PE X l (tE (kx X ε) α W f)) : PI X tg l (tI (kx X ε) α W (sqI f)) := pi_weak (pi_or (pi_str hl) (pi_or (pi_list hl) (pi_tup hl))) fun _ _ _ q => sq_ok q
end Mi

/-! Mi24.lean -/
set_option Elab.async false
set_option linter.all false
set_option maxRecDepth 100000
/-! calls with keywords alone -/
namespace Mi
open PySem L2 PySem.Spec PyProof.Rows
variable {K : KX} {α : List Addr} {r r' : En} {σ : L2.St} {H H' : Hp} {F F' : Addr → Prop}
theorem permL_get {β : Type} : ∀ (pm : List Nat) (xs : List β), (∀ i ∈ pm, i < xs.length) → ∀ j : Nat, (permL pm xs)[j]? = pm[j]?.bind fun i => xs[i]?
  | [], _, _, j => by simp [permL]
  | i :: pm, xs, h, j => by
    have hi := h i List.mem_cons_self
    have e : permL (i :: pm) xs = xs[i] :: permL pm xs := by
      unfold permL
      rw [List.filterMap_cons, List.getElem?_eq_getElem hi]
    rw [e]
    cases j with
    | zero => simp [List.getElem?_eq_getElem hi]
    | succ j => simpa using permL_get pm xs (fun k hk => h k (List.mem_cons_of_mem _ hk)) j
theorem permL_len {β : Type} : ∀ (pm : List Nat) (xs : List β), (∀ i ∈ pm, i < xs.length) → (permL pm xs).length = pm.length
  | [], _, _ => rfl
  | i :: pm, xs, h => by
    have hi := h i List.mem_cons_self
    have e : permL (i :: pm) xs = xs[i] :: permL pm xs := by
      unfold permL
      rw [List.filterMap_cons, List.getElem?_eq_getElem hi]
    rw [e, List.length_cons, permL_len pm xs fun k hk => h k (List.mem_cons_of_mem _ hk), List.length_cons]
theorem permL_paired {β γ : Type} {R : β → γ → Prop} {xs : List β} {ys : List γ} (h : Paired R xs ys) : ∀ pm : List Nat, Paired R (permL pm xs) (permL pm ys)
  | [] => .nil
  | i :: pm => by
    have ih := permL_paired h pm
    have hl := paired_len h
    unfold permL at ih ⊢
    rw [List.filterMap_cons, List.filterMap_cons]
    cases e : ys[i]? with
    | none =>
      have : xs[i]? = none := by
        rw [List.getElem?_eq_none_iff] at e ⊢
        omega
      rw [this]
      exact ih
    | some y =>
      obtain ⟨x, e2, r⟩ := paired_get h e
      rw [e2]
      exact .cons r ih
theorem permL_one {β γ : Type} {pm : List Nat} {xs : List β} {ys : List γ} (hx : ∀ i ∈ pm, i < xs.length) (hy : ∀ i ∈ pm, i < ys.length) {j : Nat} {x : β} {y : γ} (h1 : (permL pm xs)[j]? = some x) (h2 : (permL pm ys)[j]? = some y) : ∃ i, pm[j]? = some i ∧ xs[i]? = some x ∧ ys[i]? = some y := by
  rw [permL_get pm xs hx] at h1
  rw [permL_get pm ys hy] at h2
  cases e : pm[j]? with
  | none => rw [e] at h1; cases h1
  | some i => rw [e] at h1 h2; exact ⟨i, rfl, h1, h2⟩
theorem TRs.perm {xs : List Rv} {vs : List V} {pm : List Nat} (T : TRs K α r σ H F xs vs) (nd : pm.Nodup) (h : ∀ i ∈ pm, i < xs.length) : TRs K α r σ H F (permL pm xs) (permL pm vs) where
  all := permL_paired T.all pm
  one := fun i j o o' a q1 q2 q3 q4 => by
    have hv : ∀ i ∈ pm, i < vs.length := fun i hi => (paired_len T.all) ▸ h i hi
    obtain ⟨m, e1, e2, e3⟩ := permL_one h hv q1 q2
    obtain ⟨n, f1, f2, f3⟩ := permL_one h hv q3 q4
    have := T.one m n o o' a e2 e3 f2 f3
    subst this
    obtain ⟨hi, ei⟩ := List.getElem?_eq_some_iff.mp e1
    obtain ⟨hj, ej⟩ := List.getElem?_eq_some_iff.mp f1
    rcases Nat.lt_trichotomy i j with l | l | l
    · exact absurd (ei.trans ej.symm) (List.pairwise_iff_getElem.mp nd i j hi hj l)
    · exact l
    · exact absurd (ej.trans ei.symm) (List.pairwise_iff_getElem.mp nd j i hj hi l)
theorem Tm.perm {xs : List Rv} {vs : List V} {pm : List Nat} {a : Addr} (hl : xs.length = vs.length) (h : ∀ i ∈ pm, i < xs.length) (t : Tm (permL pm xs) (permL pm vs) a) : Tm xs vs a := by
  obtain ⟨i, o, q1, q2⟩ := t
  obtain ⟨m, _, e2, e3⟩ := permL_one h (fun i hi => hl ▸ h i hi) q1 q2
  exact ⟨m, o, e2, e3⟩
def callKW (pm : List Nat) (G : List Ag → FR) (f : M (List Rv)) : M Rv := M.bnd f fun xs => if xs.length = pm.length then callF G (permL pm xs) else M.stop
/-- a def, and how its keywords bind: ks as they stand in the call, pm the places of the parameters among them -/
structure DefK (P : Program) (w : World) (K : PySem.W.Frag) (mg : Str → Option Value) (base : Heap) (x : Str) (k np n : Nat) (bd : Stm) (ks : List Str) (pm : List Nat) : Prop where
  ex : ∃ (f : Addr) (fd : FuncData) (ps : List Str), mg x = some (.ref f) ∧ PySem.W.keepIn K (.ref f) = true ∧ (∀ (s : Shared) (ws : List Value), ws.length = ks.length → BindsTo s fd ⟨[], ks.zip ws⟩ (ps.zip (permL pm ws))) ∧ ps.length = np ∧ FnG P w K mg base k f fd ps (spF ⟨K, P, w, none⟩ np n bd)
theorem DefK.mono {P : Program} {w : World} {K : PySem.W.Frag} {mg : Str → Option Value} {base : Heap} {x : Str} {j k np n : Nat} {bd : Stm} {ks : List Str} {pm : List Nat} (D : DefK P w K mg base x j np n bd ks pm) (h : j ≤ k) : DefK P w K mg base x k np n bd ks pm := by
  obtain ⟨f, fd, ps, h1, h2, h3, h4, h5⟩ := D.ex
  exact ⟨f, fd, ps, h1, h2, h3, h4, h5.mono h⟩
theorem Fun.kws {K : PySem.W.Frag} {x qual : Str} {st : Stmt} {f : Addr} {fd : FuncData} {ps ks : List Str} {pm : List Nat} (Fn : Fun K x qual st f fd)
    (h : ∀ (kV doc pm' : Value) (an : Option Addr) (cdv ct : Value) (ws : List Value), ws.length = ks.length → bindArgs (PySem.W.fnOf x qual (defArgs st) (defBody st) (defScope st) .none kV doc pm' an cdv ct) ⟨[], ks.zip ws⟩ = Pure.pure (ps.zip (permL pm ws))) (s : Shared) (ws : List Value) (hl : ws.length = ks.length) : BindsTo s fd ⟨[], ks.zip ws⟩ (ps.zip (permL pm ws)) := by
  obtain ⟨oc, od, kV, doc, pm', an, cdv, ct, osl, rfl, lk, hcd⟩ := Fn.ex
  exact .of_eq (h kV doc pm' an cdv ct ws hl)
section
variable {X : Cx} {x : Str} {p pos kpos : Pos} {e : Expr} {kws : List Keyword} {k np n : Nat} {bd : Stm} {g : M (List Rv)} {ks : List Str} {pm : List Nat} {nm : Option Str}
theorem pk_weak {t t' : TA} (h : PK X kws t) (w : ∀ σ H Q, t' σ H Q → t σ H Q) : PK X kws t' := ⟨fun pos pins s σ H Q I q => h.run pos pins s σ H Q I (w σ H Q q)⟩
theorem kr_nil : PK X [] (tR K α W nilR) := pk_weak pk_nil fun _ _ _ q => nilR_ok q
theorem kr_cons {a : M Rv} (h : PE X e (tE K α W a)) (h2 : PK X kws (tR K α W g)) : PK X (⟨nm, e, kpos⟩ :: kws) (tR K α W (consR a g)) := pk_weak (pk_cons h h2) fun _ _ _ q => consR_ok q
theorem argsK_ok {G : List Ag → FR} {Q : VK} (h : tE K α W (callKW pm G g) σ H Q) : tR K α W g σ H fun vs H1 => ∃ r1 F1 xs, SR K α r1 σ H1 F1 ∧ TRs K α r1 σ H1 F1 xs vs ∧ xs.length = pm.length ∧ Aft K α σ (OwnTs α r1 σ xs vs) H1 F1 W (callF G (permL pm xs) r1) Q := by
  obtain ⟨r, F, S, h⟩ := h
  refine ⟨r, F, S, ?_⟩
  unfold callKW M.bnd at h
  cases e : g r with
  | no => rw [e] at h; exact h
  | ex z r1 => rw [e] at h; exact h
  | ok xs r1 =>
    rw [e] at h
    simp only at h
    intro vs H1 F1 S1 st T
    by_cases hl : xs.length = pm.length
    · rw [if_pos hl] at h
      exact ⟨r1, F1, xs, S1, T, hl, h.step st fun _ z => z⟩
    · rw [if_neg hl] at h
      exact h.elim
/-- f(k = v, ..) -/
theorem ev_callKW (D : DefK X.prog X.w X.K X.mg X.base x k np n bd ks pm) (hr : Room k X.A) (hgd : X.A.guards = some []) (tk : L2.Takes X W) (hg : Gl X x) (hn : np ≤ n) (nd : pm.Nodup) (hpm : ∀ i ∈ pm, i < pm.length) (hl : pm.length = ks.length) (hkw : PK X kws (tR (kx X none) α W g))
    (hall : (backToKw pos (keywordEach kws X.env)).all (·.1.isSome) = true := by rfl) (hks : (backToKw pos (keywordEach kws X.env)).filterMap (·.1) = ks := by rfl)
    (hdb : (x == ("__debug__" : Str)) = false := by decide) (hpl : ((backTo pos (starEach [] X.env)).any (·.1) || (backToKw pos (keywordEach kws X.env)).any (·.1.isNone)) = false := by rfl) :
    PE X (.Call (.Name x p) [] kws pos) (tE (kx X none) α W (callKW pm (runF np n bd) g)) := by
  obtain ⟨f, fd, ps, h1, h2, h3, h4, h5⟩ := D.ex
  refine ⟨fun pins s σ H Q I h => ?_⟩
  refine wpAny_Call_Name_kw (ld_glob I hg h1 ?_ hdb)
  have key := argsK_ok h
  refine PySem.W.callWith_KW0 (h₀ := X.base) I.ok.mod.kin h2 hall (thn (hkw.run pos pins s σ H _ I key) fun ws s1 ⟨vs, H1, I1, rv, r1, F1, xs, S1, T, lx, q⟩ => ⟨I1.kIn, ?_⟩) hpl
  rw [hks]
  have lv : xs.length = vs.length := paired_len T.all
  have lw : vs.length = ws.length := rv.length
  have hx : ∀ i ∈ pm, i < xs.length := fun i hi => lx ▸ hpm i hi
  have q' := q.step (Step.refl (O' := OwnTs α r1 σ (permL pm xs) (permL pm vs)) fun a z => z.elim .inl fun t => .inr (t.perm lv hx)) fun _ z => z
  have sp := call_ok hn S1 (T.perm nd hx) q'
  exact wpAny_call (run_fg h5 hr hgd tk (h3 s1 ws (by omega)) I1 (permL_paired rv pm) sp)
end
end Mi

/-! Mi25.lean -/
set_option Elab.async false
set_option linter.all false
set_option maxRecDepth 100000
/-! raise, try -/
namespace Mi
open PySem L2 PySem.Spec PyProof.Rows
variable {K : KX} {α : List Addr} {r r' : En} {σ : L2.St} {H H' : Hp} {F F' : Addr → Prop}
/-- a class of errors without an __init__ of its own -/
structure ExD (K : PySem.W.Frag) (mg : Str → Option Value) (x : Str) : Prop where
  ex : ∃ C : Addr, mg x = some (.ref C) ∧ PySem.W.nsIn K mainGlobals x = some (some (.ref C)) ∧ PySem.W.excIn K C HandSPX.veTail "ValueError.__new__" = true ∧ PySem.W.keepIn K (.ref C) = true ∧ PySem.W.subIn K (.ref C) (.type "BaseException") = some true ∧
    PySem.W.typeIn K (.ref C) = some (.type "type")
def raiS (x : Str) : Stm := fun r => .ex ⟨x, []⟩ r
theorem sv_raise0 {X : Cx} {W : L2.WX} {x m : Str} {j : Nat} {p p2 p3 pos : Pos} (hc : X.calm = true) (tk : L2.Takes X W) (E : ExD X.K X.mg x) (hg : Gl X x) (hdb : (x == ("__debug__" : Str)) = false := by decide) :
    PS X (.Raise (some (.Call (.Name x p) [.Constant (.str m) j p2] [] p3)) none pos) (tS (kx X ε) α W (raiS x)) := by
  obtain ⟨C, g1, g2, g3, g4, g5, g6⟩ := E.ex
  exact ps_weak (ps_raise hc tk (pmk_own PySem.F.excBase_ValueError g3 g1 g4 (raises_own g5 g6) hg hdb)) fun D σ H ⟨r, F, S, h⟩ => h σ (.ref C) none H F S (Step.refl fun _ z => z) ⟨g2, rfl⟩
/-- which classes of errors a clause takes -/
structure Takers (K : PySem.W.Frag) (mg : Str → Option Value) (c : Str) (m : Str → Option Bool) : Prop where
  ex : ∃ C : Addr, mg c = some (.ref C) ∧ ∀ y b, m y = some b → ∃ D : Value, PySem.W.nsIn K mainGlobals y = some (some D) ∧ PySem.W.exmOne K D (.ref C) = some b
def tryS (bd : Stm) (m : Str → Option Bool) (su : Stm) : Stm := fun r => match bd r with
  | .ex x r1 => match m x.cls with
    | some true => match su r1 with
      | .ex _ _ => .no
      | o => o
    | some false => .ex x r1
    | none => .no
  | o => o
theorem AftS.wish {O : Addr → Prop} {W W' : L2.WX} {x : Out} {D : Ends} (h : AftS K α O H F W (match x with
    | .ex _ _ => .no
    | o => o) D) : AftS K α O H F W' x D := by
  cases x with
  | ex e r => exact h.elim
  | nx r => exact h
  | rt v r => exact h
  | bk r => exact h
  | ct r => exact h
  | no => exact h
/-- try: .. except c: .. -/
theorem sv_try {X : Cx} {W : L2.WX} {c : Str} {m : Str → Option Bool} {body suite : List Stmt} {b₀ : Stmt} {np pos pos' : Pos} {bd su : Stm} (hs : X.stack = X.env :: X.outer) (hf : X.env.frame = some X.env.locals) (E : Takers X.K X.mg c m) (hg : Gl X c) (tk : L2.Takes X W)
    (hb : ∀ (W1 : L2.WX) (pn : List (Addr × Obj)) (xe : Value → Shared → Prop), L2.Takes (X.tr pn xe) W1 → PassesOwn (model X.prog X.w) X.A X.env xe → PSs (X.tr pn xe) body (tS (kx X ε) α W1 bd))
    (hsu : ∀ (a : Addr) (oe : Obj) (pn : List (Addr × Obj)), PSs (X.suite a ((a, oe) :: pn)) (b₀ :: suite) (tS (kx X ε) α W0 su)) (hdb : (c == ("__debug__" : Str)) = false := by decide) :
    PS X (.Try body [.ExceptHandler (some (.Name c np)) none (b₀ :: suite) pos'] [] [] pos) (tS (kx X ε) α W (tryS bd m su)) := by
  obtain ⟨C, g1, g2⟩ := E.ex
  refine ps_weak (ps_try_only (c := .ref C) (tb := fun W1 => tS (kx X ε) α W1 bd) (ts := fun _ _ _ => tS (kx X ε) α W0 su) hs hf ⟨hg, hdb, .inl g1⟩ tk (fun W1 pn xe tk1 po1 => hb W1 pn xe tk1 po1) (fun a oe cls d pn _ _ => hsu a oe pn)) fun D σ H ⟨r, F, S, h⟩ => ⟨r, F, S, ?_⟩
  unfold tryS at h
  cases e : bd r with
  | nx r1 => rw [e] at h; exact h
  | rt v r1 => rw [e] at h; exact h
  | bk r1 => rw [e] at h; exact h
  | ct r1 => rw [e] at h; exact h
  | no => rw [e] at h; exact h.elim
  | ex x r1 =>
    rw [e] at h
    simp only at h
    intro σ' cls d H' F' S' st ex
    cases em : m x.cls with
    | none => rw [em] at h; exact h.elim
    | some b =>
      obtain ⟨Dv, e1, e2⟩ := g2 x.cls b em
      have e3 := ex.1
      rw [e1] at e3
      cases e3
      refine ⟨b, e2, fun hb => ?_, fun hb => ?_⟩
      · subst hb
        rw [em] at h
        exact fun a _ => ⟨r1, F', S', AftS.wish ((AftS.step (K := (kx X ε)) h st fun _ z => z))⟩
      · subst hb
        rw [em] at h
        exact h σ' cls d H' F' S' st ex
end Mi

/-! Mi26.lean -/
set_option Elab.async false
set_option linter.all false
set_option maxRecDepth 100000
/-! range(a, b, -1); which errors a clause takes, by a list -/
namespace Mi
open PySem L2 PySem.Spec PyProof.Rows
variable {K : KX} {α : List Addr} {r r' : En} {σ : L2.St} {H H' : Hp} {F F' : Addr → Prop}
def rngDn (lo : Int) (n : Nat) (_ : En) (i : Nat) : Option (Option PyData) := if i < n then some (some (.int (lo + ((i : Nat) : Int) * (-1)))) else some none
def rngD (f g h : M Rv) : M Src := M.bnd f fun x => M.bnd g fun y => M.bnd h fun z r => match peek r x, peek r y, peek r z with
  | some (.int i), some (.int j), some (.int k) => if k = -1 ∧ (-(2 ^ 62) ≤ i ∧ i < 2 ^ 62) ∧ -(2 ^ 62) ≤ j ∧ j < 2 ^ 62 then .ok ⟨rngDn i (i - j).toNat, (i - j).toNat⟩ r else .no
  | _, _, _ => .no
theorem src_rngD {lo : Int} {n : Nat} : SrcOk K α ⟨rngDn lo n, n⟩ (Itc lo (-1) n) (fun _ _ => True) where
  stay := fun _ _ _ _ h s => h
  turn := fun r σ H F i o S h e => by
    have e : rngDn lo n r i = some o := e
    unfold rngDn at e
    split at e
    · rename_i hi
      injection e with e
      subst e
      exact ⟨hi, fun x H' y => .inl ⟨y.1, by rw [y.2]; exact .int _⟩⟩
    · rename_i hi
      injection e with e
      subst e
      exact Nat.le_of_not_lt hi
theorem rngD_ok {W : L2.WX} {f g k : M Rv} {R : It → Hp → Prop} (h : tI K α W (rngD f g k) σ H R) : iRng3 (tCons (tE K α W f) (tCons (tE K α W g) (tCons (tE K α W k) tNil))) σ H R := by
  obtain ⟨r, F, S, h⟩ := h
  refine tE_mono (tE_bndI S h) fun v H1 ⟨r1, F1, x, S1, st1, t1, h1⟩ => tE_mono (tE_bndI S1 h1) fun w H2 ⟨r2, F2, y, S2, st2, t2, h2⟩ => tE_mono (tE_bndI S2 h2) fun u H3 ⟨r3, F3, z, S3, st3, t3, h3⟩ => ?_
  have t1' := (t1.step st2 fun _ z => .inl z).step st3 fun _ z => .inl z
  have t2' := t2.step st3 fun _ z => .inl z
  split at h3
  · rename_i i j k q1 q2 q3
    split at h3
    · rename_i hj
      obtain ⟨rfl, a1, a2⟩ := hj
      exact ⟨i, j, -1, (i - j).toNat, by rw [(peek_rel S3 t1' q1).int, (peek_rel S3 t2' q2).int, (peek_rel S3 t3 q3).int], RgC.neg a1.1 a1.2 a2.1 a2.2, h3 _ _ H3 F3 S3 (Step.refl fun _ z => z) src_rngD trivial⟩
    · exact h3.elim
  · exact h3.elim
theorem iv_rngD {X : Cx} {W : L2.WX} {tg a b c : Expr} {f g k : M Rv} {p pos : Pos} (hg : Gl X "range") (hm : X.mg "range" = none) (ha : PE X a (tE K α W f)) (hb : PE X b (tE K α W g)) (hc : PE X c (tE K α W k))
    (hs : starEach [a, b, c] X.env = (false, eval a X.env) :: starEach [b, c] X.env := by rfl) (hs1 : starEach [b, c] X.env = (false, eval b X.env) :: starEach [c] X.env := by rfl) (hs2 : starEach [c] X.env = (false, eval c X.env) :: starEach [] X.env := by rfl)
    (hpl : (backTo pos (starEach [b, c] X.env)).any (·.1) = false := by rfl) : PI X tg (.Call (.Name "range" p) [a, b, c] [] pos) (tI K α W (rngD f g k)) :=
  pi_weak (pi_range3 hg hm (pa_cons ha (pa_cons hb (pa_cons hc pa_nil hs2) hs1) hs) hs hpl) fun _ _ _ q => rngD_ok q
/-- the classes that a clause takes, and those that it doesn't -/
def takeL (l : List (Str × Bool)) (y : Str) : Option Bool := l.lookup y
theorem Takers.of {K : PySem.W.Frag} {mg : Str → Option Value} {c : Str} {l : List (Str × Bool)} {C : Addr} (h1 : mg c = some (.ref C)) (h2 : ∀ p ∈ l, ∃ D : Value, PySem.W.nsIn K mainGlobals p.1 = some (some D) ∧ PySem.W.exmOne K D (.ref C) = some p.2) : Takers K mg c (takeL l) := by
  refine ⟨C, h1, fun y b e => ?_⟩
  have key : ∀ l : List (Str × Bool), l.lookup y = some b → (y, b) ∈ l := fun l => by
    induction l with
    | nil => intro e; cases e
    | cons p l ih =>
      obtain ⟨k, v⟩ := p
      intro e
      rw [List.lookup_cons] at e
      by_cases q : y == k
      · rw [q] at e
        have q := eq_of_beq q
        cases e
        rw [q]
        exact List.mem_cons_self
      · have q : (y == k) = false := by simpa using q
        rw [q] at e
        exact List.mem_cons_of_mem _ (ih e)
  exact h2 (y, b) (key l e)
end Mi

/-! Mi27.lean -/
set_option Elab.async false
set_option linter.all false
set_option maxRecDepth 100000
/-! xs[::-1] -/
namespace Mi
open PySem L2 PySem.Spec PyProof.Rows
variable {K : KX} {α : List Addr} {r r' : En} {σ : L2.St} {H H' : Hp} {F F' : Addr → Prop}
def gRevL : PyData → Option Rv
  | .list ds => some (.own (.lst ds.reverse))
  | _ => none
theorem o_revL : Op1 K (fun x H Q => ∃ a xs, x = .ref a ∧ SqL K H a xs ∧ ∀ p, H p = none → Q (.ref p) (upd H p (.lst xs.reverse))) gRevL := fun H F x d z Q px h q => by
  unfold gRevL at h
  split at h
  · cases h
    obtain ⟨a, xs, rfl, h1, h2⟩ := px.list
    exact ⟨a, xs, rfl, h1, fun l hl => q.new _ _ l rfl hl h2.rev⟩
  · cases h
theorem ev_revL {X : Cx} {W : L2.WX} {e : Expr} {f : M Rv} {k : Nat} {p1 p2 p3 pos : Pos} (he : PE X e (tE (kx X ε) α W f)) : PE X (.Subscript e (.Slice none none (some (.UnaryOp .USub (.Constant (.int 1) k p1) p2)) p3) pos) (tE (kx X ε) α W (unE gRevL f)) :=
  pe_weak (pe_revL he) fun _ _ _ q => t1_ok o_revL q
end Mi

/-! Mi28.lean -/
set_option Elab.async false
set_option linter.all false
set_option maxRecDepth 100000
namespace Mi
open PySem L2 PySem.Spec PyProof.Rows
theorem exm_mk {K : PySem.W.Frag} {C : Addr} {D : Value} {b : Bool} (h1 : PySem.W.subIn K (.ref C) (.type "BaseException") = some true) (h2 : PySem.W.isClsIn K C = true) (h3 : PySem.W.typeIn K (.ref C) = some (.type "type")) (h4 : PySem.W.subIn K D (.ref C) = some b) :
    PySem.W.exmOne K D (.ref C) = some b := by
  have h2 : (PySem.W.clsIn K C).isSome = true := h2
  unfold PySem.W.exmOne PySem.W.kitCls
  rw [h1]
  simp only [h2, h3]
  exact h4
end Mi

/-! Mi29.lean -/
set_option Elab.async false
set_option linter.all false
set_option maxRecDepth 100000
/-! sorted of rows and tuples, list of a text, dicts by in and by key -/
namespace Mi
open PySem L2 PySem.Spec PyProof.Rows
open PySem.W (EachIs AllAlike Sortable dataLe sorted_data alike alikeAll)
variable {K : KX} {α : List Addr} {r r' : En} {σ : L2.St} {H H' : Hp} {F F' : Addr → Prop} {W : L2.WX}
/-! list(text) -/
theorem vals_letters {x : Str} : ∀ (cs : List Nat) (vs : List Value), vs.length = cs.length → (∀ (j : Nat) (v : Value), vs[j]? = some v → ∃ (c : Nat) (u : Tok), cs[j]? = some c ∧ v = Value.str ⟨#[c]⟩ u) → Vals (cs.map fun c => V.str ⟨#[c]⟩) vs
  | [], [], _, _ => .nil
  | [], v :: vs, h, _ => by simp at h
  | c :: cs, [], h, _ => by simp at h
  | c :: cs, v :: vs, h, q => by
    obtain ⟨c', u, e1, e2⟩ := q 0 v rfl
    cases e1
    exact .cons ⟨u, e2⟩ (vals_letters (x := x) cs vs (by simpa using h) fun j w e => q (j + 1) w (by simpa using e))
theorem call_listStr {X : Cx} (hc : X.calm = true) : CallR X (.type "list") (fun xs H Q => ∃ z : Str, xs = [.str z] ∧ z.cps.size ≤ sizeLine ∧ ∀ l, H l = none → Q (.ref l) (upd H l (.lst (z.cps.toList.map fun c => V.str ⟨#[c]⟩)))) := by
  intro pins s σ H xs us Q I r h
  obtain ⟨z, rfl, hz, q⟩ := h
  obtain ⟨u, rfl, t, rfl⟩ := vals1 r
  refine call_list_str (I.ok.hd hc) z t (fun h' tk acc' c' hk hS hacc => ?_) hz
  have vl : Vals (z.cps.toList.map fun c => V.str ⟨#[c]⟩) acc'.toList := vals_letters (x := z) _ _ (by simp [hacc.1]) fun j v e => by
    obtain ⟨c, u, e1, e2⟩ := hacc.2 j v (by simpa using e)
    exact ⟨c, u, by simpa using e1, e2⟩
  exact ⟨.ref s.heap.objs.size, _, I.laid (t' := tk) hk (Nat.le_refl _) (show ObjOk X.prog X.w _ h' _ (.lst _) from ⟨by simpa using hz, acc'.toList, c', vl, by simpa using hS⟩), rfl, q _ (I.hok.fresh (Nat.le_refl _))⟩
def lettersD (z : Str) : List PyData := z.cps.toList.map fun c => .str ⟨#[c]⟩
def gListX : PyData → Option Rv
  | .str z => if z.cps.size ≤ sizeLine then some (.own (.lst (lettersD z))) else none
  | d => gList d
theorem fr_letters : ∀ cs : List Nat, FrAll K H F (cs.map fun c => V.str ⟨#[c]⟩) (cs.map fun c => PyData.str ⟨#[c]⟩)
  | [] => .nil
  | c :: cs => .cons (.str _) (fr_letters cs)
theorem o_listX : Op1 K (fun x H Q => (∃ z : Str, [x] = [.str z] ∧ z.cps.size ≤ sizeLine ∧ ∀ l, H l = none → Q (.ref l) (upd H l (.lst (z.cps.toList.map fun c => V.str ⟨#[c]⟩)))) ∨ (∃ p ys, [x] = [.ref p] ∧ (SqL K H p ys ∨ SqT K H p ys) ∧ ∀ l, H l = none → Q (.ref l) (upd H l (.lst ys)))) gListX := fun H F x d z Q px h q => by
  cases d with
  | str y =>
    obtain ⟨h1, rfl⟩ := opt_if h
    have e := px.str
    subst e
    exact .inl ⟨_, rfl, h1, fun l hl => q.new _ _ l rfl hl (fr_letters _)⟩
  | _ => exact .inr (o_list H F x _ z Q px h q)
/-! sorted -/
theorem each_of {T : V → PyData → Prop} : ∀ {ys : List V} {us : List Value} {ds : List PyData}, Vals ys us → Paired T ys ds → EachIs (fun u d => ∃ v, RelV v u ∧ T v d) us ds
  | _, _, _, .nil, .nil => .nil
  | _, _, _, .cons r1 r2, .cons t1 t2 => .cons ⟨_, r1, t1⟩ (each_of r2 t2)
theorem of_each {T : V → PyData → Prop} : ∀ {us : List Value} {ds : List PyData}, EachIs (fun u d => ∃ v, RelV v u ∧ T v d) us ds → ∃ ys, Vals ys us ∧ Paired T ys ds
  | _, _, .nil => ⟨[], .nil, .nil⟩
  | _, _, .cons ⟨v, r, t⟩ h => let ⟨ys, h1, h2⟩ := of_each h; ⟨v :: ys, .cons r h1, .cons t h2⟩
theorem each_imp {α β : Type} {R S : α → β → Prop} (h : ∀ a b, R a b → S a b) : ∀ {as : List α} {bs : List β}, EachIs R as bs → EachIs S as bs
  | _, _, .nil => .nil
  | _, _, .cons a b => .cons (h _ _ a) (each_imp h b)
def rSortDat (K : KX) : List V → Hp → VK → Prop := fun vs H Q => ∃ (T : V → PyData → Prop) (a : Addr) (ys : List V) (ds : List PyData), vs = [V.ref a] ∧ SqL K H a ys ∧ Paired T ys ds ∧ (∀ v d, T v d → Dp K H v d) ∧ AllAlike ds ∧ Sortable ds ∧ (∀ d, d ∈ ds → d.depth ≤ 60) ∧
  ∀ (zs : List V) (p : Addr), Paired T zs (ds.mergeSort (dataLe false id)) → H p = none → Q (.ref p) (upd H p (.lst zs))
theorem cr_sortedDat {X : Cx} (hu : X.A.units + 64 < cLine) : CallR X (.builtin "sorted") (rSortDat (kx X ε)) := by
  intro pins s σ H vs us Q I r h
  obtain ⟨T, a, ys, ds, rfl, hs, hp, hd, hal, hso, hdp, q⟩ := h
  obtain ⟨its, rv, hl, hz⟩ := I.list hs
  rw [Vals.ref1 r]
  have e1 := each_of rv hp
  have er : EachIs (fun v b => ∃ as, Reads s.heap v (id b) as) its ds := each_imp (fun u d ⟨v, r1, t1⟩ => Dp.reads I d v u (hd v d t1) r1) e1
  have hlen : ds.length = ys.length := by rw [← e1.length, rv.length]
  refine sorted_data (enc := id) hl.isList e1 er (by simpa using hal) (by simpa using hso) (by rw [hlen]; exact hz) (fun b hb => by have := hdp b hb; show X.A.units + 2 + b.depth < cLine; omega) fun out hlo heo => ?_
  obtain ⟨zs, z1, z2⟩ := of_each heo
  obtain ⟨ep, he'⟩ := PyProof.Rows.sortedAll_at s.heap its out.toArray
  have hzl : zs.length ≤ sizeLine := by rw [z1.length, hlo, hlen]; exact hz
  exact ⟨.ref _, upd H (s.heap.objs.size + 1) (.lst zs), I.laid (t' := s.toks) (fun _ _ => PyProof.Rows.sortedAll_old) (Nat.le_succ _) ⟨hzl, out, ep, z1, he'⟩, rfl, q zs _ z2 (I.hok.fresh (Nat.le_succ _))⟩
def alikeB (ds : List PyData) : Bool := ds.all fun d => ds.all fun e => alike d e
def sortableB (ds : List PyData) : Bool := (ds.all fun d => match d with | .tuple (_ :: _) => true | _ => false) || ds.all fun d => match d with | .none => false | .tuple _ => false | _ => true
def gSortD : PyData → Option Rv
  | .list ds => if (alikeB ds && sortableB ds && ds.all fun d => decide (d.depth ≤ 60) && !d.hasDict) = true then some (.own (.lst (ds.mergeSort (dataLe false id)))) else none
  | _ => none
def gSortX (d : PyData) : Option Rv := match gSortI d with
  | some z => some z
  | none => gSortD d
theorem FrAll.pair : ∀ {vs : List V} {ds : List PyData}, FrAll K H F vs ds → Paired (fun v d => Fr K H F v d) vs ds
  | _, _, .nil => .nil
  | _, _, .cons a b => .cons a (FrAll.pair b)
theorem FrAll.pairN {P : PyData → Prop} : ∀ {vs : List V} {ds : List PyData}, FrAll K H F vs ds → (∀ d ∈ ds, P d ∧ d.hasDict = false) → Paired (fun v d => Fr K H F v d ∧ d.hasDict = false) vs ds
  | _, _, .nil, _ => .nil
  | _, _, .cons a b, h => .cons ⟨a, (h _ List.mem_cons_self).2⟩ (FrAll.pairN b fun d hd => h d (List.mem_cons_of_mem _ hd))
theorem FrAll.of_pair {vs : List V} {ds : List PyData} (h : Paired (fun v d => Fr K H F v d) vs ds) : FrAll K H F vs ds := by
  induction h with
  | nil => exact .nil
  | cons a b ih => exact .cons a ih
theorem sortableB_ok {ds : List PyData} (h : sortableB ds = true) : Sortable ds := by
  unfold sortableB at h
  rcases Bool.or_eq_true _ _ ▸ h with h | h
  · refine .inl fun d hd => ?_
    have := List.all_eq_true.mp h d hd
    cases d with
    | tuple xs => cases xs with
      | nil => cases this
      | cons x r => exact ⟨x, r, rfl⟩
    | _ => cases this
  · refine .inr fun d hd => ?_
    have := List.all_eq_true.mp h d hd
    refine ⟨fun e => ?_, fun xs e => ?_⟩ <;> (subst e; cases this)
theorem o_sortX : Op1 K (fun x H Q => rSorted K [x] H Q ∨ rSortDat K [x] H Q) gSortX := fun H F x d z Q px h q => by
  unfold gSortX at h
  cases e : gSortI d with
  | some y => rw [e] at h; exact .inl (o_sortI H F x d z Q px (e.trans h) q)
  | none =>
    rw [e] at h
    refine .inr ?_
    cases d with
    | list ds =>
      obtain ⟨h1, rfl⟩ := opt_if h
      simp only [Bool.and_eq_true] at h1
      obtain ⟨⟨a1, a2⟩, a3⟩ := h1
      obtain ⟨a, xs, rfl, e1, e2⟩ := px.list
      have a4 : ∀ d ∈ ds, d.depth ≤ 60 ∧ d.hasDict = false := fun d hd => by
        have z := List.all_eq_true.mp a3 d hd
        simp only [Bool.and_eq_true, decide_eq_true_eq, Bool.not_eq_true'] at z
        exact z
      exact ⟨fun v d => Fr K H F v d ∧ d.hasDict = false, a, xs, ds, rfl, e1, e2.pairN a4, fun _ _ t => t.1.dp t.2, fun d hd d' hd' => List.all_eq_true.mp (List.all_eq_true.mp a1 d hd) d' hd', sortableB_ok a2, fun d hd => (a4 d hd).1,
        fun zs p hz hn => q.new _ _ p rfl hn (FrAll.of_pair (paired_imp (fun _ _ t => t.1) hz))⟩
    | _ => cases h
/-! k in d, k not in d, d[k] -/
def dinE (neg : Bool) (f g : M Rv) : M Rv := M.bnd f fun y r1 => (M.bnd g fun x r2 => match dctOf r2 x, (peek r2 y).bind keyOf with
  | some kvs, some k => .ok (.val (.bool (neg != (valD kvs k).isSome))) r2
  | _, _ => .no) r1
def dixE (f g : M Rv) : M Rv := M.bnd f fun x r1 => (M.bnd g fun y r2 => match dctOf r2 x, (peek r2 y).bind keyOf with
  | some kvs, some k => match valD kvs k with
    | some d => .ok (.val d) r2
    | none => .no
  | _, _ => .no) r1
theorem DRel.some {ps : List (Key × V)} {kvs : List (Key × PyData)} (h : DRel K H F ps kvs) (k : Key) : (valV ps k).isSome = (valD kvs k).isSome := by
  have := h.val k
  cases e : valD kvs k with
  | none => rw [e] at this; rw [this]; rfl
  | some d => rw [e] at this; obtain ⟨v, e1, _⟩ := this; rw [e1]; rfl
theorem din_ok {neg : Bool} {f g : M Rv} {Q : VK} (h : tE K α W (dinE neg f g) σ H Q) : tE K α W f σ H fun y H1 => tE K α W g σ H1 fun x H2 => ∃ a o, x = .ref a ∧ DGet H2 a y o ∧ Q (.bl (neg != o.isSome)) H2 := by
  obtain ⟨r, F, S, h⟩ := h
  refine tE_mono (tE_bnd S h) fun x H1 ⟨r1, F1, x1, S1, st1, t1, h1⟩ => ?_
  refine tE_mono (tE_bnd S1 h1) fun y H2 ⟨r2, F2, x2, S2, st2, t2, h2⟩ => ?_
  have t1' := t1.step st2 fun a z => .inl z
  split at h2
  · rename_i kvs k q1 q2
    obtain ⟨a, ps, rfl, rd, dr⟩ := dct_rel S2 t2 q1
    cases ep : peek r2 x1 with
    | none => rw [ep] at q2; cases q2
    | some d =>
      rw [ep] at q2
      have ek := (peek_rel S2 t1' ep).key q2
      refine ⟨a, _, rfl, .inl ⟨ps, k, rd, ek, rfl⟩, (Aft.fin S2 h2).val _ _ rfl ?_⟩
      rw [dr.some k]; exact .bl _
  · exact h2.elim
theorem ev_din {X : Cx} {o e : Expr} {pos : Pos} {f g : M Rv} (hu : X.A.units + 1 < cLine) (he : PE X e (tE K α W f)) (ho : PE X o (tE K α W g)) (hm : behindInMarks .In o = false) : PE X (.Compare e [.In] [o] pos) (tE K α W (dinE false f g)) :=
  pe_weak (pe_cmp (pc_din hu he ho) hm) fun σ H Q q => by
    have := din_ok q
    simpa only [tDIn, Bool.false_bne] using this
theorem ev_dnotin {X : Cx} {o e : Expr} {pos : Pos} {f g : M Rv} (hu : X.A.units + 1 < cLine) (he : PE X e (tE K α W f)) (ho : PE X o (tE K α W g)) (hm : behindInMarks .NotIn o = false) : PE X (.Compare e [.NotIn] [o] pos) (tE K α W (dinE true f g)) :=
  pe_weak (pe_cmp (pc_dnotin hu he ho) hm) fun σ H Q q => by
    have := din_ok q
    simpa only [tDNotIn, Bool.true_bne] using this
theorem tv_din {X : Cx} {o e : Expr} {pos : Pos} {f g : M Rv} (hu : X.A.units + 1 < cLine) (he : PE X e (tE K α W f)) (ho : PE X o (tE K α W g)) (hm : behindInMarks .In o = false) : PT X (.Compare e [.In] [o] pos) (tT K α W (tstB (dinE false f g))) :=
  pt_weak (pt_cmp (pc_din hu he ho) hm) fun σ H Q q => by
    have q1 := tst_ok (P := fun v _ b => v = .bl b) (fun _ _ _ _ _ p e => bool_pk p e) q
    have := din_ok q1
    simpa only [tB, tDIn, Bool.false_bne] using this
theorem tv_dnotin {X : Cx} {o e : Expr} {pos : Pos} {f g : M Rv} (hu : X.A.units + 1 < cLine) (he : PE X e (tE K α W f)) (ho : PE X o (tE K α W g)) (hm : behindInMarks .NotIn o = false) : PT X (.Compare e [.NotIn] [o] pos) (tT K α W (tstB (dinE true f g))) :=
  pt_weak (pt_cmp (pc_dnotin hu he ho) hm) fun σ H Q q => by
    have q1 := tst_ok (P := fun v _ b => v = .bl b) (fun _ _ _ _ _ p e => bool_pk p e) q
    have := din_ok q1
    simpa only [tB, tDNotIn, Bool.true_bne] using this
theorem ev_dix {X : Cx} {o e : Expr} {pos : Pos} {f g : M Rv} (hu : X.A.units + 1 < cLine) (hs : NoSl e) (ho : PE X o (tE K α W f)) (he : PE X e (tE K α W g)) : PE X (.Subscript o e pos) (tE K α W (dixE f g)) :=
  pe_weak (pe_dget hu ho he hs) fun σ H Q q => by
    obtain ⟨r, F, S, h⟩ := q
    refine tE_mono (tE_bnd S h) fun x H1 ⟨r1, F1, x1, S1, st1, t1, h1⟩ => ?_
    refine tE_mono (tE_bnd S1 h1) fun y H2 ⟨r2, F2, x2, S2, st2, t2, h2⟩ => ?_
    have t1' := t1.step st2 fun a z => .inl z
    split at h2
    · rename_i kvs k q1 q2
      obtain ⟨a, ps, rfl, rd, dr⟩ := dct_rel S2 t1' q1
      cases ep : peek r2 x2 with
      | none => rw [ep] at q2; cases q2
      | some d =>
        rw [ep] at q2
        have ek := (peek_rel S2 t2 ep).key q2
        have := dr.val k
        split at h2
        · rename_i d' e3
          rw [e3] at this
          obtain ⟨v, e4, fv⟩ := this
          exact ⟨a, v, rfl, .inl ⟨ps, k, rd, ek, e4.symm⟩, (Aft.fin S2 h2).val _ _ rfl fv⟩
        · exact h2.elim
    · exact h2.elim
end Mi

/-! Mi30.lean -/
set_option Elab.async false
set_option linter.all false
set_option maxRecDepth 100000
/-! an own list as frozen data; a, b = x, y where a name is a cell -/
namespace Mi
open PySem L2 PySem.Spec PyProof.Rows
variable {K : KX} {α : List Addr} {r r' : En} {σ : L2.St} {H H' : Hp} {F F' : Addr → Prop} {W : L2.WX}
def fzE (f : M Rv) : M Rv := M.bnd f fun x => M.bnd (frz x) fun d => M.ret (Rv.val d)
theorem fz_ok {f : M Rv} {Q : VK} (h : tE K α W (fzE f) σ H Q) : tE K α W f σ H Q := by
  obtain ⟨r, F, S, h⟩ := h
  refine frz_bnd (P := fun x => Aft K α σ (Own α r σ) H F W x Q) (fun z => z) S (fun _ _ z => z) h fun v H1 r1 F1 d S1 st fr h1 => ?_
  exact h1 v H1 F1 S1 (st.widen (fun a z => z) fun a z => z.elim (fun z => .inl z) fun ⟨⟨_, z⟩, _⟩ => nomatch z) fr
theorem ev_fz {X : Cx} {e : Expr} {f : M Rv} (h : PE X e (tE K α W f)) : PE X e (tE K α W (fzE f)) := pe_weak h fun _ _ _ q => fz_ok q
theorem par2_ok {g : M (List Rv)} {i j : Nat} {D : Ends} (S : SR K α r σ H F) (h : AftS K α (Own α r σ) H F W (parS i j g r) D) :
    tAsg (tTup (tR K α W g)) (gTup K [i, j].length (gNames [i, j])) D σ H := by
  show tR K α W g σ H _
  refine ⟨r, F, S, ?_⟩
  unfold parS at h
  cases e : g r with
  | no => rw [e] at h; exact h.elim
  | ex x r1 => rw [e] at h; exact h σ
  | ok xs r1 =>
    rw [e] at h
    intro vs H1 F1 S1 st1 t1
    obtain ⟨all, one⟩ := t1
    match xs, vs, all, h with
    | [x, y], [v, w], .cons tx (.cons ty .nil), h =>
      refine ⟨by simp [sizeLine], fun p hp => ⟨p, [v, w], rfl, .inl (.inl upd_same), rfl, ⟨v, [w], rfl, w, [], rfl, rfl, ?_⟩⟩⟩
      show D.nx ((σ.set i (some v)).set j (some w)) (upd H1 p (.tup [v, w]))
      cases e1 : deS x r1 with
      | no => simp only [e1] at h; exact h.elim
      | ex z r2 => simp only [e1] at h; exact h.elim
      | ok x' r2 =>
        simp only [e1] at h
        cases e2 : deS y r2 with
        | no => simp only [e2] at h; exact h.elim
        | ex z r3 => simp only [e2] at h; exact h.elim
        | ok y' r3 =>
          simp only [e2] at h
          obtain ⟨F2, S2, tx2, st2, ow2, sx⟩ := deS_ok S1 tx e1
          obtain ⟨F3, S3, ty3, st3, ow3, sy⟩ := deS_ok S2 (ty.step st2 fun a z => z) e2
          have tx3 := tx2.step st3 fun a z => z
          cases e3 : slOf r3 x' with
          | none => simp only [e3] at h; exact h.elim
          | some s =>
            cases e4 : slOf r3 y' with
            | none => simp only [e3, e4] at h; exact h.elim
            | some t =>
              simp only [e3, e4] at h
              obtain ⟨rs, os, ns⟩ := slOf_ok S3 tx3 e3
              obtain ⟨rt, ot, nt⟩ := slOf_ok S3 ty3 e4
              have far : ∀ o o' a, s = .own o → v = .ref a → t = .own o' → w = .ref a → False := fun o o' a z1 z2 z3 z4 => by
                have ex : x = .own o := by rw [sx ⟨o, os o z1⟩]; exact os o z1
                have ey : y = .own o' := by rw [sy ⟨o', ot o' z3⟩]; exact ot o' z3
                have := one 0 1 o o' a (by simp [ex]) (by simp [z2]) (by simp [ey]) (by simp [z4])
                cases this
              have S4 := S3.put (i := i) rs ns
              have S5 := S4.put (i := j) rt fun o a z1 z2 => ⟨(nt o a z1 z2).1, fun z => (put_own z).elim (nt o a z1 z2).2 fun ⟨⟨o', z3⟩, z4⟩ => far o' o a z3 z4 z1 z2⟩
              have wide : ∀ a, Own α r1 σ a → OwnTs α r1 σ [x, y] [v, w] a := fun a z => .inl z
              have st12 := st1.trans (st2.widen wide fun a z => .inr (.inl (ow2 a z))) fun a z => z
              have st13 := st12.trans st3 fun a z => z
              have fresh : ∀ (q : V) (u : Rv) (k : Nat) (a : Addr), (∃ o, [x, y][k]? = some (.own o)) → [v, w][k]? = some (.ref a) → OwnTs α r1 σ [x, y] [v, w] a := fun q u k a ⟨o, z1⟩ z2 => .inr ⟨k, o, z1, z2⟩
              have low : ∀ a, Own α (put (put r3 i s) j t) ((σ.set i (some v)).set j (some w)) a → OwnTs α r1 σ [x, y] [v, w] a := fun a z => by
                rcases put_own z with z | ⟨⟨o, z1⟩, z2⟩
                · rcases put_own z with z | ⟨⟨o, z1⟩, z2⟩
                  · exact .inl (ow2 a (ow3 a z))
                  · exact .inr ⟨0, o, by rw [sx ⟨o, os o z1⟩, os o z1]; rfl, by rw [z2]; rfl⟩
                · exact .inr ⟨1, o, by rw [sy ⟨o, ot o z1⟩, ot o z1]; rfl, by rw [z2]; rfl⟩
              have stF : Step (Own α r σ) H F H1 F3 (Own α (put (put r3 i s) j t) ((σ.set i (some v)).set j (some w))) := ⟨st13.keep, st13.stay, st13.nfz, fun a z => st1.own a (low a z), st13.dom⟩
              exact h _ _ F3 (S5.new (.tup [v, w]) hp) (stF.trans (step_new S5 (.tup [v, w]) hp fun a z => .inl z) fun a z => z)
theorem sv_par2 {X : Cx} {i j : Nat} {tg : Expr} {a b : Expr} {g : M (List Rv)} {pos : Pos} {k2 pt2} (ha : PA X [a, b] (tR (kx X ε) α W g)) (hg : PG X tg (gTup (kx X ε) [i, j].length (gNames [i, j])))
    (hs : swapsWithSole [tg] (.Tuple [a, b] k2 pt2) pos.line X.env = pure false := by rfl) (hw : swappedStores [tg] (.Tuple [a, b] k2 pt2) X.env = pure none := by rfl)
    (h1 : (assignEach [tg] X.env).map (·.2) = [assign tg X.env] := by rfl) :
    PS X (.Assign [tg] (.Tuple [a, b] k2 pt2) pos) (tS (kx X ε) α W (parS i j g)) := ps_weak (ps_asg (pe_tup ha) hg hs hw h1) fun D σ H ⟨r, F, S, h⟩ => par2_ok S h
end Mi

/-! Mi31.lean -/
set_option Elab.async false
set_option linter.all false
set_option maxRecDepth 100000
/-! sorted of a tuple of ints -/
namespace Mi
open PySem L2 PySem.Spec PyProof.Rows
section
variable {prog : Program} {w : World} {A : Around} {E : Value → Shared → Prop} {s : Shared}
abbrev grownH (h : Heap) (vs : List Value) : Heap := (h.push (seqObj "list" #[] 0)).update h.objs.size (Obj.mapSeq (· ++ vs.toArray))
theorem tup_extend {A1 : Around} {l : Addr} {vs : List Value} {P : PySem.Fin → Shared → Prop} {EP : Value → Shared → Prop} (hl : IsTup s.heap l vs.toArray) (hsz : vs.length ≤ sizeLine)
    (h : P (.done (.ret (.ref s.heap.objs.size))) { s with heap := grownH s.heap vs }) :
    wpAny (model prog w) A1 (Builtin.List.listExtendWith (.ref s.heap.objs.size) (.ref l) (.ref s.heap.objs.size)) P EP { s with heap := s.heap.push (seqObj "list" #[] 0) } := by
  obtain ⟨o, ho, hc, n, hd⟩ := hl
  have h1 := Heap.get?_push_of_some (seqObj "list" #[] 0) ho
  have h2 : (s.heap.push (seqObj "list" #[] 0)).get? s.heap.objs.size = some (seqObj "list" #[] 0) := Heap.get?_push_size _ rfl
  unfold Builtin.List.listExtendWith
  refine wpAny_bind (wpAny_typeOf (T := "tuple") ⟨o, h1, hc⟩ ?_)
  rw [if_pos (by rw [show (Value.type "tuple" == Value.type "tuple") = true from rfl]; simp)]
  refine wpAny_bind (listItems_at h1 hd (wpAny_bind (listItems_at (xs := #[]) (n := 0) h2 rfl ?_)))
  rw [if_neg (by simp)]
  exact wpAny_bind (listUpdate_at (xs := #[]) (n := 0) h2 rfl (wpAny_pure h) (Nat.zero_le _) (by show (#[] ++ vs.toArray).size ≤ sizeLine + 1; simp only [Array.size_append, List.size_toArray, List.length_nil]; omega))
theorem tup_collect {l : Addr} {vs : List Value} {Q : List Value → Shared → Prop} (hl : IsTup s.heap l vs.toArray) (hsz : vs.length ≤ sizeLine) (h : Q vs { s with heap := grownH s.heap vs }) : wpAny (model prog w) A (collect (.ref l)) Q E s := by
  unfold collect
  refine wpAny_bind (wpAny_runValue (codeAny_builtin entry_proto_collect' ?_))
  show wpAny _ _ (do again (.builtin "list.__iadd__" ⟨[← newList [], .ref l], []⟩)) _ _ s
  refine wpAny_bind (wpAny_newList (wpAny_pure ⟨Code.quiet_builtin _ (by decide +kernel), codeAny_builtin entry_list_iadd' ?_⟩))
  show wpAny _ _ (Builtin.List.listExtendWith (.ref s.heap.objs.size) (.ref l) (.ref s.heap.objs.size)) _ _ { s with heap := s.heap.push (seqObj "list" #[] 0) }
  refine tup_extend hl hsz ?_
  show wpAny (model prog w) A (do
      let o ← load s.heap.objs.size
      match o.data with
      | .seq xs _ => pure xs.toList
      | _ => unsupported "internal:collect") Q E { s with heap := grownH s.heap vs }
  refine wpAny_bind (wpAny_load (get?_update_seq (Heap.get?_push_size _ rfl) _) ?_)
  show wpAny _ _ (pure ((#[] : Array Value) ++ vs.toArray).toList) Q E _
  rw [show ((#[] : Array Value) ++ vs.toArray).toList = vs by simp]
  exact wpAny_pure h
theorem tup_sorted {l : Addr} {vs : List Value} {ns : List Int} {Q : Value → Shared → Prop} (hl : IsTup s.heap l vs.toArray) (hI : IntsAre vs ns) (h64 : vs.length < 64)
    (h : ∀ (out : Array Value) (ns' : List Int), IntsAre out.toList ns' → ns'.Perm ns → ns'.Pairwise (· ≤ ·) → Q (.ref (s.heap.objs.size + 1)) { s with heap := sortedAll s.heap vs out }) :
    wpAny (model prog w) A (call (.builtin "sorted") [.ref l]) Q E s := by
  have hz : (grownH s.heap vs).objs.size = s.heap.objs.size + 1 := by rw [Heap.size_update, size_push']
  have ho : ((grownH s.heap vs).push (seqObj "list" vs.toArray 0)).get? (s.heap.objs.size + 1) = some (seqObj "list" vs.toArray 0) := by rw [← hz]; exact Heap.get?_push_size _ rfl
  refine Calls.call_function_entry kind_sorted plain_sorted entry_sorted (args_sorted1 _) ?_
  unfold Builtin.«sorted»
  refine wpAny_bind (m := checkCount "sorted" 1 1 _) (wpAny_pure (wpAny_bind (tup_collect hl (small64 h64) (wpAny_bind (wpAny_newList ?_)))))
  show wpAny _ _ _ _ _ { s with heap := (grownH s.heap vs).push (seqObj "list" vs.toArray 0) }
  rw [hz]
  exact wpAny_bind (wpAny_holding (wpAny_call_entry slot_list_sort ⟨_, ho, rfl⟩ entry_list_sort (list_sort_tree ho hI h64 fun out ns' a1 a2 a3 => ⟨_, rfl, wpAny_pure ⟨_, rfl, h out ns' a1 a2 a3⟩⟩) (args_list_sort _)))
end
variable {K : KX} {α : List Addr} {r r' : En} {σ : L2.St} {H H' : Hp} {F F' : Addr → Prop} {W : L2.WX}
def rSortTu (K : KX) : List V → Hp → VK → Prop := fun vs H Q => ∃ (a : Addr) (ns : List Int), vs = [V.ref a] ∧ SqT K H a (ns.map V.int) ∧ ns.length < 64 ∧
  ∀ (ns' : List Int) (p : Addr), ns'.Perm ns → ns'.Pairwise (· ≤ ·) → H p = none → Q (.ref p) (upd H p (.lst (ns'.map V.int)))
theorem cr_sortedTu {X : Cx} : CallR X (.builtin "sorted") (rSortTu (kx X ε)) := by
  intro pins s σ H vs us Q I r h
  obtain ⟨a, ns, rfl, hs, h64, q⟩ := h
  obtain ⟨its, rv, hl, _⟩ := I.tuple hs
  rw [Vals.ref1 r]
  have hi := rv.ints
  refine tup_sorted hl hi (by rw [hi.length]; exact h64) fun out ns' h1 h2 h3 => ?_
  obtain ⟨ep, he'⟩ := PyProof.Rows.sortedAll_at s.heap its out
  have hlen : (ns'.map V.int).length ≤ sizeLine := by rw [List.length_map, h2.length_eq]; exact small64 h64
  exact ⟨.ref _, upd H (s.heap.objs.size + 1) (.lst (ns'.map V.int)), I.laid (t' := s.toks) (fun _ _ => PyProof.Rows.sortedAll_old) (Nat.le_succ _) ⟨hlen, out.toList, ep, vals_of_ints h1, he'⟩, rfl, q ns' _ h2 h3 (I.hok.fresh (Nat.le_succ _))⟩
/-- sorted: of ints (list or tuple), or of other data (list) -/
def gSortY (d : PyData) : Option Rv := match d with
  | .tuple ds => gSortI (.list ds)
  | _ => gSortX d
theorem o_sortY : Op1 K (fun x H Q => (rSorted K [x] H Q ∨ rSortDat K [x] H Q) ∨ rSortTu K [x] H Q) gSortY := fun H F x d z Q px h q => by
  cases d with
  | tuple ds =>
    refine .inr ?_
    have h : gSortI (.list ds) = some z := h
    unfold gSortI at h
    obtain ⟨ns, h1, h2⟩ := Option.bind_eq_some_iff.mp h
    obtain ⟨h3, rfl⟩ := opt_if h2
    obtain ⟨a, xs, rfl, e1, e2⟩ := px.tup
    have := intsOf_map h1
    subst this
    have := e2.ints
    subst this
    refine ⟨a, ns, rfl, e1, h3, fun ns' p hp hw hn => q.new _ _ p rfl hn ?_⟩
    rw [mergeSort_is hp hw]
    exact fr_intsAll ns'
  | _ => exact .inl (o_sortX H F x _ z Q px h q)
end Mi

/-! Mi32.lean -/
set_option Elab.async false
set_option linter.all false
set_option maxRecDepth 100000
/-! sorted({.. for ..}), of ints -/
namespace Mi
open PySem L2 PySem.Spec PyProof.Rows
section
variable {X : Cx}
/-- {e for target in iter if ..}, of ints: D the new set -/
def tSc (w : World) (wi : TI) (g : TG) (tt : TT) (te : TE) (vs : List Nat) : TE := fun σ H Q => wi σ H fun J H1 => ∀ D, H1 D = none → ∃ W : Nat → Nat → Hp → Prop, (∃ m, W 0 m (upd H1 D (SetO w D (fun _ => false) 0))) ∧ ∀ i m H, W i m H →
  (J.stop i H ∧ Q (.ref D) H) ∨ (J.go i H ∧ ∃ Nx : Hp → Prop, (∀ H', Nx H' → ∃ m', m' < m ∧ W (i + 1) m' H') ∧ ∀ x H', J.yld i H x H' → g x (wipe σ vs) H' fun σ2 H2 => wipe σ2 vs = wipe σ vs ∧ tt σ2 H2 fun b H3 =>
    if b = true then te σ2 H3 fun y H4 => ∃ (S : Int → Bool) (n : Nat) (k : Int), y = .int k ∧ H4 D = some (SetO w D S n) ∧ n + 1 < scanBound ∧ Nx (upd H4 D (SetO w D (fun j => S j || decide (j = k)) (if S k = true then n else n + 1))) else Nx H3)
theorem sc_core {pins : List (Addr × Obj)} {s : Shared} {σ : L2.St} {H : Hp} {Q : VK} {ex tg iter : Expr} {ifs : List Expr} {scope : Scope} {own : List (Str × Nat)} {pos pos' : Pos} {wi : TI} {g : TG} {tt : TT} {te : TE} {use : Option (Value → Sem Unit)} {Qf : Value → Shared → Prop}
    (hc : X.calm = true) (hN : X.N.Nodup) (I : Inv X pins σ H s) (hi : PI X tg iter wi) (ok : BlkOk X.N X.env.scope scope own)
    (hg : ∀ (s : Shared) (H : Hp) (C : Addr) (cl : List (Str × Addr)) (fp : List Addr), PG (X.blk s H scope (compEnvC scope cl C X.env) fp) tg g) (ht : ∀ (s : Shared) (H : Hp) (C : Addr) (cl : List (Str × Addr)) (fp : List Addr), PTs (X.blk s H scope (compEnvC scope cl C X.env) fp) ifs tt)
    (he : ∀ (s : Shared) (H : Hp) (C : Addr) (cl : List (Str × Addr)) (fp : List Addr), PE (X.blk s H scope (compEnvC scope cl C X.env) fp) ex te) (hs : ∀ x, foldedSetIterable iter X.env x = pure x)
    (h : tSc X.w wi g tt te (own.map (·.2)) σ H Q)
    (hRR : ∀ D C s' m H', Inv X pins σ H' s' → Q (.ref D) H' → s'.heap.Ns C m → FpOk X pins H' C → compPost (model X.prog X.w) X.A X.xe use Qf (.ref D) C (.ok .next) s') :
    wpAny (model X.prog X.w) X.A (comprehension (.SetComp ex [⟨tg, iter, ifs, 0⟩] scope pos) scope X.env pos' (newSet (.type "set")) false (eval iter X.env) use) Qf X.xe s := by
  have hfree : ∀ y ∈ scope.names, y.2 = .free → ∃ c, X.env.cells.lookup y.1 = some c := fun y hy e => by
    rcases ok.free y hy e with k | k
    · exact I.ok.has _ (.inl k)
    · exact I.ok.has _ (.inr k)
  refine wpAny_comprehension_free (use := use) rfl hs (closure_ok hfree) ok.kind (fun y hy e => by rw [ok.uniq y hy, e])
    (thn (hi.run pins s σ H _ I h) fun xv s1 hx => thn hx fun itv s2 h2 => ?_)
  obtain ⟨it, fp, tn, J, H2, e, I2, T, st2, f2, q⟩ := h2
  subst e
  refine wpAny_newSet_raw fun led hled => newEnv_comp ?_
  subst hled
  have SN := setR_fresh (h := s2.heap) X.w
  generalize hD : s2.heap.objs.size = D at SN ⊢
  have hDn : H2 D = none := I2.hok.fresh (Nat.le_of_eq hD)
  obtain ⟨W, ⟨m0, w0⟩, turn⟩ := q D hDn
  generalize hs3 : ({ s2 with heap := s2.heap.push { cls := .type "set", dict := none, data := .set #[] 0 (.fresh 0 0 (!X.w.params.followText "set-order")) } } : Shared) = s3
  have I3 : Inv X pins σ (upd H2 D (SetO X.w D (fun _ => false) 0)) s3 := by
    rw [← hs3]
    exact I2.laid (t' := s2.toks) (fun b o e => Heap.get?_push_of_some _ e) (Nat.le_of_eq hD) (setO_new SN)
  have h3 : s3.heap = s2.heap.push { cls := .type "set", dict := none, data := .set #[] 0 (.fresh 0 0 (!X.w.params.followText "set-order")) } := by rw [← hs3]
  have sz : ∀ b ∈ fp, b < s2.heap.objs.size := fun b hb => by
    obtain ⟨o, e, _⟩ := T.obj _ _ st2 b hb
    exact Heap.lt_size e
  have f3 : ∀ b ∈ fp, FpOk X pins (upd H2 D (SetO X.w D (fun _ => false) 0)) b ∧ b < s3.heap.objs.size := fun b hb => by
    have hlt := sz b hb
    refine ⟨⟨?_, (f2 b hb).2⟩, by rw [h3, Heap.size_push]; exact Nat.lt_succ_of_lt hlt⟩
    rw [upd_ne (by rw [← hD]; exact Nat.ne_of_lt hlt)]
    exact (f2 b hb).1
  have st3 : tn 0 s3.heap := T.keep _ _ _ st2 fun b _ o e => by rw [h3]; exact Heap.get?_push_of_some _ e
  have I4 := block_start I3 ok hN f3
  have pg := hg s3 (upd H2 D (SetO X.w D (fun _ => false) 0)) s3.heap.objs.size (cellsFrom (s3.heap.objs.size + 1) scope.names (cloFrom X.env.cells scope.names [])) fp
  have pt := ht s3 (upd H2 D (SetO X.w D (fun _ => false) 0)) s3.heap.objs.size (cellsFrom (s3.heap.objs.size + 1) scope.names (cloFrom X.env.cells scope.names [])) fp
  have pe := he s3 (upd H2 D (SetO X.w D (fun _ => false) 0)) s3.heap.objs.size (cellsFrom (s3.heap.objs.size + 1) scope.names (cloFrom X.env.cells scope.names [])) fp
  show codeAny _ _ (.compStart (.SetComp ex [⟨tg, iter, ifs, 0⟩] scope pos) 0 (.ref it) (.ref D) (compEnvC scope (cellsFrom (s3.heap.objs.size + 1) scope.names (cloFrom X.env.cells scope.names [])) s3.heap.objs.size X.env)) (compPost (model X.prog X.w) X.A X.xe use Qf (.ref D) s3.heap.objs.size) { s3 with heap := pushCells (s3.heap.push { cls := .type "dict", data := .dict #[] }) scope.names }
  have nfp : ∀ b ∈ fp, (upd H2 D (SetO X.w D (fun _ => false) 0)) b = none := fun b hb => (f3 b hb).1.1
  generalize hce : compEnvC scope (cellsFrom (s3.heap.objs.size + 1) scope.names (cloFrom X.env.cells scope.names [])) s3.heap.objs.size X.env = ce at I4 pg pt pe ⊢
  have cL : ce.locals = s3.heap.objs.size := by subst hce; rfl
  generalize hH3 : upd H2 D (SetO X.w D (fun _ => false) 0) = H3 at I3 I4 pg pt pe w0 nfp f3
  generalize hs4 : ({ s3 with heap := pushCells (s3.heap.push { cls := .type "dict", data := .dict #[] }) scope.names } : Shared) = s4 at I4 ⊢
  have st4 : tn 0 s4.heap := T.keep _ _ _ st3 fun b _ o e => by rw [← hs4]; exact pushCells_keeps _ _ _ _ (Heap.get?_push_of_some _ e)
  have stat : ∀ {σ' : L2.St} {H' : Hp} {s' : Shared}, Inv (X.blk s3 H3 scope ce fp) [] σ' H' s' → (∀ b ∈ fp, H' b = none) → ∀ b ∈ fp, FpOk (X.blk s3 H3 scope ce fp) [] H' b := fun {σ' H' s'} I' hn b hb =>
    ⟨hn b hb, (I'.ok.exf b hb).1, I'.ok.exfs b hb, .inl hb, fun x c e => (I'.ok.exf b hb).2 x c e, fun p hp => absurd (show p ∈ ([] : List (Addr × Obj)) ++ [] from hp) (by simp)⟩
  have loop : codeAny (model X.prog X.w) X.A (.compLoop (.SetComp ex [⟨tg, iter, ifs, 0⟩] scope pos) 0 (.ref it) (.ref D) ce) (compPost (model X.prog X.w) X.A X.xe use Qf (.ref D) s3.heap.objs.size) s4 := by
    refine compLoop_set_any (fun n s' => ∃ i H', Inv (X.blk s3 H3 scope ce fp) [] (wipe σ (own.map (·.2))) H' s' ∧ tn i s'.heap ∧ (∀ b ∈ fp, H' b = none) ∧ W i n H') ?_ m0 ⟨0, H3, I4, st4, nfp, w0⟩
    rintro n s5 ⟨i, H5, I5, st5, n5, w5⟩
    rcases turn i n H5 w5 with ⟨stop, qq⟩ | ⟨go, Nx, hNx, step⟩
    · have td := T.done (X.blk s3 H3 scope ce fp) rfl rfl rfl hc i [] s5 _ H5 (fun _ _ => False) I5 (stat I5 n5) st5 stop
      refine thnF td fun r s6 ⟨hr, I6⟩ => ?_
      subst hr
      have I7 : Inv X pins σ H5 s6 := I3.call' (ch := fp) I6.os I6.base I6.hok I6.bare fun b hb => ⟨(f3 b hb).1.2.2.2.1, (f3 b hb).1.2.1, (f3 b hb).1.2.2.2.2.1, (f3 b hb).1.2.2.2.2.2⟩
      have nC : H5 s3.heap.objs.size = none := by
        have z : H5 ce.locals = none := I6.free
        rw [cL] at z
        exact z
      obtain ⟨m, hn, _⟩ := I6.loc
      have hn : s6.heap.Ns ce.locals m := hn
      rw [cL] at hn
      exact hRR D s3.heap.objs.size s6 m H5 I7 qq hn (I3.fpOk (Nat.le_refl _) nC)
    · have ti := T.item (X.blk s3 H3 scope ce fp) rfl rfl rfl hc i [] s5 _ H5 (fun _ _ => False) I5 (stat I5 n5) st5 go
      refine thnF ti fun r s6 ⟨u, hr, h6⟩ => ?_
      subst hr
      refine thnF h6 fun _ s7 ⟨x, H7, I7, r7, y7, st7, n7⟩ => ?_
      have I7' := I7.pinned (stat I7 n7) (T.obj _ _ st7)
      refine thnF (pg.run _ s7 _ H7 x u _ I7' r7 (step x H7 y7)) fun _ s8 ⟨σ8, H8, I8, hw8, q8⟩ => ?_
      refine thnF (pt.run _ s8 σ8 H8 _ I8 q8) fun b s9 ⟨H9, I9, q9⟩ => ?_
      have fin : ∀ {s' : Shared} {H' : Hp}, Inv (X.blk s3 H3 scope ce fp) ([] ++ pinsAt fp s7.heap) σ8 H' s' → Nx H' → ∃ m, m < n ∧ ∃ i H', Inv (X.blk s3 H3 scope ce fp) [] (wipe σ (own.map (·.2))) H' s' ∧ tn i s'.heap ∧ (∀ b ∈ fp, H' b = none) ∧ W i m H' := fun {s' H'} I' nx => by
        obtain ⟨m', hm, w'⟩ := hNx H' nx
        have pin' : ∀ b ∈ fp, ∀ o, s7.heap.get? b = some o → s'.heap.get? b = some o ∧ H' b = none := fun b hb o e =>
          let z := I'.pin (b, o) (List.mem_append_right _ (List.mem_append_right _ (mem_pinsAt hb e)))
          ⟨z.1, z.2.1⟩
        have hl : (wipe σ (own.map (·.2))).length = σ8.length := by rw [← hw8, wipe_length]
        refine ⟨m', hm, i + 1, H', (I'.unpinned (pins := [])).weak hl (fun j v e => ?_), T.keep _ _ _ st7 fun b hb o e => (pin' b hb o e).1, fun b hb => ?_, w'⟩
        · rw [← hw8] at e
          exact (wipe_some e).1
        · obtain ⟨o, e, _⟩ := T.obj _ _ st7 b hb
          exact (pin' b hb o e).2
      cases b with
      | false =>
        simp only [Bool.false_eq_true, if_false] at q9 ⊢
        exact fin I9 q9
      | true =>
        simp only [if_true] at q9 ⊢
        refine thnF (pe.run _ s9 σ8 H9 _ I9 q9) fun z s10 ⟨yk, H10, I10, r10, S, nn, k, ek, hD10, hz10, nx⟩ => ?_
        subst ek
        obtain ⟨tk, rfl⟩ := r10
        have R := setO_get (X := X.blk s3 H3 scope ce fp) I10 hD10
        refine setR_add R hz10 fun h' sb new => ?_
        have he : ∃ u, h'.get? D = some u := by
          have ⟨o, _, _, _, ho, _⟩ := new
          exact ⟨o, ho⟩
        exact fin (I10.write (e := D) (t' := s10.toks + 1) (by rw [hD10]; trivial) (.inl rfl) (fun b u hb hu => (sb.2 b hb).trans hu) he (setO_new new)) nx
  exact codeAny_compStart_set loop (T.self X.A 0 _ _ _ st4 loop)
theorem pe_sc {ex tg iter : Expr} {ifs : List Expr} {scope : Scope} {own : List (Str × Nat)} {pos : Pos} {wi : TI} {g : TG} {tt : TT} {te : TE} (hc : X.calm = true) (hN : X.N.Nodup) (hi : PI X tg iter wi) (ok : BlkOk X.N X.env.scope scope own)
    (hg : ∀ (s : Shared) (H : Hp) (C : Addr) (cl : List (Str × Addr)) (fp : List Addr), PG (X.blk s H scope (compEnvC scope cl C X.env) fp) tg g) (ht : ∀ (s : Shared) (H : Hp) (C : Addr) (cl : List (Str × Addr)) (fp : List Addr), PTs (X.blk s H scope (compEnvC scope cl C X.env) fp) ifs tt)
    (he : ∀ (s : Shared) (H : Hp) (C : Addr) (cl : List (Str × Addr)) (fp : List Addr), PE (X.blk s H scope (compEnvC scope cl C X.env) fp) ex te) (hs : ∀ x, foldedSetIterable iter X.env x = pure x := by intro _; rfl) :
    PE X (.SetComp ex [⟨tg, iter, ifs, 0⟩] scope pos) (tSc X.w wi g tt te (own.map (·.2))) := by
  refine ⟨fun pins s σ H Q I h => ?_⟩
  rw [arm_eval_SetComp]
  refine sc_core hc hN I hi ok hg ht he hs h fun D C s' m H' I' q hn f => ⟨m, hn, fun h'' sb => ?_⟩
  obtain ⟨f0, f1, f2, f3, f4, f5⟩ := f
  exact ⟨.ref D, H', I'.turned (t' := s'.toks) (fun b o hb e => (sb.2 b hb).trans e) f0 f1 f3 f4 f5, rfl, q⟩
end
end Mi

/-! Mi33.lean -/
set_option Elab.async false
set_option linter.all false
set_option maxRecDepth 100000
/-! sorted({.. for ..}) by its evaluator -/
namespace Mi
open PySem L2 PySem.Spec PyProof.Rows
variable {K : KX} {α : List Addr} {r r' : En} {σ : L2.St} {H H' : Hp} {F F' : Addr → Prop} {W : L2.WX}
/-! sorted ints without doubles -/
def insU (i : Int) : List Int → List Int
  | [] => [i]
  | j :: js => if i < j then i :: j :: js else if i = j then j :: js else j :: insU i js
def sortU (ns : List Int) : List Int := ns.foldr insU []
theorem mem_insU {i k : Int} : ∀ {js : List Int}, k ∈ insU i js ↔ k = i ∨ k ∈ js
  | [] => by simp [insU]
  | j :: js => by
    unfold insU
    split
    · simp
    · split
      · rename_i e; subst e; simp
      · simp only [List.mem_cons, mem_insU]
        constructor
        · rintro (h | h | h) <;> simp [h]
        · rintro (h | h | h) <;> simp [h]
theorem mem_sortU {k : Int} : ∀ {ns : List Int}, k ∈ sortU ns ↔ k ∈ ns
  | [] => by simp [sortU]
  | n :: ns => by
    show k ∈ insU n (sortU ns) ↔ _
    rw [mem_insU, mem_sortU, List.mem_cons]
theorem pw_insU {i : Int} : ∀ {js : List Int}, js.Pairwise (· < ·) → (insU i js).Pairwise (· < ·)
  | [], _ => by simp [insU]
  | j :: js, h => by
    unfold insU
    have hj := List.pairwise_cons.mp h
    split
    · rename_i hij
      refine List.pairwise_cons.mpr ⟨fun k hk => ?_, h⟩
      rcases List.mem_cons.mp hk with e | e
      · rw [e]; exact hij
      · have := hj.1 k e; omega
    · split
      · exact h
      · refine List.pairwise_cons.mpr ⟨fun k hk => ?_, pw_insU hj.2⟩
        rcases mem_insU.mp hk with e | e
        · omega
        · exact hj.1 k e
theorem pw_sortU : ∀ ns : List Int, (sortU ns).Pairwise (· < ·)
  | [] => List.Pairwise.nil
  | n :: ns => pw_insU (pw_sortU ns)
theorem pw_unique : ∀ {xs ys : List Int}, xs.Pairwise (· < ·) → ys.Pairwise (· < ·) → (∀ k, k ∈ xs ↔ k ∈ ys) → xs = ys
  | [], [], _, _, _ => rfl
  | [], y :: ys, _, _, h => absurd ((h y).mpr List.mem_cons_self) (by simp)
  | x :: xs, [], _, _, h => absurd ((h x).mp List.mem_cons_self) (by simp)
  | x :: xs, y :: ys, hx, hy, h => by
    have hx' := List.pairwise_cons.mp hx
    have hy' := List.pairwise_cons.mp hy
    have e : x = y := by
      rcases List.mem_cons.mp ((h x).mp List.mem_cons_self) with e | e
      · exact e
      · rcases List.mem_cons.mp ((h y).mpr List.mem_cons_self) with e2 | e2
        · exact e2.symm
        · have := hy'.1 x e; have := hx'.1 y e2; omega
    subst e
    refine congrArg (x :: ·) (pw_unique hx'.2 hy'.2 fun k => ?_)
    constructor
    · intro hk
      rcases List.mem_cons.mp ((h k).mp (List.mem_cons_of_mem _ hk)) with e | e
      · have := hx'.1 k hk; omega
      · exact e
    · intro hk
      rcases List.mem_cons.mp ((h k).mpr (List.mem_cons_of_mem _ hk)) with e | e
      · have := hy'.1 k hk; omega
      · exact e
theorem len_insU {i : Int} : ∀ {js : List Int}, js.Pairwise (· < ·) → (insU i js).length = if i ∈ js then js.length else js.length + 1
  | [], _ => by simp [insU]
  | j :: js, h => by
    have hj := List.pairwise_cons.mp h
    unfold insU
    by_cases h1 : i < j
    · rw [if_pos h1, if_neg (fun hm => by
        rcases List.mem_cons.mp hm with e | e
        · omega
        · have := hj.1 i e; omega)]
      simp
    · rw [if_neg h1]
      by_cases h2 : i = j
      · rw [if_pos h2, if_pos (by rw [h2]; exact List.mem_cons_self)]
      · rw [if_neg h2, List.length_cons, len_insU hj.2]
        by_cases h3 : i ∈ js
        · rw [if_pos h3, if_pos (List.mem_cons_of_mem _ h3), List.length_cons]
        · rw [if_neg h3, if_neg (fun hm => by
            rcases List.mem_cons.mp hm with e | e
            · exact h2 e
            · exact h3 e), List.length_cons]
theorem len_sortU_app {ns : List Int} {k : Int} : (sortU (ns ++ [k])).length = if k ∈ ns then (sortU ns).length else (sortU ns).length + 1 := by
  have e : sortU (ns ++ [k]) = insU k (sortU ns) := pw_unique (pw_sortU _) (pw_insU (pw_sortU _)) fun j => by
    rw [mem_sortU, mem_insU, mem_sortU, List.mem_append, List.mem_singleton]
    exact ⟨fun h => h.symm, fun h => h.symm⟩
  rw [e, len_insU (pw_sortU ns)]
  by_cases h : k ∈ ns
  · rw [if_pos h, if_pos (mem_sortU.mpr h)]
  · rw [if_neg h, if_neg (fun q => h (mem_sortU.mp q))]
/-! the evaluator -/
def intE (f : M Rv) : M Rv := M.bnd f fun x r => match peek r x with
  | some (.int k) => .ok (.val (.int k)) r
  | _ => .no
def ssP (x : Res (List PyData)) (r1 : En) (T : List Nat) : Res Rv := match x with
  | .ok acc r2 => if acc.length < 4000 then (match intsOf acc with
    | some ns => if (sortU ns).length < 64 then .ok (.own (.lst ((sortU ns).map PyData.int))) (restV r1 r2 T) else .no
    | none => .no) else .no
  | _ => .no
def ssE (it : M Src) (tg : PyData → En → Option En) (T : List Nat) (tt : M Bool) (f : M Rv) : M Rv := M.bnd it fun s r => if calm r T = true then ssP (lcN s.nth tg T tt (intE f) s.fuel 0 [] (wipeV r T)) r T else .no
theorem intE_ok {f : M Rv} {r r' : En} {d : PyData} (h : M.bnd (intE f) frz r = .ok d r') : ∃ x k, f r = .ok x r' ∧ peek r' x = some (.int k) ∧ d = .int k := by
  unfold intE M.bnd at h
  cases e : f r with
  | no => simp only [e] at h; cases h
  | ex z r1 => simp only [e] at h; cases h
  | ok x r1 =>
    simp only [e] at h
    cases ep : peek r1 x with
    | none => simp only [ep] at h; cases h
    | some y =>
      cases y with
      | int k => simp only [ep, frz] at h; injection h with h1 h2; subst h1 h2; exact ⟨x, k, rfl, ep, rfl⟩
      | _ => simp only [ep] at h; cases h
theorem lcN_len {nth : En → Nat → Option (Option PyData)} {tg : PyData → En → Option En} {T : List Nat} {tt : M Bool} {f : M Rv} : ∀ {m i : Nat} {acc acc' : List PyData} {r r' : En}, lcN nth tg T tt f m i acc r = .ok acc' r' → acc.length ≤ acc'.length := by
  intro m
  induction m with
  | zero =>
    intro i acc acc' r r' h
    unfold lcN at h
    split at h
    · cases h
    · injection h with h; subst h; exact Nat.le_refl _
    · cases h
  | succ m ih =>
    intro i acc acc' r r' h
    unfold lcN at h
    split at h
    · cases h
    · injection h with h; subst h; exact Nat.le_refl _
    · dsimp only at h
      split at h
      · cases h
      · split at h
        · cases h
        · cases h
        · exact ih h
        · split at h
          · cases h
          · cases h
          · split at h
            · have := ih h
              rw [List.length_append] at this
              omega
            · cases h
/-- the set that grows -/
def SetG (w : World) (H : Hp) (F : Addr → Prop) (O : Addr → Prop) (D : Addr) (acc : List PyData) : Prop := ∃ (S : Int → Bool) (n : Nat), H D = some (SetO w D S n) ∧ n ≤ acc.length ∧ (∃ ns, intsOf acc = some ns ∧ n ≤ (sortU ns).length ∧ ∀ k, S k = true ↔ k ∈ ns) ∧ ¬ F D ∧ ¬ O D
theorem intsOf_app : ∀ {xs : List PyData} {ns : List Int} {k : Int}, intsOf xs = some ns → intsOf (xs ++ [.int k]) = some (ns ++ [k])
  | [], ns, k, h => by simp only [intsOf, Option.some.injEq] at h; subst h; rfl
  | .int i :: xs, ns, k, h => by
    simp only [intsOf, Option.map_eq_some_iff, List.cons_append] at h ⊢
    obtain ⟨ms, h1, h2⟩ := h
    subst h2
    exact ⟨ms ++ [k], intsOf_app h1, rfl⟩
  | .none :: xs, _, _, h => by cases h
  | .bool _ :: xs, _, _, h => by cases h
  | .str _ :: xs, _, _, h => by cases h
  | .list _ :: xs, _, _, h => by cases h
  | .tuple _ :: xs, _, _, h => by cases h
  | .dict _ :: xs, _, _, h => by cases h
theorem setO_immu {w : World} {a : Addr} {S : Int → Bool} {n : Nat} : immu (SetO w a S n) = false := rfl
structure Tz (w : World) (K : KX) (α : List Addr) (O0 : Addr → Prop) (H0 : Hp) (F0 : Addr → Prop) (H1 : Hp) (F1 : Addr → Prop) (V : Hp → (Addr → Prop) → Prop) (D : Addr) (acc : List PyData) (r : En) (σ : L2.St) (H : Hp) (F : Addr → Prop) : Prop where
  sr : SR K α r σ H F
  v : V H F
  tr : SetG w H F (Own α r σ) D acc
  stay : Stay H1 F1 H F
  step : Step O0 H0 F0 H F (fun a => Own α r σ a ∨ a = D)
theorem SetG.move {w : World} {O O' : Addr → Prop} {O2 : Addr → Prop} {D : Addr} {acc : List PyData} (h : SetG w H F O D acc) (s : Step O H F H' F' O') (ho : ∀ a, O2 a → O' a) : SetG w H' F' O2 D acc := by
  obtain ⟨S, n, hH, hn, hs, hF, hN⟩ := h
  refine ⟨S, n, s.keep D _ hH hN, hn, hs, fun z => ?_, fun z => ?_⟩
  · rcases s.nfz D z with z | z | z
    · exact hF z
    · exact hN z
    · rw [hH] at z; cases z
  · rcases s.own D (ho D z) with z | z
    · exact hN z
    · rw [hH] at z; cases z
theorem Tz.next {w : World} {O0 : Addr → Prop} {H0 H1 : Hp} {F0 F1 : Addr → Prop} {V : Hp → (Addr → Prop) → Prop} {D : Addr} {acc : List PyData} {σ' : L2.St} {O' : Addr → Prop} (t : Tz w K α O0 H0 F0 H1 F1 V D acc r σ H F) (hv : ∀ H F H' F', V H F → Stay H F H' F' → V H' F')
    (S : SR K α r' σ' H' F') (s : Step (Own α r σ) H F H' F' O') (ho : ∀ a, Own α r' σ' a → O' a) : Tz w K α O0 H0 F0 H1 F1 V D acc r' σ' H' F' :=
  ⟨S, hv _ _ _ _ t.v s.stay, t.tr.move s ho, t.stay.trans s.stay, t.step.trans (s.widen (P := fun a => Own α r σ a ∨ a = D) (fun _ z => .inl z) fun a z => z.elim (fun z => .inl (ho a z)) fun z => .inr (.inr z)) fun _ z => z⟩
theorem SetG.grow {w : World} {D : Addr} {acc : List PyData} {S : Int → Bool} {n : Nat} {k : Int} (SS : SR K α r σ H F) (hH : H D = some (SetO w D S n)) (hn : n ≤ acc.length) (hs : ∃ ns, intsOf acc = some ns ∧ n ≤ (sortU ns).length ∧ ∀ k, S k = true ↔ k ∈ ns) (hF : ¬ F D) (hN : ¬ Own α r σ D) :
    let H2 := upd H D (SetO w D (fun j => S j || decide (j = k)) (if S k = true then n else n + 1))
    SR K α r σ H2 F ∧ SetG w H2 F (Own α r σ) D (acc ++ [.int k]) ∧ Stay H F H2 F ∧ Step (fun a => Own α r σ a ∨ a = D) H F H2 F (fun a => Own α r σ a ∨ a = D) := by
  intro H2
  have st : Stay H F H2 F := ⟨fun _ h => h, fun x q => upd_ne (fun e => hF (by rw [← e]; exact q)), fun x w' q i => by
    by_cases e : x = D
    · subst e; rw [hH] at q; cases q; cases i
    · show upd H D _ x = _
      rw [upd_ne e]; exact q⟩
  obtain ⟨ns, h1, h3, h2⟩ := hs
  refine ⟨SS.over st (fun x q => upd_ne fun e => hN (by rw [← e]; exact q)) (fun x ⟨l, q⟩ => SS.sep l x q) (fun x q => ?_), ⟨_, _, upd_same, ?_, ⟨ns ++ [k], intsOf_app h1, ?_, fun j => ?_⟩, hF, hN⟩, st,
    ⟨fun x o q n => by show upd H D _ x = _; rw [upd_ne (show x ≠ D from fun e => n (.inr e))]; exact q, st, fun x q => .inl q, fun x q => .inl q, fun x q => ?_⟩⟩
  · obtain ⟨w', q2⟩ := SS.fdom x q
    exact ⟨w', by show upd H D _ x = _; rw [upd_ne (show x ≠ D from fun e => hF (by rw [← e]; exact q))]; exact q2⟩
  · rw [List.length_append, List.length_singleton]; split <;> omega
  · rw [len_sortU_app]
    by_cases hk : k ∈ ns
    · rw [if_pos hk, if_pos ((h2 k).mpr hk)]; exact h3
    · rw [if_neg hk, if_neg (fun q => hk ((h2 k).mp q))]; omega
  · rw [Bool.or_eq_true, decide_eq_true_eq, h2 j, List.mem_append, List.mem_singleton]
  · by_cases e : x = D
    · subst e
      have q : upd H x (SetO w x (fun j => S j || decide (j = k)) (if S k = true then n else n + 1)) x = none := q
      rw [upd_same] at q; cases q
    · have q : upd H D (SetO w D (fun j => S j || decide (j = k)) (if S k = true then n else n + 1)) x = none := q
      rwa [upd_ne e] at q
theorem ss_ok {w : World} {it : M Src} {g : TG} {tg : PyData → En → Option En} {T : List Nat} {tt : M Bool} {f : M Rv} {Q : VK} (ht : TgOk K α g tg T) (h : tE K α W (ssE it tg T tt f) σ H Q) :
    tSc w (tI K α W it) g (tT K α W0 tt) (tE K α W0 f) T σ H fun v H1 => rSortedSet w [v] H1 Q := by
  obtain ⟨r, F, S, h⟩ := h
  refine ⟨r, F, S, ?_⟩
  unfold ssE M.bnd at h
  cases e : it r with
  | no => simp only [e] at h; exact h
  | ex z r1 => simp only [e] at h; exact h
  | ok s r1 =>
    simp only [e] at h
    intro J V H1 F1 S1 st1 so v1 D hD
    by_cases hc : calm r1 T = true
    case neg => rw [if_neg hc] at h; exact h.elim
    rw [if_pos hc] at h
    let Pw : Res (List PyData) → Prop := fun x => Aft K α σ (Own α r σ) H F W (ssP x r1 T) Q
    have h : Pw (lcN s.nth tg T tt (intE f) s.fuel 0 [] (wipeV r1 T)) := h
    have S1w := S1.wipe T
    refine ⟨fun i m H' => ∃ rc F' acc, Tz w K α (Own α r σ) H F H1 F1 V D acc rc (L2.wipe σ T) H' F' ∧ Pw (lcN s.nth tg T tt (intE f) m i acc rc), ⟨s.fuel, wipeV r1 T, F1, [], ⟨S1w.new _ hD, so.stay _ _ _ _ v1 (stay_new S1 _ hD),
      ⟨_, 0, upd_same, Nat.le_refl _, ⟨[], rfl, Nat.zero_le _, fun k => by simp⟩, notF_new S1 hD, notOwn_new S1w hD⟩, stay_new S1 _ hD, st1.trans (step_new S1 _ hD fun a z => z.imp (fun ⟨l, q⟩ => ⟨l, wipe_holds q⟩) id) fun _ z => z⟩, h⟩, ?_⟩
    rintro i m H2 ⟨rc, F2, acc, t, h⟩
    unfold lcN at h
    cases en : s.nth rc i with
    | none => simp only [en] at h; exact h.elim
    | some o =>
      have tn := so.turn rc _ H2 F2 i o t.sr t.v en
      cases o with
      | none =>
        simp only [en] at h
        obtain ⟨R, ow⟩ := SR.rest S1 t.sr t.stay hc
        refine .inl ⟨tn, ?_⟩
        have h : Aft K α σ (Own α r σ) H F W (ssP (.ok acc rc) r1 T) Q := h
        unfold ssP at h
        dsimp only at h
        split at h
        case isFalse => exact h.elim
        rename_i hz
        obtain ⟨SB, n, e1, e2, ⟨ns, e3, e7, e4⟩, e5, e6⟩ := t.tr
        rw [e3] at h
        dsimp only at h
        split at h
        case isFalse => exact h.elim
        rename_i hz2
        refine ⟨D, SB, n, rfl, e1, by omega, fun ms p pw mem hl hp => ?_⟩
        have em : ms = sortU ns := pw_unique pw (pw_sortU ns) fun k => by rw [mem, e4, mem_sortU]
        subst em
        have e6' : ¬ Own α (restV r1 rc T) σ D := fun z => e6 (ow D z)
        refine h (.ref p) _ F2 (R.new _ hp) (t.step.trans (step_new R _ hp (O' := OwnT α (restV r1 rc T) σ (.own (.lst ((sortU ns).map PyData.int))) (.ref p)) fun a z => z.imp id fun ⟨_, z⟩ => by injection z with z; exact z.symm) fun a z => .inl (ow a z)) ?_
        refine ⟨p, _, rfl, upd_same, ⟨_, rfl, ?_⟩, notF_new R hp, notOwn_new R hp⟩
        have : ∀ (ls : List Int) (H : Hp) (F : Addr → Prop), FrAll K H F (ls.map L2.V.int) (ls.map PyData.int) := fun ls H F => by
          induction ls with
          | nil => exact .nil
          | cons l ls ih => exact .cons (.int l) ih
        exact this _ _ _
      | some d =>
        simp only [en] at h
        obtain ⟨go, yl⟩ := tn
        cases m with
        | zero => exact h.elim
        | succ m =>
          simp only at h
          cases et : tg d (wipeV rc T) with
          | none => simp only [et] at h; exact h.elim
          | some r2 =>
            simp only [et] at h
            refine .inr ⟨go, fun H' => ∃ rc F' acc, Tz w K α (Own α r σ) H F H1 F1 V D acc rc (L2.wipe σ T) H' F' ∧ Pw (lcN s.nth tg T tt (intE f) m (i + 1) acc rc), fun H' q => ⟨m, Nat.lt_succ_self m, q⟩, fun x H' y => ?_⟩
            have Sw : SR K α (wipeV rc T) (L2.wipe σ T) H2 F2 := by
              have q := t.sr.wipe T
              rwa [wipe_wipe] at q
            have tw : Tz w K α (Own α r σ) H F H1 F1 V D acc (wipeV rc T) (L2.wipe σ T) H2 F2 := t.next so.stay Sw (Step.refl fun _ z => z) fun a ⟨l, q⟩ => by
              rw [← wipe_wipe] at q
              exact ⟨l, wipe_holds q⟩
            obtain ⟨S3, fx, st3⟩ := yl_sr Sw (yl x H' y)
            refine ht.go (wipeV rc T) r2 (L2.wipe σ T) H' F2 x d _ S3 fx et fun σ3 S4 ow4 w4 => ?_
            have w4 : L2.wipe σ3 T = L2.wipe σ T := w4.trans (wipe_wipe T σ)
            have t4 : Tz w K α (Own α r σ) H F H1 F1 V D acc r2 σ3 H' F2 := tw.next so.stay S4 st3 ow4
            refine ⟨w4, r2, F2, S4, ?_⟩
            cases ett : tt r2 with
            | no => simp only [ett] at h; exact h
            | ex z r3 => simp only [ett] at h; exact h.elim
            | ok b r3 =>
              simp only [ett] at h
              intro H5 F5 S5 st5
              have t5 : Tz w K α (Own α r σ) H F H1 F1 V D acc r3 σ3 H5 F5 := t4.next so.stay S5 st5 fun _ z => z
              have toW : ∀ {acc : List PyData} {r3 : En} {H5 : Hp} {F5 : Addr → Prop}, Tz w K α (Own α r σ) H F H1 F1 V D acc r3 σ3 H5 F5 → Tz w K α (Own α r σ) H F H1 F1 V D acc (wipeV r3 T) (L2.wipe σ T) H5 F5 := fun {acc r3 H5 F5} t5 => by
                have Sw5 := t5.sr.wipe T
                rw [w4] at Sw5
                exact t5.next so.stay Sw5 (Step.refl fun _ z => z) fun a ⟨l, q⟩ => by
                  rw [← w4] at q
                  exact ⟨l, wipe_holds q⟩
              cases b with
              | false =>
                refine iteF ?_
                exact ⟨wipeV r3 T, F5, acc, toW t5, h⟩
              | true =>
                refine iteT ⟨r3, F5, S5, ?_⟩
                have h : Pw (match M.bnd (intE f) frz r3 with
                  | .no => .no
                  | .ex e r3 => .no
                  | .ok y r3 => if acc.length < sizeLine then lcN s.nth tg T tt (intE f) m (i + 1) (acc ++ [y]) (wipeV r3 T) else .no) := h
                cases ef : M.bnd (intE f) frz r3 with
                | no => rw [ef] at h; exact h.elim
                | ex z r4 => rw [ef] at h; exact h.elim
                | ok dy r4 =>
                  rw [ef] at h
                  dsimp only at h
                  obtain ⟨x1, k, ef1, ep, rfl⟩ := intE_ok ef
                  rw [ef1]
                  intro yv H6 F6 S6 st6 tz
                  have pk := peek_rel S6 tz ep
                  have ey := pk.int
                  subst ey
                  have t7 : Tz w K α (Own α r σ) H F H1 F1 V D acc r4 σ3 H6 F6 := t5.next so.stay S6 (st6.more fun a z => .inl z) fun _ z => z
                  split at h
                  · rename_i hz
                    obtain ⟨SB, n, e1, e2, e3, e4, e5⟩ := t7.tr
                    have hlen : acc.length + 1 < 4000 := by
                      cases el : lcN s.nth tg T tt (intE f) m (i + 1) (acc ++ [.int k]) (wipeV r4 T) with
                      | no => rw [el] at h; exact h.elim
                      | ex z r5 => rw [el] at h; exact h.elim
                      | ok acc' r5 =>
                        have q := lcN_len el
                        rw [el] at h
                        have h : Aft K α σ (Own α r σ) H F W (ssP (.ok acc' r5) r1 T) Q := h
                        unfold ssP at h
                        dsimp only at h
                        split at h
                        · rw [List.length_append, List.length_singleton] at q; omega
                        · exact h.elim
                    obtain ⟨g1, g2, g3, g4⟩ := SetG.grow (k := k) t7.sr e1 e2 e3 e4 e5
                    refine ⟨SB, n, k, rfl, e1, by unfold scanBound; omega, ?_⟩
                    exact ⟨wipeV r4 T, F6, acc ++ [.int k], toW ⟨g1, so.stay _ _ _ _ t7.v g3, g2, t7.stay.trans g3, t7.step.trans g4 fun _ z => z⟩, h⟩
                  · exact h.elim
section
variable {X : Cx} {elt tg iter c : Expr} {ifs : List Expr} {scope : Scope} {own : List (Str × Nat)} {pos spos : Pos} {it : M Src} {g : TG} {tgf : PyData → En → Option En} {tt : M Bool} {f : M Rv}
theorem ev_ss {p cpos : Pos} {T : List Nat} (hgl : Gl X "sorted") (hm : X.mg "sorted" = none) (hT : own.map (·.2) = T) (hc : X.calm = true) (hN : X.N.Nodup) (hi : PI X tg iter (tI K α W it)) (ok : BlkOk X.N X.env.scope scope own)
    (hg : ∀ (s : Shared) (H : Hp) (C : Addr) (cl : List (Str × Addr)) (fp : List Addr), PG (X.blk s H scope (compEnvC scope cl C X.env) fp) tg g) (ht : ∀ (s : Shared) (H : Hp) (C : Addr) (cl : List (Str × Addr)) (fp : List Addr), PTs (X.blk s H scope (compEnvC scope cl C X.env) fp) ifs (tT K α W0 tt))
    (he : ∀ (s : Shared) (H : Hp) (C : Addr) (cl : List (Str × Addr)) (fp : List Addr), PE (X.blk s H scope (compEnvC scope cl C X.env) fp) elt (tE K α W0 f)) (htg : TgOk K α g tgf T) (hs : ∀ x, foldedSetIterable iter X.env x = pure x := by intro _; rfl)
    (hst : starEach [Expr.SetComp elt [⟨tg, iter, ifs, 0⟩] scope pos] X.env = (false, eval (.SetComp elt [⟨tg, iter, ifs, 0⟩] scope pos) X.env) :: starEach [] X.env := by rfl) :
    PE X (.Call (.Name "sorted" p) [.SetComp elt [⟨tg, iter, ifs, 0⟩] scope pos] [] cpos) (tE K α W (ssE it tgf T tt f)) :=
  pe_weak (pe_callB (cr_sortedSet hc) hgl hm (by decide +kernel) (pa_cons (pe_sc hc hN hi ok hg ht he hs) pa_nil hst) (by decide) (by decide) hst rfl) fun σ H Q q => by
    rw [hT]
    exact ss_ok htg q
end
end Mi

/-! Mi34.lean -/
set_option Elab.async false
set_option linter.all false
set_option maxRecDepth 100000
/-! x += e, xs[i] += e (ints) -/
namespace Mi
open PySem L2 PySem.Spec PyProof.Rows
variable {K : KX} {α : List Addr} {r r' : En} {σ : L2.St} {H H' : Hp} {F F' : Addr → Prop} {W : L2.WX}
def augF (a : PyData) (i : Nat) (x : Rv) : Stm := fun r => match a, peek r x with
  | .int c, some (.int b) => .nx (put r i (.val (.int (c + b))))
  | _, _ => .no
def augN (i : Nat) (f : M Rv) : Stm := fun r => match r.vs[i]? with
  | some (some (.val a)) => ofM f (fun x => augF a i x) r
  | _ => .no
theorem augN_ok {i : Nat} {f : M Rv} {D : Ends} (h : tS K α W (augN i f) D σ H) : tAug i (tE K α W f) (ipI fun i j => i + j) D σ H := by
  obtain ⟨r, F, S, h⟩ := h
  unfold augN at h
  cases e : r.vs[i]? with
  | none => rw [e] at h; exact h.elim
  | some o =>
    cases o with
    | none => rw [e] at h; exact h.elim
    | some s =>
      cases s with
      | own _ => rw [e] at h; exact h.elim
      | bor _ => rw [e] at h; exact h.elim
      | cau _ => rw [e] at h; exact h.elim
      | val a =>
        rw [e] at h
        dsimp only at h
        obtain ⟨v, hv, fa⟩ := S.slot i _ e
        refine ⟨v, hv, tE_mono (ofM_E S h) fun y H1 ⟨r1, F1, x, S1, st1, t1, h1⟩ => ?_⟩
        cases ep : peek r1 x with
        | none => cases a <;> (simp only [augF, ep] at h1; exact h1.elim)
        | some d =>
          cases a with
          | int a =>
            cases d with
            | int b =>
              simp only [augF, ep] at h1
              have fa : Fr K H F v (.int a) := fa
              cases fa
              have q := (peek_rel S1 t1 ep).int
              subst q
              refine ⟨a, b, rfl, rfl, ?_⟩
              refine h1 _ H1 F1 (S1.put (s := .val (.int (a + b))) (.int _) fun o a z => nomatch z) (Step.refl fun z q => ?_)
              rcases put_own q with q | ⟨⟨o, q⟩, _⟩
              · exact .inl q
              · cases q
            | _ => simp only [augF, ep] at h1; exact h1.elim
          | _ => simp only [augF] at h1; exact h1.elim
theorem sv_augN {X : Cx} {e : Expr} {i : Nat} {x : Str} {pos' pos : Pos} {f : M Rv} (hN : X.N.Nodup) (hi : X.N[i]? = some x) (hx : Loc X.env.scope x) (he : PE X e (tE K α W f)) (hf : X.fn x = true ∨ X.env.scope.names.lookup x = some .local := by first | exact .inl rfl | exact .inr rfl | assumption) :
    PS X (.AugAssign (.Name x pos') .Add e pos) (tS K α W (augN i f)) := ps_weak (ps_aug hN hi hx he ip_add hf) fun D σ H h => augN_ok h
/-! xs[i] += e -/
def rGetL (K : KX) : V → V → Hp → VK → Prop := fun x y H Q => ∃ p xs i v, x = .ref p ∧ y = .int i ∧ SqL K H p xs ∧ 0 ≤ i ∧ xs[i.toNat]? = some v ∧ Q v H
theorem get_list {X : Cx} : PGet X (rGetL (kx X ε)) := by
  intro pins s σ H x y v u Q I rx ry h
  obtain ⟨p, xs, i, z, rfl, rfl, hq, h0, he, q⟩ := h
  cases rx
  obtain ⟨t, rfl⟩ := ry
  obtain ⟨its, r, pl, hz⟩ := I.list hq
  obtain ⟨w, ew, rw'⟩ := r.get he
  have hl := r.length
  have hlt : i.toNat < its.length := (List.getElem?_eq_some_iff.mp ew).1
  have hn := line63
  exact wpAny_getItem_list pl.isList h0 (by omega) (by simpa using ew) ⟨z, H, I, rw', q⟩
def auF (o i x : Rv) (r : En) : Out := match o with
  | .at l => match look r l, peek r i, peek r x with
    | some (.live (.lst ds)), some (.int k), some (.int b) => if 0 ≤ k then (match ds[k.toNat]? with
      | some (.int a) => .nx (setLo r l (.live (.lst (ds.set k.toNat (.int (a + b))))))
      | _ => .no) else .no
    | _, _, _ => .no
  | _ => .no
/-- the index a constant, the added one too (nothing is changed between) -/
def auS (j : Nat) (k b : Int) : Stm := fun r => ofM (nmE j) (fun o => auF o (.val (.int k)) (.val (.int b))) r
theorem auS_ok {j : Nat} {k b : Int} {D : Ends} (h : tS K α W (auS j k b) D σ H) : tAugS (tE K α W (nmE j)) (tE K α W (kE (.int k))) (tE K α W (kE (.int b))) (rGetL K) (ipI fun i j => i + j) rSetL D σ H := by
  obtain ⟨r, F, S, h⟩ := h
  refine tE_mono (ofM_E S h) fun vo H1 ⟨r1, F1, o, S1, st1, t1, h1⟩ => ?_
  refine ⟨r1, F1, S1, fun vi H2 F2 S2 st2 t2 => ?_⟩
  have e := (show Fr K H2 F2 vi (.int k) from t2)
  cases e
  have h2 : AftS K α (OwnT α r1 σ o vo) H2 F2 W (auF o (.val (.int k)) (.val (.int b)) r1) D := AftS.step h1 (st2.widen (P := OwnT α r1 σ o vo) (P' := OwnT α r1 σ o vo) (fun _ z => .inl z) fun _ z => .inr z) fun _ z => z
  cases o with
  | val d => exact h2.elim
  | own o => exact h2.elim
  | «at» l =>
    unfold auF at h2
    simp only at h2
    split at h2
    · rename_i ds k' b' q1 q2 q3
      have q2 : some (PyData.int k) = some (.int k') := q2
      have q3 : some (PyData.int b) = some (.int b') := q3
      injection q2 with q2; injection q2 with q2; subst q2
      injection q3 with q3; injection q3 with q3; subst q3
      split at h2
      · rename_i hk
        split at h2
        · rename_i a qa
          obtain ⟨ad, rfl, ha⟩ := t1
          obtain ⟨a', u, e1, hh, xs, rfl, fx⟩ := content_rel S2 (x := .at l) (b := .live (.lst ds)) ⟨ad, rfl, ha⟩ q1
          cases e1
          obtain ⟨v, ev, fv⟩ := fx.get qa
          cases fv
          refine ⟨ad, xs, k, .int a, rfl, rfl, .inl (.inl hh), hk, ev, ?_⟩
          refine ⟨r1, F2, S2, fun vb H3 F3 S3 st3 t3 => ?_⟩
          have eb := (show Fr K H3 F3 vb (.int b) from t3)
          cases eb
          refine ⟨a, b, rfl, rfl, ?_⟩
          obtain ⟨a2, u2, e2, hh3, xs3, rfl, fx3⟩ := content_rel S3 (x := .at l) (b := .live (.lst ds)) ⟨ad, rfl, ha⟩ q1
          cases e2
          obtain ⟨S', st, ow⟩ := S3.write q1 ha (o' := .lst (ds.set k.toNat (.int (a + b)))) (u' := .lst (xs3.set k.toNat (.int (a + b)))) ⟨_, rfl, fx3.set (.int _) k.toNat⟩
          have hlen : k.toNat < xs3.length := by
            rw [fx3.len]
            exact (List.getElem?_eq_some_iff.mp qa).1
          refine ⟨ad, xs3, k, k.toNat, rfl, rfl, hh3, by unfold ixN; rw [if_pos hk, if_pos (by omega)], ?_⟩
          have h3 : AftS K α (OwnT α r1 σ (.at l) (.ref ad)) H3 F3 W (.nx (setLo r1 l (.live (.lst (ds.set k.toNat (.int (a + b))))))) D := AftS.step h2 (st3.widen (P := OwnT α r1 σ (.at l) (.ref ad)) (P' := OwnT α r1 σ (.at l) (.ref ad)) (fun _ z => .inl z) fun _ z => .inr z) fun _ z => z
          exact h3 σ _ F3 S' (st.widen (fun _ z => .inl z) fun z q => .inl q)
        · exact h2.elim
      · exact h2.elim
    · exact h2.elim
theorem sv_auS {X : Cx} {o ke be : Expr} {j : Nat} {k b : Int} {tpos pos : Pos} (ho : PE X o (tE (kx X ε) α W (nmE j))) (hk : PE X ke (tE (kx X ε) α W (kE (.int k)))) (hb : PE X be (tE (kx X ε) α W (kE (.int b))))
    (ha : ∀ ov iv new, augStore ke ov iv new = (do holding [new, ov, iv] (setItem ov iv new); release [new, ov, iv] []; pure .next) := by intros; rfl) : PS X (.AugAssign (.Subscript o ke tpos) .Add be pos) (tS (kx X ε) α W (auS j k b)) :=
  ps_weak (ps_augS ho hk get_list hb ip_add set_list ha) fun D σ H h => auS_ok h
end Mi

/-! Mi35.lean -/
set_option Elab.async false
set_option linter.all false
set_option maxRecDepth 100000
/-! int(text) -/
namespace Mi
open PySem L2 PySem.Spec PyProof.Rows
variable {K : KX}
def gIntX (d : PyData) : Option Rv := match d with
  | .str a => gIntS (.str a)
  | d => gIntB d
theorem o_intX : Op1 K (fun x H Q => (∃ a n, [x] = [.str a] ∧ PySem.intText? a = some n ∧ a.length ≤ 640 ∧ Q (.int n) H) ∨ ((∃ i, [x] = [.int i] ∧ Q (.int i) H) ∨ ∃ k, [x] = [.bl k] ∧ Q (.int (if k then 1 else 0)) H)) gIntX := fun H F x d z Q px h q => by
  cases d with
  | str y => exact .inl (o_intS H F x _ z Q px h q)
  | _ => exact .inr (o_intB H F x _ z Q px h q)
end Mi

/-! Mi36.lean -/
set_option Elab.async false
set_option linter.all false
set_option maxRecDepth 100000
/-! a body that is never reached: a def that calls itself, no deeper; a, b, c = x, y, z of plain data -/
namespace Mi
open PySem L2
theorem svs_no {X : Cx} {sts : List Stmt} {K : KX} {α : List Addr} {W : L2.WX} : PSs X sts (tS K α W fun _ => .no) := pss_weak pss_never fun D σ H ⟨r, F, S, h⟩ => h.elim
section
variable {K : KX} {α : List Addr} {W : L2.WX} {r r' : En} {σ : List (Option V)} {H : Hp} {F : Addr → Prop}
def slV : Rv → Option Sl
  | .val d => some (.val d)
  | .own o => some (.own o)
  | .at _ => none
def par3S (i j l : Nat) (g : M (List Rv)) : Stm := fun r => match g r with
  | .ok [x, y, z] r1 => match slV x, slV y, slV z with
    | some s, some t, some u => .nx (put (put (put r1 i s) j t) l u)
    | _, _, _ => .no
  | .ex e r1 => .ex e r1
  | _ => .no
theorem slV_ok (S : SR K α r σ H F) {x : Rv} {v : V} {s : Sl} (t : TR K α r σ H F x v) (e : slV x = some s) : SlR K α H F s v ∧ (∀ o, s = .own o → x = .own o) ∧ ∀ o a, s = .own o → v = .ref a → ¬ F a ∧ ¬ Own α r σ a := by
  cases x with
  | val d => cases e; exact ⟨t, fun o z => (nomatch z), fun o a z => (nomatch z)⟩
  | own o =>
    cases e
    obtain ⟨a, u, rfl, h1, h2, h3, h4⟩ := t
    exact ⟨⟨a, u, rfl, h1, h2⟩, fun o' z => by cases z; rfl, fun o' a' _ z => by cases z; exact ⟨h3, h4⟩⟩
  | «at» _ => cases e
theorem par3_ok {g : M (List Rv)} {i j l : Nat} {D : Ends} (S : SR K α r σ H F) (h : AftS K α (Own α r σ) H F W (par3S i j l g r) D) :
    tR K α W g σ H fun vs H1 => ∃ u v w, vs = [u, v, w] ∧ D.nx (((σ.set i (some u)).set j (some v)).set l (some w)) H1 := by
  refine ⟨r, F, S, ?_⟩
  unfold par3S at h
  cases e : g r with
  | no => rw [e] at h; exact h.elim
  | ex x r1 => rw [e] at h; exact h σ
  | ok xs r1 =>
    rw [e] at h
    intro vs H1 F1 S1 st1 t1
    obtain ⟨all, one⟩ := t1
    match xs, vs, all, h with
    | [x, y, z], [u, v, w], .cons ta (.cons tb (.cons tc .nil)), h =>
      refine ⟨u, v, w, rfl, ?_⟩
      simp only at h
      split at h
      case h_2 => exact h.elim
      rename_i s t q e1 e2 e3
      obtain ⟨rs, os, ns⟩ := slV_ok S1 ta e1
      obtain ⟨rt, ot, nt⟩ := slV_ok S1 tb e2
      obtain ⟨rq, oq, nq⟩ := slV_ok S1 tc e3
      have far : ∀ (k k' : Nat) (o o' : Ob) (a : Addr), k ≠ k' → [x, y, z][k]? = some (.own o) → [u, v, w][k]? = some (.ref a) → [x, y, z][k']? = some (.own o') → [u, v, w][k']? = some (.ref a) → False := fun k k' o o' a n q1 q2 q3 q4 => n (one k k' o o' a q1 q2 q3 q4)
      have S2 := S1.put (i := i) (s := s) rs ns
      have S3 := S2.put (i := j) (s := t) rt fun o a z1 z2 => ⟨(nt o a z1 z2).1, fun z3 => (put_own z3).elim (nt o a z1 z2).2 fun ⟨⟨o', z4⟩, z5⟩ => far 0 1 o' o a (by decide) (by rw [os o' z4]; rfl) (by rw [z5]; rfl) (by rw [ot o z1]; rfl) (by rw [z2]; rfl)⟩
      have S4 := S3.put (i := l) (s := q) rq fun o a z1 z2 => ⟨(nq o a z1 z2).1, fun z3 => (put_own z3).elim (fun z3 => (put_own z3).elim (nq o a z1 z2).2 fun ⟨⟨o', z4⟩, z5⟩ => far 0 2 o' o a (by decide) (by rw [os o' z4]; rfl) (by rw [z5]; rfl) (by rw [oq o z1]; rfl) (by rw [z2]; rfl))
        fun ⟨⟨o', z4⟩, z5⟩ => far 1 2 o' o a (by decide) (by rw [ot o' z4]; rfl) (by rw [z5]; rfl) (by rw [oq o z1]; rfl) (by rw [z2]; rfl)⟩
      refine h _ H1 F1 S4 ?_
      have low : ∀ b, Own α (put (put (put r1 i s) j t) l q) (((σ.set i (some u)).set j (some v)).set l (some w)) b → OwnTs α r1 σ [x, y, z] [u, v, w] b := fun b c => by
        rcases put_own c with c | ⟨⟨o, z1⟩, z2⟩
        · rcases put_own c with c | ⟨⟨o, z1⟩, z2⟩
          · rcases put_own c with c | ⟨⟨o, z1⟩, z2⟩
            · exact .inl c
            · exact .inr ⟨0, o, by rw [os o z1]; rfl, by rw [z2]; rfl⟩
          · exact .inr ⟨1, o, by rw [ot o z1]; rfl, by rw [z2]; rfl⟩
        · exact .inr ⟨2, o, by rw [oq o z1]; rfl, by rw [z2]; rfl⟩
      exact ⟨st1.keep, st1.stay, st1.nfz, fun b c => st1.own b (low b c), st1.dom⟩
end
theorem sv_par3 {X : Cx} {α : List Addr} {W : L2.WX} {i j l : Nat} {x y z : Str} {a b c : Expr} {g : M (List Rv)} {px py pz pt pos : Pos} {kt k2 pt2} (hc : X.calm = true) (hN : X.N.Nodup) (hi : X.N[i]? = some x) (hj : X.N[j]? = some y) (hl : X.N[l]? = some z) (hij : i ≠ j) (hil : i ≠ l) (hjl : j ≠ l)
    (hx : X.env.scope.names.lookup x = some .local) (hy : X.env.scope.names.lookup y = some .local) (hz : X.env.scope.names.lookup z = some .local) (ha : PA X [a, b, c] (tR (kx X ε) α W g))
    (hw : swappedStores [.Tuple [.Name x px, .Name y py, .Name z pz] kt pt] (.Tuple [a, b, c] k2 pt2) X.env = pure (some [x, y, z]) := by rfl)
    (hs : swapsWithSole [.Tuple [.Name x px, .Name y py, .Name z pz] kt pt] (.Tuple [a, b, c] k2 pt2) pos.line X.env = pure false := by rfl) :
    PS X (.Assign [.Tuple [.Name x px, .Name y py, .Name z pz] kt pt] (.Tuple [a, b, c] k2 pt2) pos) (tS (kx X ε) α W (par3S i j l g)) := ps_weak (ps_par3 hc hN hi hj hl hij hil hjl hx hy hz ha hw hs) fun D σ H ⟨r, F, S, h⟩ => par3_ok S h
theorem isi_tuple {K : KX} : IsiOk K "tuple" := fun m h => by
  simp only [List.mem_cons, List.not_mem_nil, or_false] at h
  rcases h with rfl | rfl | rfl | rfl | rfl | rfl | rfl <;> rfl
theorem isi_list {K : KX} : IsiOk K "list" := fun m h => by
  simp only [List.mem_cons, List.not_mem_nil, or_false] at h
  rcases h with rfl | rfl | rfl | rfl | rfl | rfl | rfl <;> rfl
end Mi

/-! Mi37.lean -/
set_option Elab.async false
set_option linter.all false
set_option maxRecDepth 100000
/-! a dict of the top with text keys: word in FORMS, FORMS[word] -/
namespace Mi
open PySem L2
def lookT : List (Str × PyData) → Str → Option PyData
  | [], _ => none
  | (k, d) :: T, z => if k = z then some d else lookT T z
structure TopD (K : PySem.W.Frag) (w : World) (mg : Str → Option Value) (c : Str) (T : List (Str × PyData)) : Prop where
  ex : ∃ A es n, mg c = some (.ref A) ∧ KDict K w A es n ∧ ∀ z, ∃ r, PySem.W.nsIn K A z = some r ∧ match lookT T z with
    | none => r = none
    | some d => ∃ u v, r = some u ∧ RelV v u ∧ ∀ (P : Program) (w : World) (H : Hp) (F : Addr → Prop) (ca : Ca), Fr ⟨K, P, w, ca⟩ H F v d
def gInK (T : List (Str × PyData)) : PyData → Option Rv
  | .str z => some (vB (lookT T z).isSome)
  | _ => none
def gNotInK (T : List (Str × PyData)) : PyData → Option Rv
  | .str z => some (vB (!(lookT T z).isSome))
  | _ => none
def gIxK (T : List (Str × PyData)) : PyData → Option Rv
  | .str z => (lookT T z).map Rv.val
  | _ => none
section
variable {X : Cx} {α : List Addr} {W : L2.WX} {c : Str} {T : List (Str × PyData)} {a b : Expr} {f : M Rv} {p pos : Pos}
theorem ev_inK (D : TopD X.K X.w X.mg c T) (hg : Gl X c) (ha : PE X a (tE (kx X ε) α W f)) (hd : (c == ("__debug__" : Str)) = false := by decide +kernel) : PE X (.Compare a [.In] [.Name c p] pos) (tE (kx X ε) α W (unE (gInK T) f)) := by
  obtain ⟨A, es, n, hm, kd, hz⟩ := D.ex
  refine pe_weak (pe_cmpR (op_in_kd kd) ha (pe_glob (v := .ref A) hg hm rfl hd) rfl) fun σ H Q q => ?_
  refine t1_ok (ro := fun x H Q => (fun x y H Q => ∃ (z : Str) (r : Option Value), x = .str z ∧ y = .ref A ∧ PySem.W.nsIn (kx X ε) A z = some r ∧ Q (.bl r.isSome) H) x (V.ref A) H Q) (fun H F x d z Q px h q => ?_) q
  unfold gInK at h
  split at h
  · rename_i z0
    cases h
    have e := px.str
    subst e
    obtain ⟨r, h1, h2⟩ := hz z0
    refine ⟨z0, r, rfl, rfl, h1, ?_⟩
    have e : r.isSome = (lookT T z0).isSome := by
      cases hq : lookT T z0 with
      | none => rw [hq] at h2; rw [h2]; rfl
      | some d => rw [hq] at h2; obtain ⟨u, v, h3, _⟩ := h2; rw [h3]; rfl
    rw [e]
    exact q.val _ _ rfl (.bl _)
  · cases h
theorem ev_notInK (D : TopD X.K X.w X.mg c T) (hg : Gl X c) (ha : PE X a (tE (kx X ε) α W f)) (hd : (c == ("__debug__" : Str)) = false := by decide +kernel) : PE X (.Compare a [.NotIn] [.Name c p] pos) (tE (kx X ε) α W (unE (gNotInK T) f)) := by
  obtain ⟨A, es, n, hm, kd, hz⟩ := D.ex
  refine pe_weak (pe_cmpR (op_notIn_kd kd) ha (pe_glob (v := .ref A) hg hm rfl hd) rfl) fun σ H Q q => ?_
  refine t1_ok (ro := fun x H Q => (fun x y H Q => ∃ (z : Str) (r : Option Value), x = .str z ∧ y = .ref A ∧ PySem.W.nsIn (kx X ε) A z = some r ∧ Q (.bl (!r.isSome)) H) x (V.ref A) H Q) (fun H F x d z Q px h q => ?_) q
  unfold gNotInK at h
  split at h
  · rename_i z0
    cases h
    have e := px.str
    subst e
    obtain ⟨r, h1, h2⟩ := hz z0
    refine ⟨z0, r, rfl, rfl, h1, ?_⟩
    have e : r.isSome = (lookT T z0).isSome := by
      cases hq : lookT T z0 with
      | none => rw [hq] at h2; rw [h2]; rfl
      | some d => rw [hq] at h2; obtain ⟨u, v, h3, _⟩ := h2; rw [h3]; rfl
    rw [e]
    exact q.val _ _ rfl (.bl _)
  · cases h
theorem ev_ixK (D : TopD X.K X.w X.mg c T) (hg : Gl X c) (hp : PlainIx b) (hb : PE X b (tE (kx X ε) α W f)) (hd : (c == ("__debug__" : Str)) = false := by decide +kernel) : PE X (.Subscript (.Name c p) b pos) (tE (kx X ε) α W (unE (gIxK T) f)) := by
  obtain ⟨A, es, n, hm, kd, hz⟩ := D.ex
  refine pe_weak (pe_ix ix_kdict (pe_glob (v := .ref A) hg hm rfl hd) hb hp) fun σ H Q q => ?_
  refine t1_ok (ro := fun y H Q => rIxD (kx X ε) X.w (V.ref A) y H Q) (fun H F x d z Q px h q => ?_) q
  unfold gIxK at h
  split at h
  · rename_i z0
    have e := px.str
    subst e
    obtain ⟨d, hq, h⟩ := Option.map_eq_some_iff.mp h
    cases h
    obtain ⟨r, h1, h2⟩ := hz z0
    rw [hq] at h2
    obtain ⟨u, v, h3, h4, h5⟩ := h2
    subst h3
    exact ⟨A, z0, v, rfl, rfl, ⟨es, n, u, kd.at_, kd.lit, h1, h4⟩, q.val _ _ rfl (h5 _ _ _ _ _)⟩
  · cases h
end
/-! a kept value reads as plain data -/
mutual
inductive KD (K : PySem.W.Frag) : Value → PyData → Prop
  | str (x : Str) (t : Tok) : KD K (.str x t) (.str x)
  | int (i : Int) (t : Tok) : KD K (.int i t) (.int i)
  | non : KD K .none .none
  | bl (b : Bool) : KD K (.bool b) (.bool b)
  | tup {a : Addr} {o : Obj} {its : Array Value} {n : Nat} {ds : List PyData} : K.lookup a = some o → o.cls = .type "tuple" → o.data = .seq its n → its.size ≤ sizeLine → KDs K its.toList ds → KD K (.ref a) (.tuple ds)
  | lst {a : Addr} {its : List Value} {n : Nat} {ds : List PyData} : K.lookup a = some { cls := .type "list", data := .seq its.toArray n } → its.length ≤ sizeLine → KDs K its ds → KD K (.ref a) (.list ds)
inductive KDs (K : PySem.W.Frag) : List Value → List PyData → Prop
  | nil : KDs K [] []
  | cons {u : Value} {us : List Value} {d : PyData} {ds : List PyData} : KD K u d → KDs K us ds → KDs K (u :: us) (d :: ds)
end
mutual
theorem KD.fr {K : PySem.W.Frag} {u : Value} {d : PyData} (h : KD K u d) : ∃ v, RelV v u ∧ ∀ (P : Program) (w : World) (H : Hp) (F : Addr → Prop) (ca : Ca), Fr ⟨K, P, w, ca⟩ H F v d := by
  cases h with
  | str x t => exact ⟨.str x, ⟨t, rfl⟩, fun _ _ _ _ _ => .str x⟩
  | int i t => exact ⟨.int i, ⟨t, rfl⟩, fun _ _ _ _ _ => .int i⟩
  | non => exact ⟨.non, rfl, fun _ _ _ _ _ => .non⟩
  | bl b => exact ⟨.bl b, rfl, fun _ _ _ _ _ => .bl b⟩
  | tup h1 h2 h3 h4 h5 =>
    obtain ⟨vs, r, f⟩ := KDs.fr h5
    exact ⟨.ref _, rfl, fun P w H F ca => .tup (.inr ⟨_, _, _, h1, h2, h3, h4, r⟩) (f P w H F ca)⟩
  | lst h1 h2 h3 =>
    obtain ⟨vs, r, f⟩ := KDs.fr h3
    exact ⟨.ref _, rfl, fun P w H F ca => .klst ⟨_, _, h1, h2, r⟩ (f P w H F ca)⟩
theorem KDs.fr {K : PySem.W.Frag} {us : List Value} {ds : List PyData} (h : KDs K us ds) : ∃ vs, Vals vs us ∧ ∀ (P : Program) (w : World) (H : Hp) (F : Addr → Prop) (ca : Ca), FrAll ⟨K, P, w, ca⟩ H F vs ds := by
  cases h with
  | nil => exact ⟨[], .nil, fun _ _ _ _ _ => .nil⟩
  | cons h1 h2 =>
    obtain ⟨v, r, f⟩ := KD.fr h1
    obtain ⟨vs, r2, f2⟩ := KDs.fr h2
    exact ⟨v :: vs, .cons r r2, fun P w H F ca => .cons (f P w H F ca) (f2 P w H F ca)⟩
end
/-- a list, a tuple or a sign of the top -/
def TopV (K : PySem.W.Frag) (mg : Str → Option Value) (c : Str) (d : PyData) : Prop := ∃ u, mg c = some u ∧ KD K u d
theorem ev_top {X : Cx} {α : List Addr} {W : L2.WX} {c : Str} {d : PyData} {p : Pos} (D : TopV X.K X.mg c d) (hg : Gl X c) (hd : (c == ("__debug__" : Str)) = false := by decide +kernel) : PE X (.Name c p) (tE (kx X ε) α W (kE d)) := by
  obtain ⟨u, hm, k⟩ := D
  obtain ⟨v, r, f⟩ := k.fr
  refine pe_weak (pe_glob hg hm r hd) fun σ H Q q => ?_
  obtain ⟨r, F, S, q⟩ := q
  exact (Aft.fin S q).val d v rfl (f _ _ H F _)
/-- the entries of a kept dict -/
inductive KEs (K : PySem.W.Frag) : List DictEntry → List (Str × PyData) → Prop
  | nil : KEs K [] []
  | cons {e : DictEntry} {es : List DictEntry} {k : Str} {t : Tok} {d : PyData} {T : List (Str × PyData)} : e.key = .str k t → KD K e.val d → KEs K es T → KEs K (e :: es) ((k, d) :: T)
theorem KEs.find {K : PySem.W.Frag} (z : Str) : ∀ {es : List DictEntry} {T : List (Str × PyData)}, KEs K es T → es.any (·.refKey) = false ∧ match lookT T z with
    | none => es.find? (·.key.isStr z) = none
    | some d => ∃ e, es.find? (·.key.isStr z) = some e ∧ KD K e.val d
  | _, _, .nil => ⟨rfl, rfl⟩
  | e :: es, (k, d) :: T, .cons hk hd h => by
    obtain ⟨h1, h2⟩ := KEs.find z h
    refine ⟨?_, ?_⟩
    · rw [List.any_cons, h1]
      have : e.refKey = false := by unfold DictEntry.refKey; rw [hk]
      rw [this]; rfl
    · show match (if k = z then some d else lookT T z) with
        | none => _
        | some d => _
      by_cases c : k = z
      · rw [if_pos c]
        refine ⟨e, ?_, hd⟩
        rw [List.find?_cons_of_pos]
        rw [hk]; subst c
        simp [Value.isStr]
      · rw [if_neg c]
        have hn : e.key.isStr z = false := by rw [hk]; simp [Value.isStr, c]
        rw [List.find?_cons_of_neg (by rw [hn]; decide)]
        exact h2
theorem TopD.of {K : PySem.W.Frag} {w : World} {mg : Str → Option Value} {c : Str} {T : List (Str × PyData)} {A : Addr} {es : Array DictEntry} {n : Nat} (hm : mg c = some (.ref A)) (hl : K.lookup A = some ⟨.type "dict", none, .dict es n, #[]⟩) (hk : PySem.W.KeysLit w.params es.toList) (low : (A == sysModules) = false) (he : KEs K es.toList T) : TopD K w mg c T := by
  refine ⟨A, es, n, hm, ⟨hl, hk, low⟩, fun z => ?_⟩
  obtain ⟨h1, h2⟩ := he.find z
  have e : PySem.W.nsIn K A z = match es.toList.find? (·.key.isStr z) with
      | some e => some (some e.val)
      | none => if es.toList.any (·.refKey) then none else some none := by unfold PySem.W.nsIn; rw [hl]; rfl
  rw [e, h1]
  cases hq : lookT T z with
  | none => rw [hq] at h2; rw [h2]; exact ⟨none, rfl, rfl⟩
  | some d =>
    rw [hq] at h2
    obtain ⟨x, h3, h4⟩ := h2
    rw [h3]
    obtain ⟨v, r, f⟩ := h4.fr
    exact ⟨some x.val, rfl, x.val, v, rfl, r, f⟩
end Mi

/-! Mi38.lean -/
set_option Elab.async false
set_option linter.all false
set_option maxRecDepth 100000
/-! word in FORMS as a test -/
namespace Mi
open PySem L2
section
variable {X : Cx} {α : List Addr} {W : L2.WX} {c : Str} {T : List (Str × PyData)} {a b : Expr} {f : M Rv} {p pos : Pos}
theorem tv_inK (D : TopD X.K X.w X.mg c T) (hg : Gl X c) (ha : PE X a (tE (kx X ε) α W f)) (hd : (c == ("__debug__" : Str)) = false := by decide +kernel) : PT X (.Compare a [.In] [.Name c p] pos) (tT (kx X ε) α W (tstB (unE (gInK T) f))) := by
  obtain ⟨A, es, n, hm, kd, hz⟩ := D.ex
  refine pt_weak (pt_cmpR (op_in_kd kd) ha (pe_glob (v := .ref A) hg hm rfl hd) rfl) fun σ H Q q => ?_
  have q := tst_ok (P := fun v _ b => v = .bl b) (fun _ _ _ _ _ p e => bool_pk p e) q
  refine t1_ok (ro := fun x H Q => (fun x y H Q => ∃ (z : Str) (r : Option Value), x = .str z ∧ y = .ref A ∧ PySem.W.nsIn (kx X ε) A z = some r ∧ Q (.bl r.isSome) H) x (V.ref A) H Q) (fun H F x d z Q px h q => ?_) q
  unfold gInK at h
  split at h
  · rename_i z0
    cases h
    have e := px.str
    subst e
    obtain ⟨r, h1, h2⟩ := hz z0
    refine ⟨z0, r, rfl, rfl, h1, ?_⟩
    have e : r.isSome = (lookT T z0).isSome := by
      cases hq : lookT T z0 with
      | none => rw [hq] at h2; rw [h2]; rfl
      | some d => rw [hq] at h2; obtain ⟨u, v, h3, _⟩ := h2; rw [h3]; rfl
    rw [e]
    exact q.val _ _ rfl (.bl _)
  · cases h
theorem tv_notInK (D : TopD X.K X.w X.mg c T) (hg : Gl X c) (ha : PE X a (tE (kx X ε) α W f)) (hd : (c == ("__debug__" : Str)) = false := by decide +kernel) : PT X (.Compare a [.NotIn] [.Name c p] pos) (tT (kx X ε) α W (tstB (unE (gNotInK T) f))) := by
  obtain ⟨A, es, n, hm, kd, hz⟩ := D.ex
  refine pt_weak (pt_cmpR (op_notIn_kd kd) ha (pe_glob (v := .ref A) hg hm rfl hd) rfl) fun σ H Q q => ?_
  have q := tst_ok (P := fun v _ b => v = .bl b) (fun _ _ _ _ _ p e => bool_pk p e) q
  refine t1_ok (ro := fun x H Q => (fun x y H Q => ∃ (z : Str) (r : Option Value), x = .str z ∧ y = .ref A ∧ PySem.W.nsIn (kx X ε) A z = some r ∧ Q (.bl (!r.isSome)) H) x (V.ref A) H Q) (fun H F x d z Q px h q => ?_) q
  unfold gNotInK at h
  split at h
  · rename_i z0
    cases h
    have e := px.str
    subst e
    obtain ⟨r, h1, h2⟩ := hz z0
    refine ⟨z0, r, rfl, rfl, h1, ?_⟩
    have e : r.isSome = (lookT T z0).isSome := by
      cases hq : lookT T z0 with
      | none => rw [hq] at h2; rw [h2]; rfl
      | some d => rw [hq] at h2; obtain ⟨u, v, h3, _⟩ := h2; rw [h3]; rfl
    rw [e]
    exact q.val _ _ rfl (.bl _)
  · cases h
end
end Mi

/-! Mi39.lean -/
set_option Elab.async false
set_option linter.all false
set_option maxRecDepth 100000
/-! x is True, x is False -/
namespace Mi
open PySem L2 PySem.Spec PyProof.Rows
variable {K : KX}
def gIsB : PyData → PyData → Option Rv
  | .bool a, .bool b => some (vB (decide (a = b)))
  | _, _ => none
def gIsntB : PyData → PyData → Option Rv
  | .bool a, .bool b => some (vB (!decide (a = b)))
  | _, _ => none
theorem Pk.bln {H : Hp} {F : Addr → Prop} {v : V} {b : Bool} (h : Pk K H F v (.bool b)) : v = .bl b := by
  cases h.dead fun _ => nofun
  rfl
theorem o_isB : Op2 K (fun x y H Q => ∃ a b, x = .bl a ∧ y = .bl b ∧ Q (.bl (decide (a = b))) H) gIsB := fun H F x y d e z Q px py h q => by
  unfold gIsB at h
  split at h
  · cases h; exact ⟨_, _, px.bln, py.bln, q.val _ _ rfl (.bl _)⟩
  · cases h
theorem o_isntB : Op2 K (fun x y H Q => ∃ a b, x = .bl a ∧ y = .bl b ∧ Q (.bl (!decide (a = b))) H) gIsntB := fun H F x y d e z Q px py h q => by
  unfold gIsntB at h
  split at h
  · cases h; exact ⟨_, _, px.bln, py.bln, q.val _ _ rfl (.bl _)⟩
  · cases h
end Mi

/-! Mi40.lean -/
set_option Elab.async false
set_option linter.all false
set_option maxRecDepth 100000
/-! dicts whose keys are tuples of any depth: what stands in the heap -/
namespace Mi
open PySem L2 PySem.Spec PyProof.Rows
section
variable {X : Cx} {pins : List (Addr × Obj)} {σ : L2.St} {H : Hp} {F : Addr → Prop} {s : Shared}
mutual
theorem fr_nested (I : Inv X pins σ H s) : ∀ (d : PyData) (v : V) (k : NestedKey) (u : Value), Fr (kx X ε) H F v d → keyN d = some k → RelV v u → NestedIs s.heap k u
  | .none, _, _, _, h, e, r => by
    cases h; simp only [keyN, Option.some.injEq] at e; subst e; cases r; exact .none
  | .bool b, _, _, _, h, e, r => by
    cases h; simp only [keyN, Option.some.injEq] at e; subst e; cases r; exact .bool rfl
  | .int i, _, _, _, h, e, r => by
    cases h; simp only [keyN, Option.some.injEq] at e; subst e
    obtain ⟨t, e⟩ := (show ∃ t, _ = Value.int i t from r); subst e; exact .int i t
  | .str x, _, _, _, h, e, r => by
    cases h; simp only [keyN, Option.some.injEq] at e; subst e
    obtain ⟨t, e⟩ := (show ∃ t, _ = Value.str x t from r); subst e; exact .text x t
  | .list ds, _, _, _, _, e, _ => by simp [keyN] at e
  | .dict ds, _, _, _, _, e, _ => by simp [keyN] at e
  | .tuple ds, _, k, u, h, e, r => by
    cases h with
    | @tup a xs _ h1 h2 =>
      cases r
      simp only [keyN, Option.map_eq_some_iff] at e
      obtain ⟨ks, e1, rfl⟩ := e
      obtain ⟨its, rv, ⟨o, ho, hc, n, hd⟩, _⟩ := I.tuple h1
      exact .tup ho hc hd (by simpa using frs_nested I ds xs ks its h2 e1 rv)
theorem frs_nested (I : Inv X pins σ H s) : ∀ (ds : List PyData) (vs : List V) (ks : List NestedKey) (us : List Value), FrAll (kx X ε) H F vs ds → keyNs ds = some ks → Vals vs us → NestedAll s.heap ks us
  | [], _, _, _, h, e, r => by
    cases h; simp only [keyNs, Option.some.injEq] at e; subst e; cases r; exact .nil
  | d :: ds, _, ks, _, h, e, r => by
    cases h with
    | cons h1 h2 =>
      cases r with
      | cons r1 r2 =>
        unfold keyNs at e
        split at e
        · rename_i k ks' e1 e2
          simp only [Option.some.injEq] at e
          subst e
          exact .cons (fr_nested I d _ k _ h1 e1 r1) (frs_nested I ds _ ks' _ h2 e2 r2)
        · cases e
end
theorem keyT_tup {d : PyData} {k : NestedKey} (e : keyT d = some k) : ∃ ds, d = .tuple ds ∧ keyN d = some k ∧ k.depth ≤ 8 := by
  unfold keyT at e
  split at e
  · rename_i ds
    obtain ⟨k', q, e⟩ := Option.bind_eq_some_iff.mp e
    split at e
    · rename_i h
      cases e
      exact ⟨ds, rfl, q, h⟩
    · cases e
  · cases e
theorem fr_ref {K : KX} {v : V} {d : PyData} {k : NestedKey} (h : Fr K H F v d) (e : keyT d = some k) : ∃ a, v = .ref a := by
  obtain ⟨ds, rfl, _⟩ := keyT_tup e
  cases h with
  | tup h1 h2 => exact ⟨_, rfl⟩
theorem fr_key (I : Inv X pins σ H s) {a : Addr} {d : PyData} {k : NestedKey} (h : Fr (kx X ε) H F (.ref a) d) (e : keyT d = some k) : (nestedKind X.prog X.w).is s.heap k a := by
  obtain ⟨ds, rfl, e1, e2⟩ := keyT_tup e
  exact ⟨fr_nested I _ _ _ _ h e1 rfl, e2⟩
/-- what is at a key -/
def getN (kvs : List (PyData × PyData)) (k : NestedKey) : Option PyData := (kvs.find? fun kv => decide (keyT kv.1 = some k)).map (·.2)
def putN (kvs : List (PyData × PyData)) (k : NestedKey) (kd d : PyData) : List (PyData × PyData) :=
  if (getN kvs k).isSome then kvs.map (fun kv => if keyT kv.1 = some k then (kv.1, d) else kv) else kvs ++ [(kd, d)]
theorem length_putN (kvs : List (PyData × PyData)) (k : NestedKey) (kd d : PyData) : (putN kvs k kd d).length ≤ kvs.length + 1 := by
  unfold putN; split <;> simp
abbrev NRel (K : KX) (H : Hp) (F : Addr → Prop) : List (NestedKey × Addr × Value) → List (PyData × PyData) → Prop := Paired (NE K H F)
theorem NRel.get {K : KX} {xs : List (NestedKey × Addr × Value)} {kvs : List (PyData × PyData)} (h : NRel K H F xs kvs) (k : NestedKey) : match getN kvs k with
    | none => atKey xs k = none
    | some d => ∃ b u v, atKey xs k = some (b, u) ∧ RelV v u ∧ Fr K H F v d := by
  unfold NRel at h
  induction h with
  | nil => exact rfl
  | @cons x kd xs kvs h1 h2 ih =>
    obtain ⟨e1, f1, v, r, f2⟩ := h1
    unfold getN atKey at *
    by_cases q : x.1 = k
    · have q2 : keyT kd.1 = some k := by rw [e1, q]
      rw [List.find?_cons_of_pos (by simpa using q2), List.find?_cons_of_pos (by simpa using q)]
      exact ⟨x.2.1, x.2.2, v, rfl, r, f2⟩
    · have q2 : ¬ keyT kd.1 = some k := fun z => q (by rw [e1] at z; exact Option.some.inj z)
      rw [List.find?_cons_of_neg (by simpa using q2), List.find?_cons_of_neg (by simpa using q)]
      exact ih
theorem NRel.isS {K : KX} {xs : List (NestedKey × Addr × Value)} {kvs : List (PyData × PyData)} (h : NRel K H F xs kvs) (k : NestedKey) : (atKey xs k).isSome = (getN kvs k).isSome := by
  have := h.get k
  cases e : getN kvs k with
  | none => rw [e] at this; rw [this]; rfl
  | some d => rw [e] at this; obtain ⟨b, u, v, e1, _⟩ := this; rw [e1]; rfl
theorem NRel.app {K : KX} {xs ys : List (NestedKey × Addr × Value)} {kvs lvs : List (PyData × PyData)} (h : NRel K H F xs kvs) (h2 : NRel K H F ys lvs) : NRel K H F (xs ++ ys) (kvs ++ lvs) := by
  unfold NRel at *
  induction h with
  | nil => exact h2
  | cons a _ ih => exact .cons a ih
theorem NRel.put {K : KX} {xs : List (NestedKey × Addr × Value)} {kvs : List (PyData × PyData)} (h : NRel K H F xs kvs) {k : NestedKey} {kd d : PyData} {b : Addr} {u : Value} {v : V} (ek : keyT kd = some k) (fk : Fr K H F (.ref b) kd) (r : RelV v u) (fv : Fr K H F v d) :
    NRel K H F (storedH xs k b u) (putN kvs k kd d) := by
  unfold storedH putN
  rw [h.isS k]
  split
  · rename_i hs
    clear hs ek fk
    unfold NRel at *
    induction h with
    | nil => exact .nil
    | @cons x kd xs kvs h1 h2 ih =>
      refine .cons ?_ ih
      show NE K H F (putAt k u x) (if keyT kd.1 = some k then (kd.1, d) else kd)
      obtain ⟨e1, f1, v', r', f2⟩ := h1
      unfold putAt
      by_cases q : x.1 = k
      · rw [if_pos q, if_pos (show keyT kd.1 = some k by rw [e1, q])]
        exact ⟨e1, f1, v, r, fv⟩
      · rw [if_neg q, if_neg (fun z => q (by rw [e1] at z; exact Option.some.inj z))]
        exact ⟨e1, f1, v', r', f2⟩
  · exact h.app (.cons ⟨ek, fk, v, r, fv⟩ .nil)
theorem NRel.mem {K : KX} {xs : List (NestedKey × Addr × Value)} {kvs : List (PyData × PyData)} (h : NRel K H F xs kvs) {x : NestedKey × Addr × Value} (hx : x ∈ xs) : ∃ kd, NE K H F x kd := by
  unfold NRel at h
  induction h with
  | nil => cases hx
  | cons a _ ih =>
    rcases List.mem_cons.mp hx with rfl | hx
    · exact ⟨_, a⟩
    · exact ih hx
theorem ddt_held (I : Inv X pins σ H s) {a : Addr} {u : HO} {kvs : List (PyData × PyData)} (e : H a = some u) (h : ObR (kx X ε) H F a (.ddt kvs) u) :
    ∃ xs, s.heap.DictOfH (nestedKind X.prog X.w) a xs ∧ NRel (kx X ε) H F xs kvs ∧ xs.length ≤ sizeLine ∧ (a == sysModules) = false := by
  obtain ⟨o, xs, rfl, n, r⟩ := h
  obtain ⟨es, ep, h1, h2, h3⟩ := n.ex
  have ho : s.heap.get? a = some o := (I.hok a _ e).1
  refine ⟨xs, ⟨o, es, ep, ho, h1, h2, h3, fun x hx => ?_, n.nd⟩, r, n.sz, n.lo⟩
  obtain ⟨kd, q⟩ := NRel.mem r hx
  exact fr_key I q.2.1 q.1
/-- the dict at a is rewritten -/
theorem ddt_new {a : Addr} {h' : Heap} {xs : List (NestedKey × Addr × Value)} (hd : h'.DictOfH (nestedKind X.prog X.w) a xs) (hz : xs.length ≤ sizeLine) (hl : (a == sysModules) = false) :
    ∃ o, h'.get? a = some o ∧ NdO (kx X ε) a o xs := by
  obtain ⟨o, es, ep, ho, h1, h2, h3, _, h5⟩ := hd
  exact ⟨o, ho, ⟨es, ep, h1, h2, h3⟩, h5, hz, hl⟩
end
end Mi

/-! Mi41.lean -/
set_option Elab.async false
set_option linter.all false
set_option maxRecDepth 100000
/-! dicts of both kinds: what is read, what is stored -/
namespace Mi
open PySem L2 PySem.Spec PyProof.Rows
inductive DC where
  | k (kvs : List (Key × PyData))
  | n (kvs : List (PyData × PyData))
def DC.get : DC → PyData → Option (Option PyData)
  | .k kvs, d => (keyOf d).map fun k => valD kvs k
  | .n kvs, d => (keyT d).map fun k => getN kvs k
def dcB : Bo → Option DC
  | .live (.dct kvs) => some (.k kvs)
  | .live (.fdc kvs) => some (.k kvs)
  | .live (.ddt kvs) => some (.n kvs)
  | _ => none
def dcOf (r : En) (x : Rv) : Option DC := (content r x).bind dcB
def DCR (K : KX) (H : Hp) (F : Addr → Prop) (a : Addr) : DC → Prop
  | .k kvs => ∃ ps, Rd H a (.dK ps) ∧ DRel K H F ps kvs
  | .n kvs => ∃ u, H a = some u ∧ ObR K H F a (.ddt kvs) u
section
variable {K : KX} {α : List Addr} {r : En} {σ : L2.St} {H : Hp} {F : Addr → Prop} {W : L2.WX}
theorem dc_rel (S : SR K α r σ H F) {x : Rv} {v : V} {c : DC} (t : TR K α r σ H F x v) (e : dcOf r x = some c) : ∃ a, v = .ref a ∧ DCR K H F a c := by
  obtain ⟨b, e1, e2⟩ := Option.bind_eq_some_iff.mp e
  have q := content_rel S t e1
  cases b with
  | dead d => cases e2
  | live o =>
    cases o with
    | lst ds => cases e2
    | dct kvs => cases e2; obtain ⟨a, u, rfl, h1, ps, rfl, h2⟩ := q; exact ⟨a, rfl, ps, .inl h1, h2⟩
    | fdc kvs => cases e2; obtain ⟨a, u, rfl, h1, o, ps, rfl, h2⟩ := q; exact ⟨a, rfl, ps, .inr ⟨o, h1⟩, h2⟩
    | ddt kvs => cases e2; obtain ⟨a, u, rfl, h1, h2⟩ := q; exact ⟨a, rfl, u, h1, h2⟩
end
section
variable {X : Cx} {pins : List (Addr × Obj)} {σ : L2.St} {H : Hp} {F : Addr → Prop} {s : Shared} {A : Around} {E : Value → Shared → Prop} {a : Addr} {c : DC} {y v : V} {u : Value} {kd : PyData} {o : Option PyData}
theorem pk_key (h : Pk (kx X ε) H F y kd) {k : NestedKey} (e : keyT kd = some k) : ∃ b, y = .ref b ∧ Fr (kx X ε) H F (.ref b) kd := by
  have q := h.dead (fun ds z => by subst z; cases e)
  obtain ⟨b, rfl⟩ := fr_ref q e
  exact ⟨b, rfl, q⟩
/-- what d[y] would be -/
theorem x_getItem {d : PyData} {Q : Value → Shared → Prop} (hu : A.units + 10 < cLine) (I : Inv X pins σ H s) (g : DCR (kx X ε) H F a c) (p : Pk (kx X ε) H F y kd) (ry : RelV y u) (e : c.get kd = some (some d))
    (h : ∀ v w' s', Inv X pins σ H s' → RelV v w' → Fr (kx X ε) H F v d → Q w' s') : wpAny (model X.prog X.w) A (getItem (.ref a) u) Q E s := by
  cases c with
  | k kvs =>
    obtain ⟨ps, rd, dr⟩ := g
    obtain ⟨k, e1, e2⟩ := Option.map_eq_some_iff.mp e
    have q := dr.val k
    rw [e2] at q
    obtain ⟨v, q1, fv⟩ := q
    exact d_getItem (v := v) (by omega) I (.inl ⟨ps, k, rd, p.key e1, q1.symm⟩) ry fun w' s' I' r' => h v w' s' I' r' fv
  | n kvs =>
    obtain ⟨w, hw, ob⟩ := g
    obtain ⟨k, e1, e2⟩ := Option.map_eq_some_iff.mp e
    obtain ⟨b, rfl, fk⟩ := pk_key p e1
    cases ry
    obtain ⟨xs, hd, rel, hz, hl⟩ := ddt_held I hw ob
    have q := rel.get k
    rw [e2] at q
    obtain ⟨b', u', v, q1, r', fv⟩ := q
    exact wpAny_getItem_heap (show A.units + 1 + 8 < cLine by omega) (fr_key I fk e1) hd q1 (h v u' _ (I.tok _) r' fv)
theorem x_in {Q : Value → Shared → Prop} (hu : A.units + 10 < cLine) (I : Inv X pins σ H s) (g : DCR (kx X ε) H F a c) (p : Pk (kx X ε) H F y kd) (ry : RelV y u) (e : c.get kd = some o)
    (h : ∀ s', Inv X pins σ H s' → Q (.bool o.isSome) s') : wpAny (model X.prog X.w) A (compareOp .In u (.ref a)) Q E s := by
  cases c with
  | k kvs =>
    obtain ⟨ps, rd, dr⟩ := g
    obtain ⟨k, e1, e2⟩ := Option.map_eq_some_iff.mp e
    refine d_in (o := valV ps k) (by omega) I (.inl ⟨ps, k, rd, p.key e1, rfl⟩) ry fun s' I' => ?_
    rw [dr.some k, e2]
    exact h s' I'
  | n kvs =>
    obtain ⟨w, hw, ob⟩ := g
    obtain ⟨k, e1, e2⟩ := Option.map_eq_some_iff.mp e
    obtain ⟨b, rfl, fk⟩ := pk_key p e1
    cases ry
    obtain ⟨xs, hd, rel, hz, hl⟩ := ddt_held I hw ob
    refine wpAny_in_heap (show A.units + 1 + 8 < cLine by omega) (fr_key I fk e1) hl hd ?_
    rw [rel.isS k, e2]
    exact h _ (I.tok _)
theorem x_notIn {Q : Value → Shared → Prop} (hu : A.units + 10 < cLine) (I : Inv X pins σ H s) (g : DCR (kx X ε) H F a c) (p : Pk (kx X ε) H F y kd) (ry : RelV y u) (e : c.get kd = some o)
    (h : ∀ s', Inv X pins σ H s' → Q (.bool (!o.isSome)) s') : wpAny (model X.prog X.w) A (compareOp .NotIn u (.ref a)) Q E s := by
  cases c with
  | k kvs =>
    obtain ⟨ps, rd, dr⟩ := g
    obtain ⟨k, e1, e2⟩ := Option.map_eq_some_iff.mp e
    refine d_notIn (o := valV ps k) (by omega) I (.inl ⟨ps, k, rd, p.key e1, rfl⟩) ry fun s' I' => ?_
    rw [dr.some k, e2]
    exact h s' I'
  | n kvs =>
    obtain ⟨w, hw, ob⟩ := g
    obtain ⟨k, e1, e2⟩ := Option.map_eq_some_iff.mp e
    obtain ⟨b, rfl, fk⟩ := pk_key p e1
    cases ry
    obtain ⟨xs, hd, rel, hz, hl⟩ := ddt_held I hw ob
    refine wpAny_notIn_heap (show A.units + 1 + 8 < cLine by omega) (fr_key I fk e1) hl hd ?_
    rw [rel.isS k, e2]
    exact h _ (I.tok _)
theorem x_at (I : Inv X pins σ H s) (g : DCR (kx X ε) H F a c) : s.TypeIs (.ref a) "dict" ∧ (∀ b, Value.ref a = .ref b → ∃ ob, s.heap.get? b = some ob ∧ ob.dict = none) ∧ (a == sysModules) = false := by
  cases c with
  | k kvs =>
    obtain ⟨ps, rd, dr⟩ := g
    exact isD_at I (.inl ⟨ps, rd⟩)
  | n kvs =>
    obtain ⟨w, hw, ob⟩ := g
    obtain ⟨xs, hd, rel, hz, hl⟩ := ddt_held I hw ob
    refine ⟨hd.typeIs, fun b q => ?_, hl⟩
    cases q
    obtain ⟨ob, _, _, h1, h2, _⟩ := hd
    exact ⟨ob, h1, h2.2.1⟩
/-- d.get(y) -/
theorem x_get1 {Q : Value → Shared → Prop} (hu : A.units + 10 < cLine) (I : Inv X pins σ H s) (g : DCR (kx X ε) H F a c) (p : Pk (kx X ε) H F y kd) (ry : RelV y u) (e : c.get kd = some o)
    (h : ∀ v w' s', Inv X pins σ H s' → RelV v w' → Fr (kx X ε) H F v (o.getD .none) → Q w' s') : wpAny (model X.prog X.w) A (call (.builtin "dict.get") [.ref a, u]) Q E s := by
  cases c with
  | k kvs =>
    obtain ⟨ps, rd, dr⟩ := g
    obtain ⟨k, e1, e2⟩ := Option.map_eq_some_iff.mp e
    refine d_get1 (o := valV ps k) (by omega) I (.inl ⟨ps, k, rd, p.key e1, rfl⟩) ry fun w' s' I' r' => h _ w' s' I' r' ?_
    have q := dr.val k
    rw [e2] at q
    cases o with
    | none => rw [q]; exact .non
    | some d => obtain ⟨v, q1, fv⟩ := q; rw [q1]; exact fv
  | n kvs =>
    obtain ⟨w, hw, ob⟩ := g
    obtain ⟨k, e1, e2⟩ := Option.map_eq_some_iff.mp e
    obtain ⟨b, rfl, fk⟩ := pk_key p e1
    cases ry
    obtain ⟨xs, hd, rel, hz, hl⟩ := ddt_held I hw ob
    refine call_meetsIn PySem.F.slot_dict_get hd.typeIs PySem.F.entry_dict_get (PySem.F.args_dict_get_2 _ _) (meetsH_dict_get (nestedKind X.prog X.w) a b hl) ⟨show A.units + 1 + 8 < cLine by omega, k, xs, fr_key I fk e1, hd, ?_⟩
    have q := rel.get k
    rw [e2] at q
    cases o with
    | none => rw [q]; exact h .non _ _ (I.tok _) rfl .non
    | some d => obtain ⟨b', u', v, q1, r', fv⟩ := q; rw [q1]; exact h v _ _ (I.tok _) r' fv
/-- d.get(y, z) -/
theorem x_get2 {z : V} {zu : Value} {Q : Value → Shared → Prop} (hu : A.units + 10 < cLine) (I : Inv X pins σ H s) (g : DCR (kx X ε) H F a c) (p : Pk (kx X ε) H F y kd) (ry : RelV y u) (rz : RelV z zu) (e : c.get kd = some o)
    (h : ∀ v w' s', Inv X pins σ H s' → RelV v w' → (match o with
      | some d => Fr (kx X ε) H F v d
      | none => v = z) → Q w' s') : wpAny (model X.prog X.w) A (call (.builtin "dict.get") [.ref a, u, zu]) Q E s := by
  cases c with
  | k kvs =>
    obtain ⟨ps, rd, dr⟩ := g
    obtain ⟨k, e1, e2⟩ := Option.map_eq_some_iff.mp e
    refine d_get2 (o := valV ps k) (by omega) I (.inl ⟨ps, k, rd, p.key e1, rfl⟩) ry rz fun w' s' I' r' => h _ w' s' I' r' ?_
    have q := dr.val k
    rw [e2] at q
    cases o with
    | none => rw [q]; rfl
    | some d => obtain ⟨v, q1, fv⟩ := q; rw [q1]; exact fv
  | n kvs =>
    obtain ⟨w, hw, ob⟩ := g
    obtain ⟨k, e1, e2⟩ := Option.map_eq_some_iff.mp e
    obtain ⟨b, rfl, fk⟩ := pk_key p e1
    cases ry
    obtain ⟨xs, hd, rel, hz, hl⟩ := ddt_held I hw ob
    refine call_meetsIn PySem.F.slot_dict_get hd.typeIs PySem.F.entry_dict_get (PySem.F.args_dict_get_3 _ _ _) (meetsH_dict_get_default (nestedKind X.prog X.w) a b hl zu) ⟨show A.units + 1 + 8 < cLine by omega, k, xs, fr_key I fk e1, hd, ?_⟩
    have q := rel.get k
    rw [e2] at q
    cases o with
    | none => rw [q]; exact h z _ _ (I.tok _) rz rfl
    | some d => obtain ⟨b', u', v, q1, r', fv⟩ := q; rw [q1]; exact h v _ _ (I.tok _) r' fv
/-- d[y] = v, with nested keys -/
theorem n_setItem {kvs : List (PyData × PyData)} {w : HO} {k : NestedKey} {d : PyData} {vu : Value} {Q : Unit → Shared → Prop} (hu : A.units + 10 < cLine) (I : Inv X pins σ H s) (hw : H a = some w) (ob : ObR (kx X ε) H F a (.ddt kvs) w) (p : Pk (kx X ε) H F y kd) (ry : RelV y u) (ek : keyT kd = some k)
    (hl : kvs.length < sizeLine) (rv : RelV v vu) (fv : Fr (kx X ε) H F v d)
    (h : ∀ (o : Obj) (xs : List (NestedKey × Addr × Value)) (s' : Shared), Inv X pins σ (upd H a (dN a o)) s' → NdO (kx X ε) a o xs → NRel (kx X ε) H F xs (putN kvs k kd d) → Q () s') :
    wpAny (model X.prog X.w) A (setItem (.ref a) u vu) Q E s := by
  obtain ⟨b, rfl, fk⟩ := pk_key p ek
  cases ry
  obtain ⟨xs, hd, rel, hz, hlo⟩ := ddt_held I hw ob
  have hz2 : (storedH xs k b vu).length ≤ sizeLine := by
    have e1 := storedH_length xs k b vu
    have e2 : xs.length = kvs.length := Paired.length rel
    omega
  refine wpAny_setItem_heap (hsz := hz) (show A.units + 1 + 8 < cLine by omega) (fr_key I fk ek) hd fun h' hd' hs => ?_
  obtain ⟨o, ho, no⟩ := ddt_new hd' hz2 hlo
  refine h o _ _ ?_ no (rel.put ek fk rv fv)
  refine d_write I ?_ hs ⟨o, ho⟩ (dN_ok ho)
  obtain ⟨o', xs', rfl, _⟩ := ob
  rw [hw]
  exact True.intro
end
end Mi

/-! Mi42.lean -/
set_option Elab.async false
set_option linter.all false
set_option maxRecDepth 100000
/-! dicts of both kinds: expressions, tests, stores -/
namespace Mi
open PySem L2 PySem.Spec PyProof.Rows
section
variable {K : KX} {α : List Addr} {r : En} {σ : L2.St} {H : Hp} {F : Addr → Prop} {W : L2.WX} {X : Cx} {o e : Expr} {pos apos cpos : Pos} {f g : M Rv}
def dcG (x y : Rv) (z : Option PyData → Option Rv) : M Rv := fun r => match dcOf r x, peek r y with
  | some c, some kd => match c.get kd with
    | some q => match z q with
      | some v => .ok v r
      | none => .no
    | none => .no
  | _, _ => .no
def xixE (f g : M Rv) : M Rv := M.bnd f fun x => M.bnd g fun y => dcG x y fun q => q.map Rv.val
def xinE (neg : Bool) (f g : M Rv) : M Rv := M.bnd f fun y => M.bnd g fun x => dcG x y fun q => some (.val (.bool (neg != q.isSome)))
def xgE (f g : M Rv) : M Rv := M.bnd f fun x r1 => match dcOf r1 x with
  | none => .no
  | some _ => (M.bnd g fun y => dcG x y fun q => some (.val (q.getD .none))) r1
/-- d.get(k, v), v a plain thing -/
def xg2E (f g h : M Rv) : M Rv := M.bnd f fun x r1 => match dcOf r1 x with
  | none => .no
  | some _ => (M.bnd g fun y => M.bnd h fun z => match z with
    | .val d => dcG x y fun q => some (.val (q.getD d))
    | _ => fun _ => .no) r1
theorem dcG_ok {x y : Rv} {z : Option PyData → Option Rv} {vx vy : V} {O : Addr → Prop} {Q : VK} (S : SR K α r σ H F) (t1 : TR K α r σ H F x vx) (t2 : TR K α r σ H F y vy) (h : Aft K α σ O H F W (dcG x y z r) Q) :
    ∃ a c kd q v, vx = .ref a ∧ DCR K H F a c ∧ Pk K H F vy kd ∧ c.get kd = some q ∧ z q = some v ∧ Aft K α σ O H F W (.ok v r) Q := by
  unfold dcG at h
  split at h
  · rename_i c kd e1 e2
    split at h
    · rename_i q e3
      split at h
      · rename_i v e4
        obtain ⟨a, rfl, gg⟩ := dc_rel S t1 e1
        exact ⟨a, c, kd, q, v, rfl, gg, peek_rel S t2 e2, e3, e4, h⟩
      · exact h.elim
    · exact h.elim
  · exact h.elim
theorem ev_xix (hu : X.A.units + 10 < cLine) (hs : NoSl e) (ho : PE X o (tE (kx X ε) α W f)) (he : PE X e (tE (kx X ε) α W g)) : PE X (.Subscript o e pos) (tE (kx X ε) α W (xixE f g)) := ⟨fun pins s σ H Q I h => by
  obtain ⟨r, F, S, h⟩ := h
  refine subD_of PySem.F.slot_dict_getitem.lookup hs (thn (ho.run pins s σ H _ I (tE_bnd S h)) fun u s1 ⟨x, H1, I1, rx, r1, F1, x1, S1, st1, t1, h1⟩ => thn (he.run pins s1 σ H1 _ I1 (tE_bnd S1 h1)) fun iv s2 ⟨y, H2, I2, ry, r2, F2, x2, S2, st2, t2, h2⟩ => ?_)
  obtain ⟨a, c, kd, q, v, rfl, gg, p, e1, e2, h3⟩ := dcG_ok S2 (t1.step st2 fun a z => .inl z) t2 h2
  obtain ⟨d, rfl, rfl⟩ := Option.map_eq_some_iff.mp e2
  cases (show u = Value.ref a from rx)
  exact ⟨(x_at I2 gg).1, x_getItem hu I2 gg p ry e1 fun v w' s' I' r' fv => ⟨v, H2, I', r', (Aft.fin S2 h3).val _ _ rfl fv⟩⟩⟩
theorem pc_xin (hu : X.A.units + 10 < cLine) (he : PE X e (tE (kx X ε) α W f)) (ho : PE X o (tE (kx X ε) α W g)) : PC X .In e o (tE (kx X ε) α W (xinE false f g)) := ⟨fun pins s σ H Q I h => by
  obtain ⟨r, F, S, h⟩ := h
  refine thn (he.run pins s σ H _ I (tE_bnd S h)) fun u s1 ⟨x, H1, I1, rx, r1, F1, x1, S1, st1, t1, h1⟩ => thn (ho.run pins s1 σ H1 _ I1 (tE_bnd S1 h1)) fun iv s2 ⟨y, H2, I2, ry, r2, F2, x2, S2, st2, t2, h2⟩ => ?_
  obtain ⟨a, c, kd, q, v, rfl, gg, p, e1, e2, h3⟩ := dcG_ok S2 t2 (t1.step st2 fun a z => .inl z) h2
  cases e2
  cases (show iv = Value.ref a from ry)
  exact x_in hu I2 gg p rx e1 fun s' I' => ⟨.bl q.isSome, H2, I', rfl, (Aft.fin S2 h3).val _ _ rfl (by rw [Bool.false_bne]; exact .bl _)⟩⟩
theorem pc_xnotin (hu : X.A.units + 10 < cLine) (he : PE X e (tE (kx X ε) α W f)) (ho : PE X o (tE (kx X ε) α W g)) : PC X .NotIn e o (tE (kx X ε) α W (xinE true f g)) := ⟨fun pins s σ H Q I h => by
  obtain ⟨r, F, S, h⟩ := h
  refine thn (he.run pins s σ H _ I (tE_bnd S h)) fun u s1 ⟨x, H1, I1, rx, r1, F1, x1, S1, st1, t1, h1⟩ => thn (ho.run pins s1 σ H1 _ I1 (tE_bnd S1 h1)) fun iv s2 ⟨y, H2, I2, ry, r2, F2, x2, S2, st2, t2, h2⟩ => ?_
  obtain ⟨a, c, kd, q, v, rfl, gg, p, e1, e2, h3⟩ := dcG_ok S2 t2 (t1.step st2 fun a z => .inl z) h2
  cases e2
  cases (show iv = Value.ref a from ry)
  exact x_notIn hu I2 gg p rx e1 fun s' I' => ⟨.bl (!q.isSome), H2, I', rfl, (Aft.fin S2 h3).val _ _ rfl (by rw [Bool.true_bne]; exact .bl _)⟩⟩
theorem ev_xin (hu : X.A.units + 10 < cLine) (he : PE X e (tE (kx X ε) α W f)) (ho : PE X o (tE (kx X ε) α W g)) (hm : behindInMarks .In o = false) : PE X (.Compare e [.In] [o] pos) (tE (kx X ε) α W (xinE false f g)) := pe_cmp (pc_xin hu he ho) hm
theorem ev_xnotin (hu : X.A.units + 10 < cLine) (he : PE X e (tE (kx X ε) α W f)) (ho : PE X o (tE (kx X ε) α W g)) (hm : behindInMarks .NotIn o = false) : PE X (.Compare e [.NotIn] [o] pos) (tE (kx X ε) α W (xinE true f g)) := pe_cmp (pc_xnotin hu he ho) hm
theorem tv_xin (hu : X.A.units + 10 < cLine) (he : PE X e (tE (kx X ε) α W f)) (ho : PE X o (tE (kx X ε) α W g)) (hm : behindInMarks .In o = false) : PT X (.Compare e [.In] [o] pos) (tT (kx X ε) α W (tstB (xinE false f g))) :=
  pt_weak (pt_cmp (pc_xin hu he ho) hm) fun σ H Q q => tst_ok (P := fun v _ b => v = .bl b) (fun _ _ _ _ _ p e => bool_pk p e) q
theorem tv_xnotin (hu : X.A.units + 10 < cLine) (he : PE X e (tE (kx X ε) α W f)) (ho : PE X o (tE (kx X ε) α W g)) (hm : behindInMarks .NotIn o = false) : PT X (.Compare e [.NotIn] [o] pos) (tT (kx X ε) α W (tstB (xinE true f g))) :=
  pt_weak (pt_cmp (pc_xnotin hu he ho) hm) fun σ H Q q => tst_ok (P := fun v _ b => v = .bl b) (fun _ _ _ _ _ p e => bool_pk p e) q
theorem ev_xg (hu : X.A.units + 10 < cLine) (ho : PE X o (tE (kx X ε) α W f)) (he : PE X e (tE (kx X ε) α W g)) (m : M1 X o "get" apos e cpos := by exact ⟨by rfl, by rfl, by rfl, by rfl⟩) :
    PE X (.Call (.Attribute o "get" apos) [e] [] cpos) (tE (kx X ε) α W (xgE f g)) := ⟨fun pins s σ H Q I h => by
  obtain ⟨r, F, S, h⟩ := h
  refine wpAny_Call_method m.base m.few m.line PySem.F.plainAttrs_dict PySem.F.slot_dict_get PySem.F.type_dict_get (thn (ho.run pins s σ H _ I (tE_bnd S h)) fun u s1 ⟨x, H1, I1, rx, r1, F1, x1, S1, st1, t1, h1⟩ => ?_)
  cases e1 : dcOf r1 x1 with
  | none => simp only [e1] at h1; exact h1.elim
  | some c0 =>
    simp only [e1] at h1
    obtain ⟨a, rfl, gg0⟩ := dc_rel S1 t1 e1
    cases (show u = Value.ref a from rx)
    obtain ⟨d1, d2, _⟩ := x_at I1 gg0
    refine ⟨d1, d2, ?_⟩
    rw [m.trees]
    refine Calls.callWith_builtin rfl (Calls.evalArgs_plain (Calls.spliced_cons (thn (he.run pins s1 σ H1 _ I1 (tE_bnd S1 h1)) fun iv s2 ⟨y, H2, I2, ry, r2, F2, x2, S2, st2, t2, h2⟩ => Calls.spliced_nil ?_)))
    obtain ⟨a', c, kd, q, v, ea, gg, p, e2, e3, h3⟩ := dcG_ok S2 (t1.step st2 fun a z => .inl z) t2 h2
    cases ea
    cases e3
    exact x_get1 hu I2 gg p ry e2 fun v w' s' I' r' fv => ⟨v, H2, I', r', (Aft.fin S2 h3).val _ _ rfl fv⟩⟩
theorem ev_xg2 {d0 : Expr} {h0 : M Rv} (hu : X.A.units + 10 < cLine) (ho : PE X o (tE (kx X ε) α W f)) (he : PE X e (tE (kx X ε) α W g)) (hd : PE X d0 (tE (kx X ε) α W h0)) (m : M2 X o "get" apos e d0 cpos := by exact ⟨by rfl, by rfl, by rfl, by rfl⟩) :
    PE X (.Call (.Attribute o "get" apos) [e, d0] [] cpos) (tE (kx X ε) α W (xg2E f g h0)) := ⟨fun pins s σ H Q I h => by
  obtain ⟨r, F, S, h⟩ := h
  refine wpAny_Call_method m.base m.few m.line PySem.F.plainAttrs_dict PySem.F.slot_dict_get PySem.F.type_dict_get (thn (ho.run pins s σ H _ I (tE_bnd S h)) fun u s1 ⟨x, H1, I1, rx, r1, F1, x1, S1, st1, t1, h1⟩ => ?_)
  cases e1 : dcOf r1 x1 with
  | none => simp only [e1] at h1; exact h1.elim
  | some c0 =>
    simp only [e1] at h1
    obtain ⟨a, rfl, gg0⟩ := dc_rel S1 t1 e1
    cases (show u = Value.ref a from rx)
    obtain ⟨d1, d2, _⟩ := x_at I1 gg0
    refine ⟨d1, d2, ?_⟩
    rw [m.trees]
    refine Calls.callWith_builtin rfl (Calls.evalArgs_plain (Calls.spliced_cons (thn (he.run pins s1 σ H1 _ I1 (tE_bnd S1 h1)) fun iv s2 ⟨y, H2, I2, ry, r2, F2, x2, S2, st2, t2, h2⟩ =>
      Calls.spliced_cons (thn (hd.run pins s2 σ H2 _ I2 (tE_bnd S2 h2)) fun jv s3 ⟨y3, H3, I3, rz, r3, F3, x3, S3, st3, t3, h3⟩ => Calls.spliced_nil ?_))))
    cases x3 with
    | own d => exact h3.elim
    | «at» l => exact h3.elim
    | val d =>
      obtain ⟨a', c, kd, q, v, ea, gg, p, e2, e3, h4⟩ := dcG_ok S3 ((t1.step st2 fun a z => .inl z).step st3 fun a z => .inl z) (t2.step st3 fun a z => .inl z) h3
      cases ea
      cases e3
      refine x_get2 hu I3 gg p ry rz e2 fun v w' s' I' r' fv => ⟨v, H3, I', r', (Aft.fin S3 h4).val _ _ rfl ?_⟩
      cases q with
      | none => cases fv; exact t3
      | some d => exact fv⟩
/-! len(d), list(d) -/
def DC.len : DC → Nat
  | .k kvs => kvs.length
  | .n kvs => kvs.length
def xlenE (f : M Rv) : M Rv := M.bnd f fun x r => match dcOf r x with
  | some (.n kvs) => .ok (.val (.int kvs.length)) r
  | _ => .no
theorem call_xlen : CallR X (.builtin "len") fun xs H Q => ∃ F a kvs w, xs = [V.ref a] ∧ H a = some w ∧ ObR (kx X ε) H F a (.ddt kvs) w ∧ Q (.int kvs.length) H := by
  intro pins s σ H xs us Q I r h
  obtain ⟨F, a, kvs, w, rfl, hw, ob, q⟩ := h
  obtain ⟨u, rfl, ru⟩ := vals1 r
  cases ru
  obtain ⟨ys, hd, rel, hz, hl⟩ := ddt_held I hw ob
  have e : ys.length = kvs.length := Paired.length rel
  refine call_len_dictH hl hd (by rw [sizeLine_eq] at hz; omega) ?_
  rw [e]
  exact ⟨.int (kvs.length : Nat), H, I.tok _, ⟨_, rfl⟩, q⟩
theorem xlen_ok {Q : VK} (h : tE K α W (xlenE f) σ H Q) : tE K α W f σ H fun v H1 => ∃ F a kvs w, [v] = [V.ref a] ∧ H1 a = some w ∧ ObR K H1 F a (.ddt kvs) w ∧ Q (.int kvs.length) H1 := by
  obtain ⟨r, F, S, h⟩ := h
  refine tE_mono (tE_bnd S h) fun x H1 ⟨r1, F1, x1, S1, st1, t1, h1⟩ => ?_
  split at h1
  · rename_i kvs e
    obtain ⟨a, rfl, w, hw, ob⟩ := dc_rel S1 t1 e
    exact ⟨F1, a, kvs, w, rfl, hw, ob, (Aft.fin S1 h1).val _ _ rfl (.int _)⟩
  · exact h1.elim
theorem ev_xlen {p : Pos} (hg : Gl X "len") (hm : X.mg "len" = none) (ha : PE X e (tE (kx X ε) α W f)) (he : starEach [e] X.env = (false, eval e X.env) :: starEach [] X.env := by rfl) : PE X (.Call (.Name "len" p) [e] [] pos) (tE (kx X ε) α W (xlenE f)) :=
  pe_weak (pe_callB call_xlen hg hm PyProof.Rows.Boot.«len» (pa_cons ha pa_nil he) (by decide) (by decide) he rfl) fun _ _ _ q => xlen_ok q
def xlistE (f : M Rv) : M Rv := M.bnd f fun x r => match dcOf r x with
  | some (.n kvs) => .ok (.own (.lst (kvs.map (·.1)))) r
  | _ => .no
theorem NRel.keys {xs : List (NestedKey × Addr × Value)} {kvs : List (PyData × PyData)} (h : NRel K H F xs kvs) : FrAll K H F (xs.map fun x => V.ref x.2.1) (kvs.map (·.1)) := by
  unfold NRel at h
  induction h with
  | nil => exact .nil
  | cons a _ ih => exact .cons a.2.1 ih
theorem vals_refsL : ∀ bs : List Addr, Vals (bs.map V.ref) (bs.map Value.ref)
  | [] => .nil
  | _ :: r => .cons rfl (vals_refsL r)
theorem call_xlist (hc : X.calm = true) : CallR X (.type "list") fun xs H Q => ∃ F a kvs w, xs = [V.ref a] ∧ H a = some w ∧ ObR (kx X ε) H F a (.ddt kvs) w ∧ ∀ p vs, H p = none → FrAll (kx X ε) H F vs (kvs.map (·.1)) → Q (.ref p) (upd H p (.lst vs)) := by
  intro pins s σ H xs us Q I r h
  obtain ⟨F, a, kvs, w, rfl, hw, ob, q⟩ := h
  obtain ⟨u, rfl, ru⟩ := vals1 r
  cases ru
  obtain ⟨ks, ⟨o, es, ep, ho, hx, hdt, he, _, hn⟩, rel, hz, hl⟩ := ddt_held I hw ob
  have l1 : es.size = ks.length := size_of_entries he
  refine PySem.W.kdl_call (kdl_raw hl hx hdt) (I.ok.hd hc) ho (by omega) fun h' tk acc' c' kp e it => ?_
  have ea : acc'.toList = ks.map fun x => Value.ref x.2.1 := by
    have hl : acc'.toList.length = ks.length := by rw [Array.length_toList, it.1]; exact l1
    refine List.ext_getElem? fun j => ?_
    rw [List.getElem?_map]
    cases hj : acc'.toList[j]? with
    | none =>
      have h1 := List.getElem?_eq_none_iff.mp hj
      rw [List.getElem?_eq_none (by omega)]; rfl
    | some v =>
      obtain ⟨en, hen, hv⟩ := it.2 j v (by rw [← Array.getElem?_toList]; exact hj)
      have qe := entry_at he j
      rw [hen] at qe
      cases hb : ks[j]? with
      | none => rw [hb] at qe; cases qe
      | some b =>
        rw [hb] at qe
        have e2 : en = entryOfKey (nestedKind X.prog X.w) b := Option.some.inj qe
        rw [hv, e2]; rfl
  have eb : acc'.toList = (ks.map fun x => x.2.1).map Value.ref := by rw [ea, List.map_map]; rfl
  have rv : Vals ((ks.map fun x => x.2.1).map V.ref) acc'.toList := by rw [eb]; exact vals_refsL _
  have hz2 : ((ks.map fun x => x.2.1).map V.ref).length ≤ sizeLine := by rw [List.length_map, List.length_map]; omega
  have fk := rel.keys
  rw [show (ks.map fun x => V.ref x.2.1) = (ks.map fun x => x.2.1).map V.ref by rw [List.map_map]; rfl] at fk
  refine ⟨.ref s.heap.objs.size, _, I.laid (t' := tk) (o := .lst ((ks.map fun x => x.2.1).map V.ref)) kp (Nat.le_refl _) ?_, rfl, q _ _ (I.hok.fresh (Nat.le_refl _)) fk⟩
  exact ⟨hz2, acc'.toList, c', rv, by rw [Array.toArray_toList]; exact e⟩
theorem xlist_ok {Q : VK} (h : tE K α W (xlistE f) σ H Q) : tE K α W f σ H fun v H1 => ∃ F a kvs w, [v] = [V.ref a] ∧ H1 a = some w ∧ ObR K H1 F a (.ddt kvs) w ∧ ∀ p vs, H1 p = none → FrAll K H1 F vs (kvs.map (·.1)) → Q (.ref p) (upd H1 p (.lst vs)) := by
  obtain ⟨r, F, S, h⟩ := h
  refine tE_mono (tE_bnd S h) fun x H1 ⟨r1, F1, x1, S1, st1, t1, h1⟩ => ?_
  split at h1
  · rename_i kvs e
    obtain ⟨a, rfl, w, hw, ob⟩ := dc_rel S1 t1 e
    exact ⟨F1, a, kvs, w, rfl, hw, ob, fun p vs hp fr => (Aft.fin S1 h1).new _ vs p rfl hp fr⟩
  · exact h1.elim
theorem ev_xlist {p : Pos} (hc : X.calm = true) (hg : Gl X "list") (hm : X.mg "list" = none) (ha : PE X e (tE (kx X ε) α W f)) (he : starEach [e] X.env = (false, eval e X.env) :: starEach [] X.env := by rfl) : PE X (.Call (.Name "list" p) [e] [] pos) (tE (kx X ε) α W (xlistE f)) :=
  pe_weak (pe_callTy (call_xlist hc) hg hm PyProof.Rows.Boot.«list» (pa_cons ha pa_nil he) (by decide) (by decide) he rfl) fun _ _ _ q => xlist_ok q
end
end Mi

/-! Mi43.lean -/
set_option Elab.async false
set_option linter.all false
set_option maxRecDepth 100000
/-! dicts with nested keys: made, stored into -/
namespace Mi
open PySem L2 PySem.Spec PyProof.Rows
section
variable {K : KX} {α : List Addr} {r : En} {σ : L2.St} {H : Hp} {F : Addr → Prop} {W : L2.WX} {X : Cx} {o e : Expr} {pos apos cpos : Pos} {f g : M Rv}
theorem Aft.newO (S : SR K α r σ H F) {o : Ob} {Q : VK} (h : Aft K α σ (Own α r σ) H F W (.ok (.own o) r) Q) {p : Addr} {u : HO} (hp : H p = none) (ob : ObR K (upd H p u) F p o u) : Q (.ref p) (upd H p u) :=
  h _ _ F (S.new _ hp) (step_new S _ hp fun a z => z.elim .inl fun ⟨_, z⟩ => .inr (by injection z with z; exact z.symm)) ⟨p, _, rfl, upd_same, ob, notF_new S hp, notOwn_new S hp⟩
theorem ndo_empty {a : Addr} (hl : (a == sysModules) = false) : NdO K a { cls := .type "dict", data := .dict #[] } [] :=
  ⟨⟨#[], 0, ⟨rfl, rfl, rfl⟩, rfl, rfl⟩, List.nodup_nil, Nat.zero_le _, hl⟩
/-! {} with nested keys to come -/
def xnewE : M Rv := fun r => .ok (.own (.ddt [])) r
theorem ev_xnew : PE X (.Dict [] [] pos) (tE (kx X ε) α W xnewE) := ⟨fun pins s σ H Q I h => by
  obtain ⟨r, F, S, h⟩ := h
  have hp := I.hok.fresh (Nat.le_refl s.heap.objs.size)
  have hl : (s.heap.objs.size == sysModules) = false := beq_eq_false_iff_ne.mpr (Ne.symm (Nat.ne_of_lt I.big))
  exact wpAny_Dict_empty ⟨.ref s.heap.objs.size, _, I.laid (a := s.heap.objs.size) (o := dN s.heap.objs.size { cls := .type "dict", data := .dict #[] }) (t' := s.toks) (fun _ _ q => Heap.get?_push_of_some _ q) (Nat.le_refl _) (dN_ok (Heap.get?_push_size _ rfl)), rfl,
    Aft.newO S h hp ⟨_, [], rfl, ndo_empty hl, .nil⟩⟩⟩
/-! {k: v} -/
def xone (x y : Rv) : M Rv := fun r => match x, y with
  | .val kd, .val d => match keyT kd with
    | some _ => .ok (.own (.ddt [(kd, d)])) r
    | none => .no
  | _, _ => .no
def xoneE (f g : M Rv) : M Rv := M.bnd f fun x => M.bnd g fun y => xone x y
/-- an object that stands and that nobody holds is changed -/
theorem loose_step (S : SR K α r σ H F) {p : Addr} {u u' : HO} (hp : H p = some u) (mu : immu u = false) (nF : ¬ F p) (nO : ¬ Own α r σ p) : SR K α r σ (upd H p u') F ∧ Stay H F (upd H p u') F := by
  have st : Stay H F (upd H p u') F := ⟨fun _ h => h, fun a q => upd_ne fun e => nF (by rw [← e]; exact q), fun a w q i => by
    rw [upd_ne (fun e => by subst e; rw [hp] at q; cases q; rw [mu] at i; cases i)]; exact q⟩
  exact ⟨S.over st (fun a q => upd_ne fun e => nO (by rw [← e]; exact q)) (fun a ⟨l, q⟩ => S.sep l a q) (fun a q => by
    obtain ⟨w, z⟩ := S.fdom a q
    exact ⟨w, by rw [upd_ne (fun e => nF (by rw [← e]; exact q))]; exact z⟩), st⟩
theorem loose_keep {O O2 : Addr → Prop} {H2 : Hp} {F2 : Addr → Prop} {p : Addr} {u : HO} (st : Step O H F H2 F2 O2) (hp : H p = some u) (nF : ¬ F p) (nO : ¬ O p) : H2 p = some u ∧ ¬ F2 p ∧ ¬ O2 p := by
  refine ⟨st.keep p u hp nO, fun z => ?_, fun z => ?_⟩
  · rcases st.nfz p z with z | z | z
    · exact nF z
    · exact nO z
    · rw [hp] at z; cases z
  · rcases st.own p z with z | z
    · exact nO z
    · rw [hp] at z; cases z
abbrev dict0 : Obj := { cls := .type "dict", data := .dict #[] }
/-- a display whose keys are tuples, told by its entries -/
theorem eval_disp {prog : Program} {w : World} {A : Around} {E : Value → Shared → Prop} {s : Shared} {env : Env} {ks : List (Option Expr)} {vs : List Expr} {Q : Value → Shared → Prop} (hu : A.units + 8 < cLine) (ha : ks.all (·.isSome) = true) (hl : ks.length = vs.length)
    (h0 : pairTrees ks vs env pos ≠ []) (h15 : (pairTrees ks vs env pos).length ≤ 15)
    (h : wpAny (model prog w) A (evalPairs (pairTrees ks vs env pos)) (fun us s1 => ∃ ps, CarriesH (nestedKind prog w) s1.heap us ps ∧ s1.heap.DictOfH (nestedKind prog w) s.heap.objs.size [] ∧
      ∀ h' tk, h'.DictOfH (nestedKind prog w) s.heap.objs.size (storedAllH [] ps) → Heap.SameBut s.heap.objs.size s1.heap h' → Q (.ref s.heap.objs.size) { s1 with heap := h', toks := tk }) E { s with heap := s.heap.push dict0 }) :
    wpAny (model prog w) A (eval (.Dict ks vs pos) env) Q E s := by
  rw [arm_eval_Dict, zip_pairTrees ks vs env pos ha hl, dictDisplay_pairs _ h0 (by omega)]
  refine wpAny_bind (wpAny_standAt (wpAny_bind (wpAny_subDictH (knd := nestedKind prog w) hu h15 (wpAny_mono h (fun us s1 q => ?_) fun _ _ z => z))))
  obtain ⟨ps, q1, q2, q3⟩ := q
  exact ⟨ps, q1, q2, fun h' tk a b => wpAny_pure (q3 h' tk a b)⟩
theorem ev_xone {k v : Expr} (hu : X.A.units + 10 < cLine) (hk : PE X k (tE (kx X ε) α W f)) (hv : PE X v (tE (kx X ε) α W g)) : PE X (.Dict [some k] [v] pos) (tE (kx X ε) α W (xoneE f g)) := ⟨fun pins s σ H Q I h => by
  obtain ⟨r, F, S, h⟩ := h
  have hp := I.hok.fresh (Nat.le_refl s.heap.objs.size)
  have hl : (s.heap.objs.size == sysModules) = false := beq_eq_false_iff_ne.mpr (Ne.symm (Nat.ne_of_lt I.big))
  have I1 := I.laid (a := s.heap.objs.size) (o := dN s.heap.objs.size dict0) (h' := s.heap.push dict0) (t' := s.toks) (fun _ _ q => Heap.get?_push_of_some _ q) (Nat.le_refl _) (dN_ok (Heap.get?_push_size _ rfl))
  refine eval_disp (by omega) rfl rfl (by unfold pairTrees; simp) (by rw [pairTrees_length _ _ X.env pos rfl rfl]; show 1 ≤ 15; omega) ?_
  generalize s.heap.objs.size = p at hp hl I1 ⊢
  have S1 := S.new (dN p dict0) hp
  have st0 : Step (Own α r σ) H F (upd H p (dN p dict0)) F (Own α r σ) := step_new S _ hp fun a z => .inl z
  refine pairTrees_cons_walk (thn (hk.run pins _ σ _ (fun x H2 => ∃ r1 F2 x1, f r = .ok x1 r1 ∧ SR (kx X ε) α r1 σ H2 F2 ∧ Step (Own α r σ) (upd H p (dN p dict0)) F H2 F2 (OwnT α r1 σ x1 x) ∧ TR (kx X ε) α r1 σ H2 F2 x1 x) I1 ⟨r, F, S1, ?_⟩) fun ku s2 ⟨x, H2, I2, rx, r1, F2, x1, e1, S2, st1, t1⟩ => ?_)
  · unfold xoneE M.bnd at h
    cases e : f r with
    | no => rw [e] at h; exact h.elim
    | ex z r1 => rw [e] at h; exact AftX.step h st0 fun _ z => z
    | ok x r1 => exact fun v H' F' a b c => ⟨r1, F', x, rfl, a, b, c⟩
  have h : Aft (kx X ε) α σ (Own α r σ) H F W (M.bnd g (fun y => xone x1 y) r1) Q := by
    unfold xoneE at h
    unfold M.bnd at h ⊢
    rw [e1] at h; exact h
  have c1 := st0.trans st1 fun _ z => z
  have l1 := loose_keep st1 upd_same (notF_new S hp) (notOwn_new S hp)
  refine thn (hv.run pins s2 σ H2 (fun y H4 => ∃ r2 F4 y1, g r1 = .ok y1 r2 ∧ SR (kx X ε) α r2 σ H4 F4 ∧ Step (Own α r1 σ) H2 F2 H4 F4 (OwnT α r2 σ y1 y) ∧ TR (kx X ε) α r2 σ H4 F4 y1 y) I2 ⟨r1, F2, S2, ?_⟩) fun vu s4 ⟨y, H4, I4, ry, r2, F4, y1, e2, S4, st2, t2⟩ => ?_
  · unfold M.bnd at h
    cases e : g r1 with
    | no => rw [e] at h; exact h.elim
    | ex z r2 => rw [e] at h; exact AftX.step h c1 fun _ z => .inl z
    | ok y r2 => exact fun v H' F' a b c => ⟨r2, F', y, rfl, a, b, c⟩
  have h : Aft (kx X ε) α σ (Own α r σ) H F W (xone x1 y1 r2) Q := by
    unfold M.bnd at h
    rw [e2] at h; exact h
  have c2 := c1.trans st2 fun _ z => .inl z
  obtain ⟨g1, g2, g3⟩ := loose_keep st2 l1.1 l1.2.1 fun z => l1.2.2 (.inl z)
  refine pairTrees_nil_walk ?_
  cases x1 with
  | own d => exact h.elim
  | «at» l => exact h.elim
  | val kd =>
    cases y1 with
    | own d => exact h.elim
    | «at» l => exact h.elim
    | val d =>
      cases ek : keyT kd with
      | none => unfold xone at h; simp only [ek] at h; exact h.elim
      | some nk =>
        unfold xone at h
        simp only [ek] at h
        have fk : Fr (kx X ε) H2 F2 x kd := t1
        obtain ⟨b, rfl⟩ := fr_ref fk ek
        have fk := Fr.stay st2.stay fk
        cases (show ku = Value.ref b from rx)
        have ho : s4.heap.get? p = some dict0 := (I4.hok p _ g1).1
        refine ⟨[(nk, b, vu)], ⟨rfl, rfl, fr_key I4 fk ek, trivial⟩, ⟨dict0, #[], 0, ho, ⟨rfl, rfl, rfl⟩, rfl, rfl, fun _ hx => (nomatch hx), List.nodup_nil⟩, fun h' tk hd hs => ?_⟩
        obtain ⟨o', ho', no⟩ := ddt_new hd (Nat.le_trans (show 1 ≤ 16 by omega) (by rw [sizeLine_eq]; omega)) hl
        obtain ⟨S5, st5⟩ := loose_step (u' := dN p o') S4 g1 rfl g2 fun z => g3 (.inl z)
        have ne : ∀ {a : Addr} {u : HO}, H a = some u → a ≠ p := fun {a u} q z => by rw [z, hp] at q; cases q
        refine ⟨.ref p, upd H4 p (dN p o'), d_write I4 (by rw [g1]; exact True.intro) hs ⟨o', ho'⟩ (dN_ok ho'), rfl, h _ _ F4 S5 ⟨fun a u q n => ?_, c2.stay.trans st5, fun a z => c2.nfz a z, fun a z => ?_, fun a z => ?_⟩ ⟨p, _, rfl, upd_same, ⟨o', _, rfl, no, .cons ⟨ek, Fr.stay st5 fk, y, ry, Fr.stay st5 t2⟩ .nil⟩, g2, fun z => g3 (.inl z)⟩⟩
        · rw [upd_ne (ne q)]
          exact c2.keep a u q n
        · rcases z with z | ⟨_, z⟩
          · exact c2.own a (.inl z)
          · cases z; exact .inr hp
        · by_cases e : a = p
          · rw [e]; exact hp
          · rw [upd_ne e] at z; exact c2.dom a z
⟩
end
end Mi

/-! Mi44.lean -/
set_option Elab.async false
set_option linter.all false
set_option maxRecDepth 100000
/-! d[k] = v, for dicts of both kinds -/
namespace Mi
open PySem L2 PySem.Spec PyProof.Rows
section
variable {K : KX} {α : List Addr} {r : En} {σ : L2.St} {H : Hp} {F : Addr → Prop} {W : L2.WX} {X : Cx} {e : Expr} {pos : Pos} {f g : M Rv}
def xstF (d : PyData) (o i : Rv) (r : En) : Out := match o with
  | .at l => match look r l, peek r i with
    | some (.live (.dct kvs)), some kd => match keyOf kd with
      | some k => if kvs.length < sizeLine then .nx (setLo r l (.live (.dct (putD kvs k d)))) else .no
      | none => .no
    | some (.live (.ddt kvs)), some kd => match keyT kd with
      | some k => if kvs.length < sizeLine then .nx (setLo r l (.live (.ddt (putN kvs k kd d)))) else .no
      | none => .no
    | _, _ => .no
  | _ => .no
def xstS (f : M Rv) (j : Nat) (g : M Rv) : Stm := ofM f fun x => ofM (frz x) fun d => ofM (nmE j) fun o => ofM g fun i => xstF d o i
def rSetX (K : KX) : TSet := fun o i v H Q => rSetD o i v H Q ∨ ∃ (a : Addr) (F : Addr → Prop) (kvs : List (PyData × PyData)) (w : HO) (kd : PyData) (k : NestedKey) (d : PyData), o = .ref a ∧ H a = some w ∧ ObR K H F a (.ddt kvs) w ∧ Pk K H F i kd ∧ keyT kd = some k ∧
  kvs.length < sizeLine ∧ Fr K H F v d ∧ ∀ (ob : Obj) (xs : List (NestedKey × Addr × Value)), NdO K a ob xs → NRel K H F xs (putN kvs k kd d) → Q (upd H a (dN a ob))
theorem set_x (hu : X.A.units + 10 < cLine) : PSet X (rSetX (kx X ε)) := by
  intro pins s σ H o i v ov iv u Q I ro ri rv h
  rcases h with h | ⟨a, F, kvs, w, kd, k, d, rfl, hw, ob, p, ek, hl, fv, q⟩
  · exact set_dict (by omega) pins s σ H o i v ov iv u Q I ro ri rv h
  · cases (show ov = Value.ref a from ro)
    exact n_setItem hu I hw ob p ri ek hl rv fv fun ob xs s' I' n rel => ⟨_, I', q ob xs n rel⟩
theorem xstF_ok {d : PyData} {o i : Rv} {v vo vi : V} {D : Ends} {O : Addr → Prop} (S : SR K α r σ H F) (fv : Fr K H F v d) (t1 : TR K α r σ H F o vo) (t2 : TR K α r σ H F i vi) (ho : ∀ a, Own α r σ a → O a) (h : AftS K α O H F W (xstF d o i r) D) :
    rSetX K vo vi v H fun H3 => D.nx σ H3 := by
  cases o with
  | val d => exact h.elim
  | own o => exact h.elim
  | «at» l =>
    unfold xstF at h
    simp only at h
    split at h
    · rename_i kvs kd q1 q2
      split at h
      · rename_i k ek
        split at h
        · rename_i hl
          obtain ⟨a, rfl, ha⟩ := t1
          obtain ⟨a', u, e1, h1, ps, rfl, h2⟩ := content_rel S (x := .at l) (b := .live (.dct kvs)) ⟨a, rfl, ha⟩ q1
          cases e1
          have h2 : DRel K H F ps kvs := h2
          have ek := (peek_rel S t2 q2).key ek
          obtain ⟨S', st, ow⟩ := S.write q1 ha (o' := .dct (putD kvs k d)) (u' := .dK (putK ps k v)) ⟨_, rfl, h2.put k fv⟩
          exact .inl ⟨a, _, rfl, .inl ⟨ps, k, h1, ek, by rw [h2.len]; exact hl, rfl⟩, h σ _ F S' (st.widen ho fun z q => .inl q)⟩
        · exact h.elim
      · exact h.elim
    · rename_i kvs kd q1 q2
      split at h
      · rename_i k ek
        split at h
        · rename_i hl
          obtain ⟨a, rfl, ha⟩ := t1
          obtain ⟨a', u, e1, h1, h2⟩ := content_rel S (x := .at l) (b := .live (.ddt kvs)) ⟨a, rfl, ha⟩ q1
          cases e1
          refine .inr ⟨a, F, kvs, u, kd, k, d, rfl, h1, h2, peek_rel S t2 q2, ek, hl, fv, fun ob xs n rel => ?_⟩
          obtain ⟨S', st, ow⟩ := S.write q1 ha (o' := .ddt (putN kvs k kd d)) (u' := dN a ob) ⟨ob, xs, rfl, n, rel⟩
          exact h σ _ F S' (st.widen ho fun z q => .inl q)
        · exact h.elim
      · exact h.elim
    · exact h.elim
theorem xst_ok {f : M Rv} {j : Nat} {g : M Rv} {D : Ends} (h : tS K α W (xstS f j g) D σ H) : tAsg (tE K α W f) (gSub (tE K α W (nmE j)) (tE K α W g) (rSetX K)) D σ H := by
  obtain ⟨r, F, S, h⟩ := h
  refine tE_mono (ofM_E S h) fun v H1 ⟨r1, F1, x, S1, st1, t1, h1⟩ => ?_
  unfold ofM at h1
  cases ez : frz x r1 with
  | no => simp only [ez] at h1; exact h1.elim
  | ex w r5 => exact absurd ez frz_ex
  | ok d r2 =>
    simp only [ez] at h1
    obtain ⟨F2, S2, fv, st2, _⟩ := frz_ok S1 t1 ez
    have h2 : AftS K α (Own α r2 σ) H1 F2 W (ofM (nmE j) (fun o => ofM g fun i => xstF d o i) r2) D := AftS.step h1 st2 fun _ z => z
    refine tE_mono (ofM_E S2 h2) fun vo H3 ⟨r3, F3, o, S3, st3, t3, h3⟩ => ?_
    have h3' : AftS K α (Own α r3 σ) H3 F3 W (ofM g (fun i => xstF d o i) r3) D := AftS.step h3 (Step.refl (O' := Own α r3 σ) fun _ z => .inl z) fun _ z => z
    refine tE_mono (ofM_E S3 h3') fun vi H4 ⟨r4, F4, i, S4, st4, t4, h4⟩ => ?_
    exact xstF_ok S4 (Fr.stay st4.stay (Fr.stay st3.stay fv)) (t3.step st4 fun _ z => .inl z) t4 (fun _ z => .inl z) h4
theorem sv_xst {j : Nat} {tg : Expr} (he : PE X e (tE (kx X ε) α W f)) (hg : PG X tg (gSub (tE (kx X ε) α W (nmE j)) (tE (kx X ε) α W g) (rSetX (kx X ε)))) (hs : swapsWithSole [tg] e pos.line X.env = pure false := by rfl) (hw : swappedStores [tg] e X.env = pure none := by rfl)
    (h1 : (assignEach [tg] X.env).map (·.2) = [assign tg X.env] := by rfl) : PS X (.Assign [tg] e pos) (tS (kx X ε) α W (xstS f j g)) := ps_weak (ps_asg he hg hs hw h1) fun _ _ _ q => xst_ok q
end
theorem u10 {A : Around} {k : Nat} (hr : Room k A) : A.units + 10 < cLine := by have := hr.un; omega
end Mi

/-! Mi45.lean -/
set_option Elab.async false
set_option linter.all false
set_option maxRecDepth 100000
/-! a caught exception by its name: except C as e -/
namespace Mi
open PySem L2 PySem.Spec PyProof.Rows
variable {K : KX} {α : List Addr} {r r' : En} {σ : L2.St} {H H' : Hp} {F F' : Addr → Prop}
/-! the same relations under another caught exception -/
abbrev KX.ca' (K : KX) (c : Ca) : KX := ⟨K.fr, K.P, K.w, c⟩
mutual
theorem Fr.caE (c : Ca) : ∀ {v : V} {d : PyData}, Fr K H F v d → Fr (K.ca' c) H F v d
  | _, _, .non => .non
  | _, _, .bl b => .bl b
  | _, _, .int i => .int i
  | _, _, .str x => .str x
  | _, _, .own h1 h2 h3 => .own h1 h2 (FrAll.caE c h3)
  | _, _, .frz h1 h3 => .frz h1 (FrAll.caE c h3)
  | _, _, .klst h1 h3 => .klst h1 (FrAll.caE c h3)
  | _, _, .tup h1 h3 => .tup h1 (FrAll.caE c h3)
  | _, _, .dct h1 h2 h3 h4 => .dct h1 h2 h3 (FrAll.caE c h4)
theorem FrAll.caE (c : Ca) : ∀ {v : List V} {d : List PyData}, FrAll K H F v d → FrAll (K.ca' c) H F v d
  | _, _, .nil => .nil
  | _, _, .cons h1 h2 => .cons (Fr.caE c h1) (FrAll.caE c h2)
end
theorem ObR.caE (c : Ca) {a : Addr} {o : Ob} {u : HO} (h : ObR K H F a o u) : ObR (K.ca' c) H F a o u := by
  cases o with
  | ddt kvs => obtain ⟨o, xs, e, h1, h⟩ := h; exact ⟨o, xs, e, ⟨h1.ex, h1.nd, h1.sz, h1.lo⟩, paired_imp (fun a b ⟨q1, q2, v, q3, q4⟩ => ⟨q1, q2.caE c, v, q3, q4.caE c⟩) h⟩
  | lst ds => obtain ⟨xs, e, h⟩ := h; exact ⟨xs, e, h.caE c⟩
  | dct kvs => obtain ⟨ps, e, h⟩ := h; exact ⟨ps, e, paired_imp (fun a b q => ⟨q.1, q.2.caE c⟩) h⟩
  | fdc kvs => obtain ⟨o, ps, e, h⟩ := h; exact ⟨o, ps, e, paired_imp (fun a b q => ⟨q.1, q.2.caE c⟩) h⟩
theorem ExR.caE (c : Ca) {x : Exc} {cls : Value} {d : Option Addr} (h : ExR K H F x cls d) : ExR (K.ca' c) H F x cls d := by
  obtain ⟨h1, h2⟩ := h
  refine ⟨h1, ?_⟩
  cases e : x.flds with
  | nil => rw [e] at h2; exact h2
  | cons f fs =>
    rw [e] at h2
    obtain ⟨a, ps, q1, q0, q2, q3⟩ := h2
    exact ⟨a, ps, q1, q0, q2, paired_imp (fun p q z => ⟨z.1, z.2.caE c⟩) q3⟩
/-- no slot holds a caught exception -/
def noCau (r : En) : Bool := r.vs.all fun s => match s with
  | some (.cau _) => false
  | _ => true
theorem noCau_get (h : noCau r = true) {i : Nat} {x : Exc} : r.vs[i]? ≠ some (some (.cau x)) := fun e => by
  have z := List.all_eq_true.mp h _ (List.mem_of_getElem? e)
  cases z
theorem SR.caE (c : Ca) (S : SR K α r σ H F) (n : noCau r = true) : SR (K.ca' c) α r σ H F where
  len := S.len
  slot := fun i s q => by
    obtain ⟨v, h1, h2⟩ := S.slot i s q
    refine ⟨v, h1, ?_⟩
    cases s with
    | val d => exact Fr.caE c h2
    | own o => obtain ⟨a, u, e, h3, h4⟩ := h2; exact ⟨a, u, e, h3, h4.caE c⟩
    | bor k => exact h2
    | cau x => exact absurd q (noCau_get n)
  obj := fun k b q => by
    obtain ⟨a, h1, h2⟩ := S.obj k b q
    refine ⟨a, h1, ?_⟩
    cases b with
    | live o => obtain ⟨u, h3, h4⟩ := h2; exact ⟨u, h3, h4.caE c⟩
    | dead d => exact Fr.caE c h2
  apart := S.apart
  sep := S.sep
  fdom := S.fdom
theorem TR.caE (c : Ca) {x : Rv} {v : V} (h : TR K α r σ H F x v) : TR (K.ca' c) α r σ H F x v := by
  cases x with
  | val d => exact Fr.caE c h
  | own o => obtain ⟨a, u, e, h1, h2, h3, h4⟩ := h; exact ⟨a, u, e, h1, h2.caE c, h3, h4⟩
  | «at» l => exact h
/-- slot i forgotten -/
def unp (i : Nat) (r : En) : En := { r with vs := r.vs.set i none }
theorem SR.unp (S : SR K α r σ H F) (i : Nat) : SR K α (Mi.unp i r) (σ.set i none) H F ∧ ∀ l a, Holds α (Mi.unp i r) (σ.set i none) l a → Holds α r σ l a := by
  have get : ∀ {j : Nat} {s : Sl}, (r.vs.set i none)[j]? = some (some s) → i ≠ j ∧ r.vs[j]? = some (some s) := fun {j s} q => by
    rcases set_get q with ⟨_, e⟩ | e
    · cases e
    · exact e
  have ho : ∀ l a, Holds α (Mi.unp i r) (σ.set i none) l a → Holds α r σ l a := fun l a h => by
    cases l with
    | obj k => exact h
    | slot j =>
      obtain ⟨⟨o, q⟩, h2⟩ := h
      obtain ⟨n, q⟩ := get q
      rw [List.getElem?_set_ne n] at h2
      exact ⟨⟨o, q⟩, h2⟩
  refine ⟨⟨?_, fun j s q => ?_, S.obj, fun l l' a h h' => S.apart l l' a (ho _ _ h) (ho _ _ h'), fun l a h => S.sep l a (ho _ _ h), S.fdom⟩, ho⟩
  · show (r.vs.set i none).length = _
    rw [List.length_set, List.length_set]; exact S.len
  · obtain ⟨n, q⟩ := get q
    obtain ⟨v, h1, h2⟩ := S.slot j s q
    exact ⟨v, by rw [List.getElem?_set_ne n]; exact h1, h2⟩
/-! try: .. except c as e: .. -/
def endA (i : Nat) (x : Out) : Out := match x with
  | .nx r => if noCau (unp i r) = true then .nx (unp i r) else .no
  | .rt (.val d) r => if noCau (unp i r) = true then .rt (.val d) (unp i r) else .no
  | .rt (.own o) r => if noCau (unp i r) = true then .rt (.own o) (unp i r) else .no
  | .bk r => if noCau (unp i r) = true then .bk (unp i r) else .no
  | .ct r => if noCau (unp i r) = true then .ct (unp i r) else .no
  | _ => .no
def tryA (i : Nat) (bd : Stm) (m : Str → Option Bool) (su : Stm) : Stm := fun r => match bd r with
  | .ex x r1 => match m x.cls with
    | some true => if noCau r1 = true then endA i (su (put r1 i (.cau x))) else .no
    | some false => .ex x r1
    | none => .no
  | o => o
theorem sv_tryA {X : Cx} {W : L2.WX} {c n : Str} {i : Nat} {m : Str → Option Bool} {body suite : List Stmt} {b₀ : Stmt} {np pos pos' : Pos} {bd su : Stm} (hs : X.stack = X.env :: X.outer) (hf : X.env.frame = some X.env.locals) (hN : X.N.Nodup) (hi : X.N[i]? = some n)
    (hln : X.env.kindOf n = some .local) (E : Takers X.K X.mg c m) (hg : Gl X c) (tk : L2.Takes X W)
    (hb : ∀ (W1 : L2.WX) (pn : List (Addr × Obj)) (xe : Value → Shared → Prop), L2.Takes (X.tr pn xe) W1 → PassesOwn (model X.prog X.w) X.A X.env xe → PSs (X.tr pn xe) body (tS (kx X none) α W1 bd))
    (hsu : ∀ (a : Addr) (oe : Obj) (cls : Value) (d : Option Addr) (pn : List (Addr × Obj)), Zc cls d oe → (∃ vs, oe.data = .fields vs) → PSs (X.suite a ((a, oe) :: pn)) (b₀ :: suite) (tS (kx X (some (a, cls, d))) α W0 su)) (hdb : (c == ("__debug__" : Str)) = false := by decide) :
    PS X (.Try body [.ExceptHandler (some (.Name c np)) (some n) (b₀ :: suite) pos'] [] [] pos) (tS (kx X none) α W (tryA i bd m su)) := by
  obtain ⟨C, g1, g2⟩ := E.ex
  refine ps_weak (ps_try_as (c := .ref C) (i := i) (tb := fun W1 => tS (kx X none) α W1 bd) (ts := fun a cls d => tS (kx X (some (a, cls, d))) α W0 su) hs hf hN hi hln ⟨hg, hdb, .inl g1⟩ tk (fun W1 pn xe tk1 po1 => hb W1 pn xe tk1 po1) hsu) fun D σ H ⟨r, F, S, h⟩ => ⟨r, F, S, ?_⟩
  unfold tryA at h
  cases e : bd r with
  | nx r1 => rw [e] at h; exact h
  | rt v r1 => rw [e] at h; exact h
  | bk r1 => rw [e] at h; exact h
  | ct r1 => rw [e] at h; exact h
  | no => rw [e] at h; exact h.elim
  | ex x r1 =>
    rw [e] at h
    simp only at h
    intro σ' cls d H' F' S' st ex
    cases em : m x.cls with
    | none => rw [em] at h; exact h.elim
    | some b =>
      obtain ⟨Dv, e1, e2⟩ := g2 x.cls b em
      have e3 := ex.1
      rw [e1] at e3
      cases e3
      refine ⟨b, e2, fun hb => ?_, fun hb => ?_⟩
      · subst hb
        rw [em] at h
        intro a _
        simp only at h
        split at h
        case isFalse => exact h.elim
        rename_i nc
        have S1 : SR (kx X (some (a, cls, d))) α (put r1 i (.cau x)) (σ'.set i (some (.ref a))) H' F' := (S'.caE (some (a, cls, d)) nc).put (s := .cau x) ⟨a, cls, d, rfl, rfl, ex.caE _⟩ fun o a z => nomatch z
        have ow : ∀ b, Own α (put r1 i (.cau x)) (σ'.set i (some (.ref a))) b → Own α r1 σ' b := fun b z => by
          rcases put_own z with z | ⟨⟨o, z⟩, _⟩
          · exact z
          · cases z
        refine ⟨put r1 i (.cau x), F', S1, ?_⟩
        -- from the suite's end to that of the statement
        have bk : ∀ {r2 : En} {σ2 : L2.St} {H2 : Hp} {F2 : Addr → Prop}, noCau (Mi.unp i r2) = true → SR (kx X (some (a, cls, d))) α r2 σ2 H2 F2 → SR (kx X none) α (Mi.unp i r2) (σ2.set i none) H2 F2 ∧ ∀ b, Own α (Mi.unp i r2) (σ2.set i none) b → Own α r2 σ2 b := fun nc2 S2 => by
          obtain ⟨S3, o3⟩ := S2.unp i
          exact ⟨SR.caE none S3 nc2, fun b ⟨l, z⟩ => ⟨l, o3 l b z⟩⟩
        have go : ∀ {H2 : Hp} {F2 : Addr → Prop} {O2 O3 : Addr → Prop}, Step (Own α (put r1 i (.cau x)) (σ'.set i (some (.ref a)))) H' F' H2 F2 O2 → (∀ b, O3 b → O2 b) → Step (Own α r σ) H F H2 F2 O3 := fun st2 h3 => (st.trans st2 ow).more h3
        cases e5 : su (put r1 i (.cau x)) with
        | no => rw [e5] at h; exact h.elim
        | ex z r2 => rw [e5] at h; exact h.elim
        | nx r2 =>
          rw [e5] at h
          unfold endA at h
          simp only at h
          split at h
          case isFalse => exact h.elim
          rename_i nc2
          intro σ2 H2 F2 S2 st2
          obtain ⟨S3, o3⟩ := bk nc2 S2
          exact h _ H2 F2 S3 (go st2 o3)
        | bk r2 =>
          rw [e5] at h
          unfold endA at h
          simp only at h
          split at h
          case isFalse => exact h.elim
          rename_i nc2
          intro σ2 H2 F2 S2 st2
          obtain ⟨S3, o3⟩ := bk nc2 S2
          exact h _ H2 F2 S3 (go st2 o3)
        | ct r2 =>
          rw [e5] at h
          unfold endA at h
          simp only at h
          split at h
          case isFalse => exact h.elim
          rename_i nc2
          intro σ2 H2 F2 S2 st2
          obtain ⟨S3, o3⟩ := bk nc2 S2
          exact h _ H2 F2 S3 (go st2 o3)
        | rt y r2 =>
          rw [e5] at h
          cases y with
          | «at» l => exact h.elim
          | val d2 =>
            unfold endA at h
            simp only at h
            split at h
            case isFalse => exact h.elim
            rename_i nc2
            intro v σ2 H2 F2 S2 st2 t2
            obtain ⟨S3, o3⟩ := bk nc2 S2
            exact h v _ H2 F2 S3 (go st2 fun b z => z.elim (fun z => .inl (o3 b z)) .inr) (Fr.caE none t2)
          | own o =>
            unfold endA at h
            simp only at h
            split at h
            case isFalse => exact h.elim
            rename_i nc2
            intro v σ2 H2 F2 S2 st2 t2
            obtain ⟨S3, o3⟩ := bk nc2 S2
            obtain ⟨b, u, ev, h1, h2, h3, h4⟩ := t2
            exact h v _ H2 F2 S3 (go st2 fun b z => z.elim (fun z => .inl (o3 b z)) .inr) ⟨b, u, ev, h1, h2.caE none, h3, fun z => h4 (o3 b z)⟩
      · subst hb
        rw [em] at h
        exact h σ' cls d H' F' S' st ex
end Mi

/-! Mi46.lean -/
set_option Elab.async false
set_option linter.all false
set_option maxRecDepth 100000
/-! what a caught exception says: e.f, isinstance(e, C) -/
namespace Mi
open PySem L2 PySem.Spec PyProof.Rows
variable {K : KX} {α : List Addr} {r r' : En} {σ : L2.St} {H H' : Hp} {F F' : Addr → Prop}
theorem slot_cau {i : Nat} {x : Exc} (S : SR K α r σ H F) (e : r.vs[i]? = some (some (.cau x))) : ∃ a cls d, K.ca = some (a, cls, d) ∧ σ[i]? = some (some (.ref a)) ∧ ExR K H F x cls d := by
  obtain ⟨v, h1, a, cls, d, h2, h3, h4⟩ := S.slot _ _ e
  subst h3
  exact ⟨a, cls, d, h2, h1, h4⟩
/-! e.f -/
structure FldB (K : PySem.W.Frag) (f : Str) (ok : Str → Bool) : Prop where
  ex : ∀ y, ok y = true → ∃ C : Addr, PySem.W.nsIn K mainGlobals y = some (some (.ref C)) ∧ XfC K C ∧ PySem.W.findIn K (.ref C) f = some none
def xfE (i : Nat) (f : Str) (ok : Str → Bool) : M Rv := fun r => match r.vs[i]? with
  | some (some (.cau x)) => if ok x.cls = true then match x.flds.lookup f with
    | some d => .ok (.val d) r
    | none => .no
    else .no
  | _ => .no
theorem pe_not {X : Cx} {e : Expr} {t : TE} (h : ∀ σ H Q, ¬ t σ H Q) : PE X e t := ⟨fun _ _ σ H Q _ q => absurd q (h σ H Q)⟩
theorem paired_lookup {H : Hp} {F : Addr → Prop} {f : Str} : ∀ {ps : List (Str × V)} {fs : List (Str × PyData)}, Paired (fun (p : Str × V) (q : Str × PyData) => p.1 = q.1 ∧ Fr K H F p.2 q.2) ps fs → ∀ {d}, fs.lookup f = some d → ∃ v, ps.lookup f = some v ∧ Fr K H F v d
  | _, _, .nil, d, e => by simp at e
  | (g, v) :: ps, (g', d') :: fs, .cons a b, d, e => by
    obtain ⟨a1, a2⟩ := a
    dsimp only at a1 a2
    subst a1
    rw [List.lookup_cons] at e ⊢
    by_cases h : f == g
    · rw [h] at e ⊢
      cases e
      exact ⟨v, rfl, a2⟩
    · have h : (f == g) = false := by simpa using h
      rw [h] at e ⊢
      exact paired_lookup b e
theorem ev_xf {X : Cx} {W : L2.WX} {a : Addr} {oe : Obj} {cls : Value} {d : Option Addr} {pn : List (Addr × Obj)} {n f : Str} {ok : Str → Bool} {i : Nat} {p pos : Pos} (B : FldB X.K f ok) (hz : Zc cls d oe) (hf : ∃ vs, oe.data = .fields vs)
    (he : PE (X.suite a ((a, oe) :: pn)) (.Name n p) (tVar i)) (hb : attributeBase (.Name n p) f X.env (eval (.Name n p) X.env) = eval (.Name n p) X.env := by rfl) :
    PE (X.suite a ((a, oe) :: pn)) (.Attribute (.Name n p) f pos) (tE (kx X (some (a, cls, d))) α W (xfE i f ok)) := by
  by_cases hC : ∃ C : Addr, cls = .ref C ∧ XfC X.K C ∧ PySem.W.findIn X.K (.ref C) f = some none
  · obtain ⟨C, ec, T, hno⟩ := hC
    refine pe_weak (pe_xf T hno hz hf he hb) fun σ H Q ⟨r, F, S, h⟩ => ?_
    unfold xfE at h
    split at h
    case h_2 => exact h.elim
    rename_i x q
    split at h
    case isFalse => exact h.elim
    rename_i hok
    split at h
    case h_2 => exact h.elim
    rename_i dt hl
    obtain ⟨a', cls', d', h1, h2, h3, h4⟩ := slot_cau S q
    cases h1
    refine ⟨.ref a, h2, rfl, ec, ?_⟩
    cases e : x.flds with
    | nil => rw [e] at hl; simp at hl
    | cons g gs =>
      rw [e] at h4 hl
      obtain ⟨dd, ps, q1, q0, q2, q3⟩ := h4
      obtain ⟨v, hv, fr⟩ := paired_lookup q3 hl
      exact ⟨dd, ps, v, q1, q2, hv, (Aft.fin S h).val _ _ rfl fr⟩
  · refine pe_not fun σ H Q ⟨r, F, S, h⟩ => hC ?_
    unfold xfE at h
    split at h
    case h_2 => exact h.elim
    rename_i x q
    split at h
    case isFalse => exact h.elim
    rename_i hok
    obtain ⟨a', cls', d', h1, h2, h3, h4⟩ := slot_cau S q
    cases h1
    obtain ⟨C, c1, c2, c3⟩ := B.ex _ hok
    have h3 : PySem.W.nsIn X.K mainGlobals x.cls = some (some cls) := h3
    rw [c1] at h3
    cases h3
    exact ⟨C, rfl, c2, c3⟩
/-! isinstance(e, C) -/
section
open PySem.W PySem.Calls
variable {prog : Program} {w : World} {A : Around} {E : Value → Shared → Prop} {s : Shared} {Kf : Frag} {x D : Addr} {ox : Obj} {od : Option Obj}
theorem cls_is (hc : hasDictIn Kf D = true) : ∃ o cd, Kf.lookup D = some o ∧ o.data = .cls cd ∧ clsIn Kf D = some cd := by
  obtain ⟨cd, e, _⟩ := any_some hc
  have e0 := e
  unfold clsIn at e
  split at e
  · rename_i ho
    cases e
    exact ⟨_, _, ho, rfl, e0⟩
  · cases e
theorem find_cls (C : ExcC Kf D) : findObj Kf D od "__class__" = some (.bind (.builtin "getset_descriptor.__get__") (.builtin "object.__class__")) := by
  obtain ⟨o, cd, _, _, hc⟩ := cls_is C.hd
  cases od with
  | none => exact findObj_dataN (by rw [hc]; rfl) C.ha C.hn C.ht
  | some od => exact findObj_data (by rw [hc]; rfl) C.ha C.hn C.ht
theorem own_class {Q : Option Value → Shared → Prop} (C : ExcC Kf D) (KI : Kf.In s.heap) (J : InstAt s.heap x ox D od) (h : Q (some (.ref D)) { s with toks := s.toks + 1 }) : wpAny (model prog w) A (getAttr? (.ref x) "__class__") Q E s := by
  obtain ⟨hp, gs, dr, tk, os⟩ := s
  have tx := J.type (M := model prog w)
  have fa := looks_findIn (M := model prog w) KI C.hg
  have fb := looks_findIn (M := model prog w) KI C.hk
  have fc := looks_find (M := model prog w) KI J (find_cls C)
  have isb : Looks (model prog w) hp (isInstance (.ref x) (.type "BaseException")) true := tx.andThen (looks_subIn KI C.hs)
  have neo : (Value.builtin "BaseException.__getattribute__" == Value.builtin "object.__getattribute__") = false := by decide +kernel
  have neo' : (onTheHeap (Value.ref D) && Value.builtin "BaseException.__getattribute__" == Value.builtin "object.__getattribute__") = false := by rw [neo]; rfl
  unfold getAttr? getAttrBy? getAttrBy
  refine wpAny_bind (wpAny_mkText (wpAny_bind (wpAny_attempt (wpAny_holding (wpAny_bind (tx.at (wpAny_bind (fa.at ?_))))))))
  change wpAny _ _ (if (onTheHeap (Value.ref D) && Value.builtin "BaseException.__getattribute__" == Value.builtin "object.__getattribute__") = true then _ else _) _ _ _
  rw [neo', if_neg Bool.false_ne_true]
  unfold getAttrByItsOwn hookBefore
  refine wpAny_bind (m := if onTheHeap (Value.ref D) = true then _ else _) ?_
  rw [if_pos (show onTheHeap (Value.ref D) = true from rfl)]
  refine fb.at (wpAny_bind (wpAny_attempt (wpAny_holding ?_)))
  unfold callGetattribute
  rw [show (false && onTheHeap (Value.builtin "BaseException.__getattribute__")) = false from rfl, if_neg Bool.false_ne_true]
  unfold boundAndCalled
  rw [PySem.F.excAttr_ValueError.ga.bind (Value.ref x)]
  refine wpAny_bind (wpAny_pure ?_)
  change wpAny _ _ (call (.builtin "BaseException.__getattribute__") [.ref x, .str "__class__" tk]) _ _ _
  refine wpAny_call (codeAny_call_builtin PySem.F.excAttr_ValueError.ga.plain PySem.F.entry_bexc_ga (@check_slot (model prog w) _ _ ⟨hp, gs, dr, tk + 1, os⟩ "BaseException.__getattribute__" "BaseException" "__getattribute__" (.ref x) [.str "__class__" tk] [] _ (by decide +kernel) (by decide +kernel) isb (PySem.F.args_bexc_ga (.ref x) (.str "__class__" tk)) ?_))
  unfold Builtin.«object.__getattribute__»
  refine wpAny_bind (wpAny_of_eq (a := ((Value.ref x : Value), [Value.str "__class__" tk])) (by first | rfl | (simp only [slotArgs]; rfl)) (wpAny_bind (wpAny_pure (wpAny_bind (tx.at (wpAny_bind (fc.at ?_)))))))
  change wpAny _ _ (holding [Value.builtin "object.__class__"] (call (.builtin "getset_descriptor.__get__") [.builtin "object.__class__", .ref x, .ref D]) >>= ret) _ _ _
  refine wpAny_bind (wpAny_holding (wpAny_call (class_get (s := ⟨hp, gs, dr, tk + 1, os⟩) (ox := ox) (od := od) KI J C.hm (wpAny_pure ?_))))
  change wpAny _ _ (handedOut (.ref D)) _ _ _
  rw [handedOut_of (v := Value.ref D) rfl]
  first
    | exact wpAny_pure (wpAny_pure h)
    | exact wpAny_pure h
    | exact wpAny_pure (wpAny_bind (wpAny_pure (wpAny_pure h)))
theorem kit_exc (C : ExcC Kf D) : KitX Kf (.ref x) (.ref D) (fun h => InstAt h x ox D od) where
  ty := fun _ _ _ J => J.type
  it := fun _ h KI _ => by
    obtain ⟨o, cd, ho, hd, _⟩ := cls_is C.hd
    intro A' Q' E' s' k q
    obtain ⟨hp, gs, dr, tk, os⟩ := s'
    exact ks_wpAny_isType_cls (k _ _ (KI _ _ ho)) hd q
  ne := fun h tp dd its n sl KI htp => by
    obtain ⟨o, cd, ho, hd, _⟩ := cls_is C.hd
    refine Bool.eq_false_iff.mpr fun q => ?_
    cases Value.ref.inj (beq_iff_eq.mp q)
    rw [KI _ _ ho] at htp
    cases htp
    cases hd
  ca := fun KI J k => own_class C KI J k
end
/-- isinstance of the caught one: one class, or a tuple of classes -/
def rIsA (K : PySem.W.Frag) (D a : Addr) (d : Option Addr) : List V → Hp → VK → Prop := fun xs H Q => ∃ c, xs = [.ref a, c] ∧ (∀ dd, d = some dd → ∃ fs, H dd = some (.xd fs)) ∧
  ((∃ cv b, ClsV c cv ∧ PySem.W.kitOne K (.ref D) cv = some b ∧ Q (.bl b) H) ∨ ∃ tp cs us b, c = .ref tp ∧ H tp = some (.tup cs) ∧ Paired ClsV cs us ∧ PySem.W.kitAny K (.ref D) us = some b ∧ Q (.bl b) H)
theorem call_isA {X : Cx} {a D : Addr} {d : Option Addr} {oe : Obj} {pn : List (Addr × Obj)} (C : ExcC X.K D) (hz : Zc (.ref D) d oe) (hf : ∃ vs, oe.data = .fields vs) : CallR (X.suite a ((a, oe) :: pn)) (.builtin "isinstance") (rIsA X.K D a d) := by
  intro pins s σ H xs us Q I rv h
  obtain ⟨c, rfl, hd, h⟩ := h
  obtain ⟨u1, u2, rfl, r1, r2⟩ := vals2 rv
  obtain rfl : u1 = Value.ref a := r1
  obtain ⟨hget, _⟩ := I.pin (a, oe) (List.mem_append.mpr (.inl List.mem_cons_self))
  obtain ⟨vs, hv⟩ := hf
  have J : ∃ od, PySem.W.InstAt s.heap a oe D od := by
    cases d with
    | none => exact ⟨none, hget, hz.1, by unfold PySem.W.notCls; rw [hv] <;> rfl, by rw [hz.2]; exact True.intro⟩
    | some dd =>
      obtain ⟨fs, e⟩ := hd dd rfl
      have hx : ObjOk X.prog X.w H s.heap dd (.xd fs) := I.hok dd _ e
      obtain ⟨mA, hns, hr⟩ := hx
      obtain ⟨od, ho, hl⟩ := lookIn_ns hns
      exact ⟨some od, hget, hz.1, by unfold PySem.W.notCls; rw [hv] <;> rfl, by rw [hz.2]; exact ho⟩
  obtain ⟨od, J⟩ := J
  rcases h with ⟨cv, b, k, e, q⟩ | ⟨tp, cs, ws, b, rfl, hT, k, e, q⟩
  · have ec := k.eq r2
    subst ec
    exact PySem.W.kia_one (kit_exc C) I.kIn J e (fun z => nomatch z) fun tk => ⟨.bl b, H, I.tok tk, rfl, q⟩
  · obtain rfl : u2 = Value.ref tp := r2
    obtain ⟨_, its, rv, o, h1, h2, n, h3⟩ := (show ObjOk X.prog X.w H s.heap tp (.tup cs) from I.hok tp _ hT)
    have e3 := ClsV.all k rv
    subst e3
    obtain ⟨oc, od2, dt, sl⟩ := o
    simp only at h2 h3
    subst h2 h3
    exact PySem.W.kia_tup (kit_exc C) I.kIn J h1 e (fun z => nomatch z) fun tk => ⟨.bl b, H, I.tok tk, rfl, q⟩
/-- classes by names: own ones, or ValueError -/
structure ClsB (K : PySem.W.Frag) (mg : Str → Option Value) (c : Str) (cv : Value) (v : V) : Prop where
  v : ClsV v cv
  at_ : mg c = some cv ∨ (mg c = none ∧ bootBuiltins c = some cv ∧ c ≠ "__name__")
/-- what isinstance answers for exceptions of these classes -/
structure IsxB (K : PySem.W.Frag) (us : List Value) (m : Str → Option Bool) : Prop where
  ex : ∀ y b, m y = some b → ∃ D : Addr, PySem.W.nsIn K mainGlobals y = some (some (.ref D)) ∧ ExcC K D ∧ PySem.W.kitAny K (.ref D) us = some b
def isxE (i : Nat) (m : Str → Option Bool) : M Rv := fun r => match r.vs[i]? with
  | some (some (.cau x)) => match m x.cls with
    | some b => .ok (.val (.bool b)) r
    | none => .no
  | _ => .no
theorem isx_cls {X : Cx} {W : L2.WX} {us : List Value} {m : Str → Option Bool} {i : Nat} {a : Addr} {cls : Value} {d : Option Addr} {Q : VK} (B : IsxB X.K us m) (h : tE (kx X (some (a, cls, d))) α W (isxE i m) σ H Q) :
    ∃ D b, cls = .ref D ∧ ExcC X.K D ∧ PySem.W.kitAny X.K (.ref D) us = some b ∧ σ[i]? = some (some (.ref a)) ∧ (∀ dd, d = some dd → ∃ fs, H dd = some (.xd fs)) ∧ Q (.bl b) H ∧ ∃ r F, SR (kx X (some (a, cls, d))) α r σ H F ∧ Aft (kx X (some (a, cls, d))) α σ (Own α r σ) H F W (.ok (.val (.bool b)) r) Q := by
  obtain ⟨r, F, S, h⟩ := h
  unfold isxE at h
  split at h
  case h_2 => exact h.elim
  rename_i x q
  split at h
  case h_2 => exact h.elim
  rename_i b hb
  obtain ⟨a', cls', d', h1, h2, h3, h4⟩ := slot_cau S q
  cases h1
  obtain ⟨D, c1, c2, c3⟩ := B.ex _ _ hb
  have h3 : PySem.W.nsIn X.K mainGlobals x.cls = some (some cls) := h3
  rw [c1] at h3
  cases h3
  refine ⟨D, b, rfl, c2, c3, h2, fun dd e => ?_, (Aft.fin S h).val _ _ rfl (.bl b), r, F, S, h⟩
  cases ef : x.flds with
  | nil => rw [ef] at h4; rw [h4] at e; cases e
  | cons g gs =>
    rw [ef] at h4
    obtain ⟨dd', ps, q1, q0, q2, q3⟩ := h4
    rw [q1] at e
    cases e
    exact ⟨ps, q2⟩
section
variable {X : Cx} {W : L2.WX} {a : Addr} {oe : Obj} {cls : Value} {d : Option Addr} {pn : List (Addr × Obj)} {n c : Str} {m : Str → Option Bool} {i : Nat} {p p2 p3 pos : Pos} {es : List Expr} {k : Nat}
theorem pe_clsB {Y : Cx} {c : Str} {cv : Value} {v : V} {p : Pos} (hg : Gl Y c) (B : ClsB Y.K Y.mg c cv v) (hd : (c == ("__debug__" : Str)) = false := by decide) : PE Y (.Name c p) (tC v) := by
  have rv : RelV v cv := by
    cases B.v with
    | ty n => exact rfl
    | own C => exact rfl
  rcases B.at_ with h | ⟨h1, h2, h3⟩
  · exact pe_glob hg h rv hd
  · exact pe_bltn hg h1 h2 rv h3 hd
theorem kitOne_of {K : PySem.W.Frag} {t c : Value} {b : Bool} (h : PySem.W.kitAny K t [c] = some b) : PySem.W.kitOne K t c = some b := by
  unfold PySem.W.kitAny at h
  cases e : PySem.W.kitOne K t c with
  | none => rw [e] at h; cases h
  | some z =>
    rw [e] at h
    cases z with
    | true => exact h
    | false => exact h
theorem ev_isx1 {cv : Value} {v : V} (B : IsxB X.K [cv] m) (Cb : ClsB X.K X.mg c cv v) (hg : Gl X "isinstance") (hm : X.mg "isinstance" = none) (hgc : Gl X c) (hz : Zc cls d oe) (hf : ∃ vs, oe.data = .fields vs) (he : PE (X.suite a ((a, oe) :: pn)) (.Name n p) (tVar i))
    (hd : (c == ("__debug__" : Str)) = false := by decide) (h1 : starEach [.Name n p, .Name c p2] X.env = (false, eval (.Name n p) X.env) :: starEach [.Name c p2] X.env := by rfl) (h2 : starEach [.Name c p2] X.env = (false, eval (.Name c p2) X.env) :: starEach [] X.env := by rfl)
    (hpl : (backTo pos (starEach [.Name c p2] X.env)).any (·.1) = false := by rfl) :
    PE (X.suite a ((a, oe) :: pn)) (.Call (.Name "isinstance" p3) [.Name n p, .Name c p2] [] pos) (tE (kx X (some (a, cls, d))) α W (isxE i m)) := by
  by_cases hC : ∃ D : Addr, cls = .ref D ∧ ExcC X.K D
  · obtain ⟨D, rfl, ec⟩ := hC
    refine pe_weak (pe_callB (X := X.suite a ((a, oe) :: pn)) (call_isA (d := d) ec hz hf) hg hm (by decide +kernel) (pa_cons he (pa_cons (pe_clsB (Y := X.suite a ((a, oe) :: pn)) hgc Cb hd) pa_nil h2) h1) (he := h1) (hpl := hpl)) fun σ H Q h => ?_
    obtain ⟨D', b, e1, e2, e3, e4, e5, e6, _⟩ := isx_cls B h
    cases e1
    exact ⟨.ref a, e4, v, rfl, e5, .inl ⟨cv, b, Cb.v, kitOne_of e3, e6⟩⟩
  · refine pe_not fun σ H Q h => hC ?_
    obtain ⟨D', b, e1, e2, _⟩ := isx_cls B h
    exact ⟨D', e1, e2⟩
/-- several classes, as arguments of a tuple -/
inductive ClsBs (X : Cx) : List Expr → List Value → List V → Prop
  | nil : ClsBs X [] [] []
  | cons {c : Str} {cv : Value} {v : V} {p : Pos} {es : List Expr} {us : List Value} {vs : List V} : Gl X c → ClsB X.K X.mg c cv v → (c == ("__debug__" : Str)) = false → starEach (.Name c p :: es) X.env = (false, eval (.Name c p) X.env) :: starEach es X.env → ClsBs X es us vs → ClsBs X (.Name c p :: es) (cv :: us) (v :: vs)
def tVs : List V → TA
  | [] => tNil
  | v :: vs => tCons (tC v) (tVs vs)
theorem clsBs_pa {a : Addr} {pn : List (Addr × Obj)} : ∀ {es : List Expr} {us : List Value} {vs : List V}, ClsBs X es us vs → PA (X.suite a pn) es (tVs vs) ∧ Paired ClsV vs us
  | _, _, _, .nil => ⟨pa_nil, .nil⟩
  | _, _, _, .cons hg B hd hs t => ⟨pa_cons (pe_clsB (Y := X.suite a pn) hg B hd) (clsBs_pa t).1 hs, .cons B.v (clsBs_pa (a := a) (pn := pn) t).2⟩
theorem tVs_go : ∀ {vs : List V} {σ : L2.St} {H : Hp} {Q : List V → Hp → Prop}, Q vs H → tVs vs σ H Q
  | [], _, _, _, q => q
  | v :: vs, σ, H, Q, q => show tVs vs σ H fun xs H1 => Q (v :: xs) H1 from tVs_go q
theorem ev_isxT {us : List Value} {vs : List V} (B : IsxB X.K us m) (Cb : ClsBs X es us vs) (hg : Gl X "isinstance") (hm : X.mg "isinstance" = none) (hz : Zc cls d oe) (hf : ∃ vs, oe.data = .fields vs) (he : PE (X.suite a ((a, oe) :: pn)) (.Name n p) (tVar i)) (hl : vs.length ≤ 100)
    (h1 : starEach [.Name n p, .Tuple es k p2] X.env = (false, eval (.Name n p) X.env) :: starEach [.Tuple es k p2] X.env := by rfl) (h2 : starEach [.Tuple es k p2] X.env = (false, eval (.Tuple es k p2) X.env) :: starEach [] X.env := by rfl)
    (hpl : (backTo pos (starEach [.Tuple es k p2] X.env)).any (·.1) = false := by rfl) :
    PE (X.suite a ((a, oe) :: pn)) (.Call (.Name "isinstance" p3) [.Name n p, .Tuple es k p2] [] pos) (tE (kx X (some (a, cls, d))) α W (isxE i m)) := by
  by_cases hC : ∃ D : Addr, cls = .ref D ∧ ExcC X.K D
  · obtain ⟨D, rfl, ec⟩ := hC
    obtain ⟨pa, pr⟩ := clsBs_pa (a := a) (pn := (a, oe) :: pn) Cb
    refine pe_weak (pe_callB (X := X.suite a ((a, oe) :: pn)) (call_isA (d := d) ec hz hf) hg hm (by decide +kernel) (pa_cons he (pa_cons (pe_tup pa) pa_nil h2) h1) (he := h1) (hpl := hpl)) fun σ H Q h => ?_
    obtain ⟨D', b, e1, e2, e3, e4, e5, e6, r, F, S, af⟩ := isx_cls B h
    cases e1
    refine ⟨.ref a, e4, tVs_go ⟨Nat.le_trans hl (by rw [sizeLine_eq]; decide), fun tp hp => ⟨.ref tp, rfl, fun dd e => ?_, .inr ⟨tp, vs, us, b, rfl, upd_same, pr, e3, ?_⟩⟩⟩⟩
    · obtain ⟨fs, q⟩ := e5 dd e
      exact ⟨fs, by rw [upd_ne (ne_of_none q hp)]; exact q⟩
    · exact af (.bl b) _ F (S.new _ hp) (step_new S _ hp fun z q => q.elim .inl fun ⟨⟨_, y⟩, _⟩ => nomatch y) (.bl b)
  · refine pe_not fun σ H Q h => hC ?_
    obtain ⟨D', b, e1, e2, _⟩ := isx_cls B h
    exact ⟨D', e1, e2⟩
end
end Mi
namespace Mi
open PySem L2 PySem.Spec PyProof.Rows
/-! tables for a text: isinstance of a caught one -/
/-- the classes that a row of names means -/
inductive ClsNs (K : PySem.W.Frag) (mg : Str → Option Value) : List Str → List Value → List V → Prop
  | nil : ClsNs K mg [] [] []
  | cons {c : Str} {cv : Value} {v : V} {cs : List Str} {us : List Value} {vs : List V} : ClsB K mg c cv v → ClsNs K mg cs us vs → ClsNs K mg (c :: cs) (cv :: us) (v :: vs)
def IsxT (K : PySem.W.Frag) (mg : Str → Option Value) (cs : List Str) (m : Str → Option Bool) : Prop := ∃ us vs, ClsNs K mg cs us vs ∧ IsxB K us m
/-- names of a tuple, seen from a body -/
inductive GlNs (X : Cx) : List Str → List Expr → Prop
  | nil : GlNs X [] []
  | cons {c : Str} {p : Pos} {cs : List Str} {es : List Expr} : Gl X c → (c == ("__debug__" : Str)) = false → starEach (.Name c p :: es) X.env = (false, eval (.Name c p) X.env) :: starEach es X.env → GlNs X cs es → GlNs X (c :: cs) (.Name c p :: es)
theorem GlNs.of {X : Cx} : ∀ {cs : List Str} {es : List Expr} {us : List Value} {vs : List V}, GlNs X cs es → ClsNs X.K X.mg cs us vs → ClsBs X es us vs
  | _, _, _, _, .nil, .nil => .nil
  | _, _, _, _, .cons a b c t, .cons d u => .cons a d b c (GlNs.of t u)
theorem ClsNs.len {K : PySem.W.Frag} {mg : Str → Option Value} : ∀ {cs : List Str} {us : List Value} {vs : List V}, ClsNs K mg cs us vs → vs.length = cs.length
  | _, _, _, .nil => rfl
  | _, _, _, .cons _ t => by simp [ClsNs.len t]
section
variable {α : List Addr} {X : Cx} {W : L2.WX} {a : Addr} {oe : Obj} {cls : Value} {d : Option Addr} {pn : List (Addr × Obj)} {n c : Str} {m : Str → Option Bool} {i : Nat} {p p2 p3 pos : Pos} {es : List Expr} {k : Nat}
theorem ev_isxN (B : IsxT X.K X.mg [c] m) (hg : Gl X "isinstance") (hm : X.mg "isinstance" = none) (hgc : Gl X c) (hz : Zc cls d oe) (hf : ∃ vs, oe.data = .fields vs) (he : PE (X.suite a ((a, oe) :: pn)) (.Name n p) (tVar i))
    (hd : (c == ("__debug__" : Str)) = false := by decide) (h1 : starEach [.Name n p, .Name c p2] X.env = (false, eval (.Name n p) X.env) :: starEach [.Name c p2] X.env := by rfl) (h2 : starEach [.Name c p2] X.env = (false, eval (.Name c p2) X.env) :: starEach [] X.env := by rfl)
    (hpl : (backTo pos (starEach [.Name c p2] X.env)).any (·.1) = false := by rfl) :
    PE (X.suite a ((a, oe) :: pn)) (.Call (.Name "isinstance" p3) [.Name n p, .Name c p2] [] pos) (tE (kx X (some (a, cls, d))) α W (isxE i m)) := by
  obtain ⟨us, vs, h, B⟩ := B
  cases h with
  | cons b t =>
    cases t
    exact ev_isx1 B b hg hm hgc hz hf he hd h1 h2 hpl
theorem ev_isxNs {cs : List Str} (B : IsxT X.K X.mg cs m) (G : GlNs X cs es) (hg : Gl X "isinstance") (hm : X.mg "isinstance" = none) (hz : Zc cls d oe) (hf : ∃ vs, oe.data = .fields vs) (he : PE (X.suite a ((a, oe) :: pn)) (.Name n p) (tVar i)) (hl : cs.length ≤ 100 := by decide)
    (h1 : starEach [.Name n p, .Tuple es k p2] X.env = (false, eval (.Name n p) X.env) :: starEach [.Tuple es k p2] X.env := by rfl) (h2 : starEach [.Tuple es k p2] X.env = (false, eval (.Tuple es k p2) X.env) :: starEach [] X.env := by rfl)
    (hpl : (backTo pos (starEach [.Tuple es k p2] X.env)).any (·.1) = false := by rfl) :
    PE (X.suite a ((a, oe) :: pn)) (.Call (.Name "isinstance" p3) [.Name n p, .Tuple es k p2] [] pos) (tE (kx X (some (a, cls, d))) α W (isxE i m)) := by
  obtain ⟨us, vs, h, B⟩ := B
  exact ev_isxT B (G.of h) hg hm hz hf he (by rw [h.len]; exact hl) h1 h2 hpl
end
/-! from facts about the written part -/
theorem kitOne_mk {K : PySem.W.Frag} {D C : Addr} {b : Bool} (h1 : PySem.W.isClsIn K C = true) (h2 : PySem.W.typeIn K (.ref C) = some (.type "type")) (h3 : PySem.W.subIn K (.ref D) (.ref C) = some b) (h4 : PySem.W.subIn K (.ref C) (.ref C) = some true) : PySem.W.kitOne K (.ref D) (.ref C) = some b := by
  unfold PySem.W.kitOne
  by_cases e : D = C
  · subst e
    rw [h3] at h4
    rw [if_pos (by simp)]
    exact h4.symm
  · rw [if_neg (by simpa using e)]
    have h1 : (PySem.W.clsIn K C).isSome = true := h1
    show (if ((PySem.W.clsIn K C).isSome && PySem.W.typeIn K (.ref C) == some (.type "type")) = true then PySem.W.subIn K (.ref D) (.ref C) else none) = some b
    rw [h1, h2, if_pos (by simp)]
    exact h3
theorem kitOne_ty {K : PySem.W.Frag} {D : Addr} {T : String} {b : Bool} (h1 : PySem.W.kitMeta T = true) (h3 : PySem.W.subIn K (.ref D) (.type T) = some b) : PySem.W.kitOne K (.ref D) (.type T) = some b := by
  unfold PySem.W.kitOne
  rw [if_neg (by simp)]
  show (if PySem.W.kitMeta T = true then PySem.W.subIn K (.ref D) (.type T) else none) = some b
  rw [if_pos h1]
  exact h3
theorem kitAny_or {K : PySem.W.Frag} {t c : Value} {cs : List Value} {b b2 : Bool} (h : PySem.W.kitOne K t c = some b) (h2 : PySem.W.kitAny K t cs = some b2) : PySem.W.kitAny K t (c :: cs) = some (b || b2) := by
  unfold PySem.W.kitAny
  rw [h]
  cases b with
  | true => rfl
  | false => exact h2
theorem takeL_all {l : List (Str × Bool)} {P : Str → Bool → Prop} (h : ∀ p ∈ l, P p.1 p.2) {y : Str} {b : Bool} (e : takeL l y = some b) : P y b := by
  unfold takeL at e
  exact h (y, b) (PySem.mem_of_lookup e)
theorem IsxT.of {K : PySem.W.Frag} {mg : Str → Option Value} {cs : List Str} {us : List Value} {vs : List V} {l : List (Str × Bool)} (h : ClsNs K mg cs us vs) (h2 : ∀ p ∈ l, ∃ D : Addr, PySem.W.nsIn K mainGlobals p.1 = some (some (.ref D)) ∧ ExcC K D ∧ PySem.W.kitAny K (.ref D) us = some p.2) : IsxT K mg cs (takeL l) :=
  ⟨us, vs, h, ⟨fun y b e => takeL_all (P := fun y b => ∃ D : Addr, PySem.W.nsIn K mainGlobals y = some (some (.ref D)) ∧ ExcC K D ∧ PySem.W.kitAny K (.ref D) us = some b) h2 e⟩⟩
theorem FldB.of {K : PySem.W.Frag} {f : Str} {l : List Str} (h : ∀ y ∈ l, ∃ C : Addr, PySem.W.nsIn K mainGlobals y = some (some (.ref C)) ∧ XfC K C ∧ PySem.W.findIn K (.ref C) f = some none) : FldB K f (fun y => l.contains y) :=
  ⟨fun y e => h y (by simpa using e)⟩
theorem excC_mk {K : PySem.W.Frag} {D : Addr} (hg : PySem.W.findIn K (.ref D) "__getattribute__" = some (some (.builtin "BaseException.__getattribute__"))) (hk : PySem.W.findIn K (.ref D) "__getattr__" = some none) (hs : PySem.W.subIn K (.ref D) (.type "BaseException") = some true) (hd : PySem.W.hasDictIn K D = true) (ha : PySem.W.findIn K (.ref D) "__class__" = some (some (.builtin "object.__class__")))
    (hn : PySem.W.specialIn K (.builtin "object.__class__") "__get__" = some (some (.builtin "getset_descriptor.__get__"))) (ht : PySem.W.takesIn K (.builtin "object.__class__") = some true) (hm : PySem.W.mroIn K D (.type "object") = some true) : ExcC K D := ⟨hg, hk, hs, hd, ha, hn, ht, hm⟩
end Mi

/-! Mi47.lean -/
set_option Elab.async false
set_option linter.all false
set_option maxRecDepth 100000
/-! sorted(d) of a dict with at most two keys, texts -/
namespace Mi
open PySem L2 PySem.Spec PyProof.Rows
variable {K : KX} {α : List Addr} {r r' : En} {σ : L2.St} {H H' : Hp} {F F' : Addr → Prop}
def txtKeys : List (Key × PyData) → Option (List Str)
  | [] => some []
  | (.inr x, _) :: t => (txtKeys t).map (x :: ·)
  | _ => none
def sort2 : List Str → Option (List Str)
  | [] => some []
  | [a] => some [a]
  | [a, b] => if sortedS [a, b] = true then (if sortedS [b, a] = true then none else some [a, b]) else some [b, a]
  | _ => none
theorem sort2_ok {ks ys zs : List Str} (h : sort2 ks = some zs) (p : ys.Perm ks) (s : sortedS ys = true) : ys = zs := by
  unfold sort2 at h
  split at h
  · cases h; exact p.eq_nil
  · cases h; exact List.perm_singleton.mp p
  · rename_i a b
    have key : ys = [a, b] ∨ ys = [b, a] := by
      match ys, p.length_eq with
      | [c, d], _ =>
        have m1 : c ∈ [a, b] := p.mem_iff.mp (by simp)
        have m2 : a ∈ [c, d] := p.mem_iff.mpr (by simp)
        have m3 : b ∈ [c, d] := p.mem_iff.mpr (by simp)
        simp only [List.mem_cons, List.not_mem_nil, or_false] at m1
        rcases m1 with rfl | rfl
        · have := (List.perm_cons c).mp p
          have := List.perm_singleton.mp this
          cases this
          exact .inl rfl
        · have p2 : [c, d].Perm [c, a] := p.trans (List.Perm.swap _ _ _)
          have := List.perm_singleton.mp ((List.perm_cons c).mp p2)
          cases this
          exact .inr rfl
    split at h
    · rename_i q1
      split at h
      · cases h
      · rename_i q2
        cases h
        rcases key with rfl | rfl
        · rfl
        · exact absurd s q2
    · rename_i q1
      cases h
      rcases key with rfl | rfl
      · exact absurd s q1
      · rfl
  · cases h
def dctOfX (r : En) : Rv → Option (List (Key × PyData))
  | .at l => match look r l with
    | some (.live (.dct kvs)) => some kvs
    | _ => none
  | _ => none
def sdE (f : M Rv) : M Rv := M.bnd f fun x r => match dctOfX r x with
  | some kvs => match (txtKeys kvs).bind sort2 with
    | some ys => .ok (.own (.lst (ys.map PyData.str))) r
    | none => .no
  | none => .no
theorem txtKeys_ok {ps : List (Key × V)} {kvs : List (Key × PyData)} {ks : List Str} (h : Paired (fun (p : Key × V) (q : Key × PyData) => p.1 = q.1 ∧ Fr K H F p.2 q.2) ps kvs) (e : txtKeys kvs = some ks) : ps.map (·.1) = ks.map Sum.inr := by
  induction h generalizing ks with
  | nil => cases e; rfl
  | cons a b ih =>
    rename_i p q ps kvs
    obtain ⟨k, d⟩ := q
    cases k with
    | inl i => cases e
    | inr x =>
      obtain ⟨ks', e1, e2⟩ := Option.map_eq_some_iff.mp (show (txtKeys kvs).map (x :: ·) = some ks from e)
      subst e2
      simp only [List.map_cons, List.cons.injEq]
      exact ⟨a.1, ih e1⟩
theorem sort2_len {ks ys : List Str} (h : sort2 ks = some ys) : ks.length < 64 := by
  unfold sort2 at h
  split at h <;> first | (simp; done) | cases h
theorem fr_strs {H : Hp} {F : Addr → Prop} : ∀ ys : List Str, FrAll K H F (ys.map V.str) (ys.map PyData.str)
  | [] => .nil
  | y :: ys => .cons (.str y) (fr_strs ys)
theorem ev_sd {X : Cx} {W : L2.WX} {e : Expr} {f : M Rv} {p pos : Pos} (hc : X.calm = true) (hg : Gl X "sorted") (hm : X.mg "sorted" = none) (ha : PE X e (tE (kx X ε) α W f)) (he : starEach [e] X.env = (false, eval e X.env) :: starEach [] X.env := by rfl) (hpl : (backTo pos (starEach [] X.env)).any (·.1) = false := by rfl) :
    PE X (.Call (.Name "sorted" p) [e] [] pos) (tE (kx X ε) α W (sdE f)) :=
  pe_weak (pe_callB (call_sortedD hc) hg hm (by decide +kernel) (pa_cons ha pa_nil he) (he := he) (hpl := hpl)) fun σ H Q ⟨r, F, S, h⟩ => by
    refine tE_mono (tE_bnd S h) fun v H1 ⟨r1, F1, x, S1, st, t, h1⟩ => ?_
    cases q : dctOfX r1 x with
    | none => rw [q] at h1; exact h1.elim
    | some kvs =>
      rw [q] at h1
      simp only at h1
      cases q2 : (txtKeys kvs).bind sort2 with
      | none => rw [q2] at h1; exact h1.elim
      | some ys =>
        rw [q2] at h1
        obtain ⟨ks, e1, e2⟩ := Option.bind_eq_some_iff.mp q2
        cases x with
        | val d => cases q
        | own d => cases q
        | «at» l =>
          unfold dctOfX at q
          simp only at q
          split at q
          · rename_i q3
            cases q
            obtain ⟨a, u, rfl, g1, ps, rfl, g2⟩ := content_rel S1 t q3
            refine ⟨a, ps, ks, rfl, .inl g1, txtKeys_ok g2 e1, sort2_len e2, fun zs p hz hs hp => ?_⟩
            rw [sort2_ok e2 hz hs]
            exact (Aft.fin S1 h1).new _ _ p rfl hp (fr_strs ys)
          · cases q
end Mi

/-! Sy1.lean -/
set_option Elab.async false
set_option linter.all false
set_option maxRecDepth 100000
/-! runs of the evaluators, by plain data -/
namespace Mi
open PySem L2
theorem bnd_ok {A B : Type} {f : M A} {g : A → M B} {r r1 : En} {x : A} (h : f r = .ok x r1) : M.bnd f g r = g x r1 := by unfold M.bnd; rw [h]
theorem ofM_ok {A : Type} {f : M A} {g : A → En → Out} {r r1 : En} {x : A} (h : f r = .ok x r1) : ofM f g r = g x r1 := by unfold ofM; rw [h]
theorem lcN_eq {β : Type} {nth : En → Nat → Option (Option PyData)} {tg : PyData → En → Option En} {T : List Nat} {tt : M Bool} {f : M Rv} {W : En} (hW : wipeV W T = W) (xs : List β) (D : β → PyData) (hn : ∀ i : Nat, nth W i = some (xs[i]?.map D)) (c : β → Bool) (y : β → PyData)
    (ht : ∀ d ∈ xs, ∃ r2, tg (D d) W = some r2 ∧ ∃ r3, tt r2 = .ok (c d) r3 ∧ wipeV r3 T = W ∧ (c d = true → ∃ r4, M.bnd f frz r3 = .ok (y d) r4 ∧ wipeV r4 T = W)) :
    ∀ (m i : Nat) (acc : List PyData), xs.length ≤ i + m → acc.length + (xs.length - i) ≤ sizeLine → lcN nth tg T tt f m i acc W = .ok (acc ++ ((xs.drop i).filter c).map y) W := by
  intro m
  induction m with
  | zero =>
    intro i acc hm hz
    unfold lcN
    have e : xs[i]? = none := List.getElem?_eq_none_iff.mpr (by omega)
    rw [hn i, e, List.drop_eq_nil_of_le (by omega)]
    simp
  | succ m ih =>
    intro i acc hm hz
    unfold lcN
    rw [hn i]
    cases e : xs[i]? with
    | none =>
      have hi := List.getElem?_eq_none_iff.mp e
      rw [List.drop_eq_nil_of_le hi]
      simp
    | some d =>
      obtain ⟨hi, hd⟩ := List.getElem?_eq_some_iff.mp e
      obtain ⟨r2, h1, r3, h2, h3, h4⟩ := ht d (List.mem_of_getElem? e)
      have ed : xs.drop i = d :: xs.drop (i + 1) := by rw [← hd]; exact (List.drop_eq_getElem_cons hi)
      simp only [Option.map_some, hW, h1, h2]
      cases ec : c d with
      | false =>
        simp only [h3]
        rw [ih (i + 1) acc (by omega) (by omega), ed, List.filter_cons_of_neg (by simp [ec])]
      | true =>
        obtain ⟨r4, h5, h6⟩ := h4 ec
        simp only [h5, h6]
        rw [if_pos (by omega), ih (i + 1) (acc ++ [y d]) (by omega) (by simp; omega), ed, List.filter_cons_of_pos (by simp [ec])]
        simp
theorem lcE_eq {β : Type} {it : M Src} {s : Src} {tg : PyData → En → Option En} {T : List Nat} {tt : M Bool} {f : M Rv} {r r1 W : En} (hit : it r = .ok s r1) (hc : calm r1 T = true) (hw : wipeV r1 T = W) (hW : wipeV W T = W) (xs : List β) (D : β → PyData) (hn : ∀ i : Nat, s.nth W i = some (xs[i]?.map D)) (hf : xs.length ≤ s.fuel) (hz : xs.length ≤ sizeLine) (c : β → Bool) (y : β → PyData)
    (ht : ∀ d ∈ xs, ∃ r2, tg (D d) W = some r2 ∧ ∃ r3, tt r2 = .ok (c d) r3 ∧ wipeV r3 T = W ∧ (c d = true → ∃ r4, M.bnd f frz r3 = .ok (y d) r4 ∧ wipeV r4 T = W)) :
    lcE it tg T tt f r = .ok (.own (.lst ((xs.filter c).map y))) (restV r1 W T) := by
  refine (bnd_ok hit).trans ?_
  have e := lcN_eq hW xs D hn c y ht s.fuel 0 [] (by omega) (by simpa using hz)
  simp only [hc, if_true, hw, e]
  simp
/-! a list that a name holds: frozen, or the caller's -/
def cell (b : Bool) (ds : List PyData) : Sl := if b then .bor 0 else .val (.list ds)
def oss (b : Bool) (ds : List PyData) : List Bo := if b then [.live (.lst ds)] else []
def loc (b : Bool) (ds : List PyData) : Rv := if b then .at (.obj 0) else .val (.list ds)
def agB (b : Bool) (ds : List PyData) : Ag := if b then .ref (.lst ds) else .val (.list ds)
@[simp] theorem nm_cell {b : Bool} {ds : List PyData} {vs : List (Option Sl)} {os : List Bo} : nmE 0 ⟨some (cell b ds) :: vs, os⟩ = .ok (loc b ds) ⟨some (cell b ds) :: vs, os⟩ := by cases b <;> rfl
@[simp] theorem peek_loc {b : Bool} {ds : List PyData} {vs : List (Option Sl)} : peek ⟨vs, oss b ds⟩ (loc b ds) = some (.list ds) := by cases b <;> rfl
@[simp] theorem entry_cell {b : Bool} {ds : List PyData} {as : List PyData} {n : Nat} : entry n (agB b ds :: as.map .val) = ⟨some (cell b ds) :: (as.map fun d => some (.val d)) ++ List.replicate (n - (as.length + 1)) none, oss b ds⟩ := by
  have h : ∀ (as : List PyData) (k : Nat), entVs (as.map .val) k = as.map fun d => some (.val d) := fun as => by
    induction as with
    | nil => intro k; rfl
    | cons a as ih => intro k; simp [entVs, ih k]
  have h2 : ∀ as : List PyData, entOs (as.map .val) = [] := fun as => by
    induction as with
    | nil => rfl
    | cons a as ih => simpa [entOs] using ih
  cases b <;> simp [entry, agB, cell, oss, entVs, entOs, h, h2]
/-! comprehensions over range(n), and over the items of a list -/
theorem rng_run {e : M Rv} {n : Nat} {r : En} (he : e r = .ok (.val (.int n)) r) (hn : n ≤ 16777216) : rng1 e r = .ok ⟨rngNth 0 n, n⟩ r := by
  refine (bnd_ok he).trans ?_
  show (if -(2 ^ 62) ≤ (n : Int) ∧ (n : Int) < 2 ^ 62 then (Res.ok (⟨rngNth 0 (n : Int).toNat, (n : Int).toNat⟩ : Src) r : Res Src) else .no) = _
  rw [if_pos ⟨by omega, by omega⟩, Int.toNat_natCast]
theorem lcE_rng {e : M Rv} {tg : PyData → En → Option En} {T : List Nat} {tt : M Bool} {f : M Rv} {n : Nat} {r W : En} (he : e r = .ok (.val (.int n)) r) (hn : n ≤ 16777216) (hc : calm r T = true) (hw : wipeV r T = W) (hW : wipeV W T = W) (hr : restV r W T = r) (p : Nat → Bool) (q : Nat → PyData)
    (ht : ∀ i : Nat, i < n → ∃ r2, tg (.int i) W = some r2 ∧ ∃ r3, tt r2 = .ok (p i) r3 ∧ wipeV r3 T = W ∧ (p i = true → ∃ r4, M.bnd f frz r3 = .ok (q i) r4 ∧ wipeV r4 T = W)) :
    lcE (rng1 e) tg T tt f r = .ok (.own (.lst (((List.range n).filter p).map q))) r := by
  have h := lcE_eq (tg := tg) (tt := tt) (f := f) (rng_run he hn) hc hw hW (List.range n) (fun (i : Nat) => PyData.int (i : Int)) (fun i => by
    show rngNth 0 n W i = _
    unfold rngNth
    by_cases h : i < n
    · rw [if_pos h]; simp [h]
    · rw [if_neg h]; simp [h]) (by simp) (by simp [sizeLine]; omega) p q (fun i hi => ht i (List.mem_range.mp hi))
  rw [h, hr]
theorem seq_run {e : M Rv} {x : Rv} {ds : List PyData} {r r1 r2 : En} {y : Rv} (he : e r = .ok x r1) (hh : hold x r1 = .ok y r2) (hp : peek r2 y = some (.list ds)) : seqI e r = .ok ⟨lstNth y, ds.length⟩ r2 := by
  refine (bnd_ok he).trans ((bnd_ok hh).trans ?_)
  simp only [hp]
theorem lcE_seq {β : Type} {e : M Rv} {tg : PyData → En → Option En} {T : List Nat} {tt : M Bool} {f : M Rv} (xs : List β) (D : β → PyData) {x y : Rv} {r r1 r2 W : En} (he : e r = .ok x r1) (hh : hold x r1 = .ok y r2) (hp : peek r2 y = some (.list (xs.map D))) (hpW : peek W y = some (.list (xs.map D))) (hz : xs.length ≤ sizeLine)
    (hc : calm r2 T = true) (hw : wipeV r2 T = W) (hW : wipeV W T = W) (hr : restV r2 W T = r2) (c : β → Bool) (q : β → PyData)
    (ht : ∀ d ∈ xs, ∃ r2, tg (D d) W = some r2 ∧ ∃ r3, tt r2 = .ok (c d) r3 ∧ wipeV r3 T = W ∧ (c d = true → ∃ r4, M.bnd f frz r3 = .ok (q d) r4 ∧ wipeV r4 T = W)) :
    lcE (seqI e) tg T tt f r = .ok (.own (.lst ((xs.filter c).map q))) r2 := by
  have h := lcE_eq (tg := tg) (tt := tt) (f := f) (seq_run he hh hp) hc hw hW xs D (fun i => by
    show lstNth y W i = _
    unfold lstNth
    rw [hpW]
    simp) (by simp) hz c q ht
  rw [h, hr]
theorem zip_run {e h : M Rv} {x x1 y y1 : Rv} {ds es : List PyData} {r : En} (h1 : e r = .ok x r) (h2 : hold x r = .ok x1 r) (h3 : h r = .ok y r) (h4 : hold y r = .ok y1 r) (p1 : peek r x1 = some (.list ds)) (p2 : peek r y1 = some (.list es)) : zipI e h r = .ok ⟨zipNth x1 y1, min ds.length es.length⟩ r := by
  refine (bnd_ok h1).trans ((bnd_ok h2).trans ((bnd_ok h3).trans ((bnd_ok h4).trans ?_)))
  simp only [p1, p2]
theorem lcE_zip {β γ : Type} {e h : M Rv} {tg : PyData → En → Option En} {T : List Nat} {tt : M Bool} {f : M Rv} (xs : List β) (ys : List γ) (D : β → PyData) (E : γ → PyData) {x x1 y y1 : Rv} {r W : En} (h1 : e r = .ok x r) (h2 : hold x r = .ok x1 r) (h3 : h r = .ok y r) (h4 : hold y r = .ok y1 r)
    (p1 : peek r x1 = some (.list (xs.map D))) (p2 : peek r y1 = some (.list (ys.map E))) (q1 : peek W x1 = some (.list (xs.map D))) (q2 : peek W y1 = some (.list (ys.map E))) (hz : xs.length ≤ sizeLine)
    (hc : calm r T = true) (hw : wipeV r T = W) (hW : wipeV W T = W) (hr : restV r W T = r) (c : β × γ → Bool) (q : β × γ → PyData)
    (ht : ∀ d ∈ xs.zip ys, ∃ r2, tg (.tuple [D d.1, E d.2]) W = some r2 ∧ ∃ r3, tt r2 = .ok (c d) r3 ∧ wipeV r3 T = W ∧ (c d = true → ∃ r4, M.bnd f frz r3 = .ok (q d) r4 ∧ wipeV r4 T = W)) :
    lcE (zipI e h) tg T tt f r = .ok (.own (.lst (((xs.zip ys).filter c).map q))) r := by
  have h := lcE_eq (tg := tg) (tt := tt) (f := f) (zip_run h1 h2 h3 h4 p1 p2) hc hw hW (xs.zip ys) (fun d => .tuple [D d.1, E d.2]) (fun i => by
    show zipNth x1 y1 W i = _
    unfold zipNth
    rw [q1, q2]
    simp only [List.getElem?_map, List.getElem?_zip_eq_some, List.zip]
    cases e1 : xs[i]? with
    | none => simp [List.getElem?_zipWith, e1]
    | some a => cases e2 : ys[i]? with
      | none => simp [List.getElem?_zipWith, e1, e2]
      | some b => simp [List.getElem?_zipWith, e1, e2]) (by simp) (by simp; omega) c q ht
  rw [h, hr]
/-! ends of tables -/
abbrev EndS := Option Str
def eD : EndS → PyData
  | none => .none
  | some x => .str x
def tD (t : List EndS) : List PyData := t.map eD
@[simp] theorem tD_len {t : List EndS} : (tD t).length = t.length := by simp [tD]
theorem tD_get {t : List EndS} {i : Nat} {e : EndS} (h : t[i]? = some e) : (tD t)[i]? = some (eD e) := by unfold tD; rw [List.getElem?_map, h]; rfl
theorem eD_flat (a b : EndS) : flatEq (eD a) (eD b) = true := by cases a <;> cases b <;> rfl
theorem eD_eqv (a b : EndS) : PyData.eqv (eD a) (eD b) = decide (a = b) := by
  cases a with
  | none => cases b with
    | none => simp [eD, PyData.eqv]
    | some y => simp [eD, PyData.eqv]
  | some x => cases b with
    | none => simp [eD, PyData.eqv]
    | some y => simp only [eD, PyData.eqv]; rw [Bool.eq_iff_iff]; simp
@[simp] theorem ne_eD (a b : EndS) : gNe (eD a) (eD b) = some (vB (!decide (a = b))) := by unfold gNe eqOk; rw [eD_flat, eD_eqv]; rfl
@[simp] theorem eq_eD (a b : EndS) : gEq (eD a) (eD b) = some (vB (decide (a = b))) := by unfold gEq eqOk; rw [eD_flat, eD_eqv]; rfl
theorem ix_tD {t : List EndS} {i : Nat} {e : EndS} (h : t[i]? = some e) : gIx (.list (tD t)) (.int (i : Int)) = some (.val (eD e)) := by
  unfold gIx
  simp only [L2.atI_nat (tD_get h)]
  rfl
/-- the end at a number -/
def at' (t : List EndS) (n : Nat) : EndS := (t[n]?).getD none
theorem ix_at {t : List EndS} (ht : t.length = 10) {i : Nat} (hi : i < 10) : gIx (.list (tD t)) (.int (i : Int)) = some (.val (eD (at' t i))) := by
  have : t[i]? = some t[i] := List.getElem?_eq_getElem (by omega)
  rw [ix_tD this]
  unfold at'
  rw [this]
  rfl
def ints' (ns : List Nat) : List PyData := ns.map fun (i : Nat) => PyData.int (i : Int)
theorem ix_ints {ns : List Nat} {i n : Nat} (h : ns[i]? = some n) : gIx (.list (ints' ns)) (.int (i : Int)) = some (.val (.int (n : Int))) := by
  unfold gIx
  have : (ints' ns)[i]? = some (.int (n : Int)) := by unfold ints'; rw [List.getElem?_map, h]; rfl
  simp only [L2.atI_nat this]
  rfl
theorem eq_int (i j : Int) : gEq (.int i) (.int j) = some (vB (decide (i = j))) := by
  unfold gEq eqOk
  have : PyData.eqv (.int i) (.int j) = decide (i = j) := by simp only [PyData.eqv]; rw [Bool.eq_iff_iff]; simp
  rw [this]
  rfl
theorem ne_int (i j : Int) : gNe (.int i) (.int j) = some (vB (!decide (i = j))) := by
  unfold gNe eqOk
  have : PyData.eqv (.int i) (.int j) = decide (i = j) := by simp only [PyData.eqv]; rw [Bool.eq_iff_iff]; simp
  rw [this]
  rfl
/-! pure expressions -/
def Pv (f : M Rv) (r : En) (d : PyData) : Prop := ∃ x, f r = .ok x r ∧ peek r x = some d
theorem Pv.of {f : M Rv} {r : En} {d : PyData} {x : Rv} (h : f r = .ok x r) (h2 : peek r x = some d) : Pv f r d := ⟨x, h, h2⟩
theorem Pv.nm {i : Nat} {r : En} {d : PyData} (h : r.vs[i]? = some (some (.val d))) : Pv (nmE i) r d := ⟨.val d, by unfold nmE; rw [h], rfl⟩
theorem Pv.k {r : En} {d : PyData} : Pv (kE d) r d := ⟨.val d, rfl, rfl⟩
theorem bin_eq {g : PyData → PyData → Option Rv} {f h : M Rv} {r : En} {a b : PyData} {z : Rv} (h1 : Pv f r a) (h2 : Pv h r b) (e : g a b = some z) : binE g f h r = .ok z r := by
  obtain ⟨x, e1, p1⟩ := h1
  obtain ⟨y, e2, p2⟩ := h2
  refine (bnd_ok e1).trans ((bnd_ok e2).trans ?_)
  unfold op2
  rw [p1, p2]
  simp only [e]
theorem un_eq {g : PyData → Option Rv} {f : M Rv} {r : En} {a : PyData} {z : Rv} (h1 : Pv f r a) (e : g a = some z) : unE g f r = .ok z r := by
  obtain ⟨x, e1, p1⟩ := h1
  refine (bnd_ok e1).trans ?_
  unfold op1
  rw [p1]
  simp only [e]
theorem Pv.bin {g : PyData → PyData → Option Rv} {f h : M Rv} {r : En} {a b d : PyData} {z : Rv} (h1 : Pv f r a) (h2 : Pv h r b) (e : g a b = some z) (p : peek r z = some d) : Pv (binE g f h) r d := ⟨z, bin_eq h1 h2 e, p⟩
theorem Pv.un {g : PyData → Option Rv} {f : M Rv} {r : En} {a d : PyData} {z : Rv} (h1 : Pv f r a) (e : g a = some z) (p : peek r z = some d) : Pv (unE g f) r d := ⟨z, un_eq h1 e, p⟩
def Pt (t : M Bool) (r : En) (b : Bool) : Prop := t r = .ok b r
theorem Pt.tst {f : M Rv} {r : En} {b : Bool} (h : Pv f r (.bool b)) : Pt (tstB f) r b := by
  obtain ⟨x, e1, p1⟩ := h
  refine (bnd_ok e1).trans ?_
  unfold Mi.tst
  rw [p1]
  rfl
theorem Pt.and {f g : M Bool} {r : En} {a b : Bool} (h1 : Pt f r a) (h2 : a = true → Pt g r b) : Pt (andB f g) r (a && b) := by
  refine (bnd_ok h1).trans ?_
  cases a with
  | false => rfl
  | true => exact h2 rfl
theorem Pt.or {f g : M Bool} {r : En} {a b : Bool} (h1 : Pt f r a) (h2 : a = false → Pt g r b) : Pt (orB f g) r (a || b) := by
  refine (bnd_ok h1).trans ?_
  cases a with
  | true => rfl
  | false => exact h2 rfl
theorem Pt.not {f : M Bool} {r : En} {a : Bool} (h1 : Pt f r a) : Pt (notB f) r (!a) := bnd_ok h1
theorem ret_ok {f : M Rv} {r r1 : En} {x : Rv} (h : f r = .ok x r1) : retS f r = .rt x r1 := ofM_ok h
theorem seq_ok' {f g : Stm} {r r1 : En} (h : f r = .nx r1) : seqS f g r = g r1 := by unfold seqS; rw [h]
theorem if_ok {t : M Bool} {f g : Stm} {r : En} {b : Bool} (h : Pt t r b) : ifS t f g r = if b = true then f r else g r := by
  refine (ofM_ok h).trans ?_
  cases b <;> rfl
theorem nm_frz {i : Nat} {r : En} {d : PyData} (h : r.vs[i]? = some (some (.val d))) : M.bnd (nmE i) frz r = .ok d r := bnd_ok (show nmE i r = .ok (.val d) r by unfold nmE; rw [h])
theorem own_frz {f : M Rv} {r r1 : En} {ds : List PyData} (h : f r = .ok (.own (.lst ds)) r1) : M.bnd f frz r = .ok (.list ds) r1 := bnd_ok h
theorem val_frz {f : M Rv} {r r1 : En} {d : PyData} (h : f r = .ok (.val d) r1) : M.bnd f frz r = .ok d r1 := bnd_ok h
/-! calls that change nothing -/
theorem set_self {β : Type} : ∀ {l : List β} {i : Nat} {x : β}, l[i]? = some x → l.set i x = l
  | [], i, x, h => by simp at h
  | a :: l, 0, x, h => by simp at h; subst h; rfl
  | a :: l, i + 1, x, h => by simp at h; simp [set_self h]
theorem setLo_same {r : En} {l : Lo} {o : Ob} (h : look r l = some (.live o)) : setLo r l (.live o) = r := by
  cases l with
  | slot i => show ({ r with vs := r.vs.set i (some (.own o)) } : En) = r; rw [set_self (look_slot h)]
  | obj k => show ({ r with os := r.os.set k (.live o) } : En) = r; rw [set_self h]
theorem agsOf_vals {r : En} : ∀ es : List PyData, agsOf r (es.map .val) = some (es.map .val, [])
  | [] => rfl
  | e :: es => by
    show (match agOf r (.val e), agsOf r (es.map .val) with
      | some (a, some l), some (as, ls) => some (a :: as, l :: ls)
      | some (a, none), some (as, ls) => some (a :: as, ls)
      | _, _ => none) = _
    rw [agsOf_vals es]
    rfl
/-- an expression that gives a list, frozen or held -/
def Pa (f : M Rv) (r : En) (ds : List PyData) : Prop := ∃ x, f r = .ok x r ∧ (x = .val (.list ds) ∨ ∃ l, x = .at l ∧ look r l = some (.live (.lst ds)))
theorem callB {G : List Ag → FR} {f : M Rv} {g : M (List Rv)} {r : En} {ds es : List PyData} {res : Rv} (h1 : Pa f r ds) (h2 : g r = .ok (es.map .val) r) (hG : ∀ b, G (agB b ds :: es.map .val) = .ret res (oss b ds)) : callE G (consR f g) r = .ok res r := by
  obtain ⟨x, e1, hx⟩ := h1
  refine (bnd_ok (show consR f g r = .ok (x :: es.map .val) r from (bnd_ok e1).trans (bnd_ok h2))).trans ?_
  unfold callF
  rcases hx with rfl | ⟨l, rfl, hl⟩
  · have e : agsOf r (.val (.list ds) :: es.map .val) = some (agB false ds :: es.map .val, []) := agsOf_vals (.list ds :: es)
    rw [e]
    simp only [noDup, if_true, hG false]
    rfl
  · have e : agsOf r (.at l :: es.map .val) = some (agB true ds :: es.map .val, [l]) := by
      show (match agOf r (.at l), agsOf r (es.map .val) with
        | some (a, some l), some (as, ls) => some (a :: as, l :: ls)
        | some (a, none), some (as, ls) => some (a :: as, ls)
        | _, _ => none) = _
      rw [agsOf_vals es]
      have e2 : agOf r (.at l) = some (.ref (.lst ds), some l) := by unfold agOf; simp only [hl]
      rw [e2]
      rfl
    rw [e]
    simp only [noDup, List.contains_nil, Bool.not_false, Bool.and_self, if_true, hG true]
    have e3 : back [l] (oss true ds) r = r := by
      show setLo r l (.live (.lst ds)) = r
      exact setLo_same hl
    rw [e3]
    rfl
theorem callV {G : List Ag → FR} {g : M (List Rv)} {r : En} {es : List PyData} {res : Rv} (h2 : g r = .ok (es.map .val) r) (hG : G (es.map .val) = .ret res []) : callE G g r = .ok res r := by
  refine (bnd_ok h2).trans ?_
  unfold callF
  rw [agsOf_vals es]
  simp only [noDup, if_true, hG]
  rfl
theorem callO {G : List Ag → FR} {f : M Rv} {g : M (List Rv)} {r : En} {o : Ob} {l : Lo} {es : List PyData} {res : Rv} (h1 : f r = .ok (.at l) r) (hl : look r l = some (.live o)) (h2 : g r = .ok (es.map .val) r) (hG : G (.ref o :: es.map .val) = .ret res [.live o]) : callE G (consR f g) r = .ok res r := by
  refine (bnd_ok (show consR f g r = .ok (.at l :: es.map .val) r from (bnd_ok h1).trans (bnd_ok h2))).trans ?_
  unfold callF
  have e : agsOf r (.at l :: es.map .val) = some (.ref o :: es.map .val, [l]) := by
    show (match agOf r (.at l), agsOf r (es.map .val) with
      | some (a, some l), some (as, ls) => some (a :: as, l :: ls)
      | some (a, none), some (as, ls) => some (a :: as, ls)
      | _, _ => none) = _
    rw [agsOf_vals es]
    have e2 : agOf r (.at l) = some (.ref o, some l) := by unfold agOf; simp only [hl]
    rw [e2]
  rw [e]
  simp only [noDup, List.contains_nil, Bool.not_false, Bool.and_self, if_true, hG]
  have e3 : back [l] [.live o] r = r := by
    show setLo r l (.live o) = r
    exact setLo_same hl
  rw [e3]
  rfl
theorem pa_cell {b : Bool} {ds : List PyData} {vs : List (Option Sl)} : Pa (nmE 0) ⟨some (cell b ds) :: vs, oss b ds⟩ ds := ⟨loc b ds, nm_cell, by cases b; exact .inl rfl; exact .inr ⟨_, rfl, rfl⟩⟩
theorem pa_own {i : Nat} {r : En} {ds : List PyData} (h : r.vs[i]? = some (some (.own (.lst ds)))) : Pa (nmE i) r ds := ⟨.at (.slot i), by unfold nmE; rw [h], .inr ⟨_, rfl, by unfold look; simp only [h]⟩⟩
theorem pa_val {i : Nat} {r : En} {ds : List PyData} (h : r.vs[i]? = some (some (.val (.list ds)))) : Pa (nmE i) r ds := ⟨.val (.list ds), by unfold nmE; rw [h], .inl rfl⟩
theorem Pa.pv {f : M Rv} {r : En} {ds : List PyData} (h : Pa f r ds) : Pv f r (.list ds) := by
  obtain ⟨x, e, hx⟩ := h
  refine ⟨x, e, ?_⟩
  rcases hx with rfl | ⟨l, rfl, hl⟩
  · rfl
  · unfold peek content; simp only [hl]; rfl
@[simp] theorem hold_loc {b : Bool} {ds : List PyData} {r : En} : hold (loc b ds) r = .ok (loc b ds) r := by cases b <;> rfl
theorem met_eq {g : PyData → List PyData → Option Rv} {f : M Rv} {a : M (List PyData)} {r : En} {ds as : List PyData} {z : Rv} (h1 : Pv f r (.list ds)) (h2 : a r = .ok as r) (e : g (.list ds) as = some z) : metE g f a r = .ok z r := by
  obtain ⟨x, e1, p1⟩ := h1
  have e3 : isLst x r = .ok x r := by unfold isLst; rw [p1]
  refine (bnd_ok e1).trans ((bnd_ok e3).trans ((bnd_ok h2).trans ?_))
  simp only [p1, e]
theorem Pt.of {t : M Bool} {r : En} {b : Bool} (h : t r = .ok b r) : Pt t r b := h
theorem or_eq {f g : M Rv} {r : En} {a b : Bool} (h1 : Pv f r (.bool a)) (h2 : a = false → g r = .ok (.val (.bool b)) r) : orE f g r = .ok (.val (.bool (a || b))) r := by
  refine (bnd_ok (Pt.tst h1)).trans ?_
  cases a with
  | true => rfl
  | false => exact h2 rfl
theorem and_eq {f g : M Rv} {r : En} {a b : Bool} (h1 : Pv f r (.bool a)) (h2 : a = true → g r = .ok (.val (.bool b)) r) : andE f g r = .ok (.val (.bool (a && b))) r := by
  refine (bnd_ok (Pt.tst h1)).trans ?_
  cases a with
  | false => rfl
  | true => exact h2 rfl
theorem set_own {i : Nat} {f : M Rv} {r r1 : En} {o : Ob} (h : f r = .ok (.own o) r1) : setS i f r = .nx (Mi.put r1 i (.own o)) := ofM_ok h
theorem set_val {i : Nat} {f : M Rv} {r r1 : En} {d : PyData} (h : f r = .ok (.val d) r1) : setS i f r = .nx (Mi.put r1 i (.val d)) := ofM_ok h
theorem any_bools (bs : List Bool) : gAny (.list (bs.map .bool)) = some (vB (bs.any id)) := by
  have e : ∀ bs : List Bool, boolsOf (bs.map .bool) = some bs := fun bs => by
    induction bs with
    | nil => rfl
    | cons b bs ih => simp [boolsOf, ih]
  unfold gAny
  simp only [e bs]
  rfl
theorem all_bools (bs : List Bool) : gAll (.list (bs.map .bool)) = some (vB (bs.all id)) := by
  have e : ∀ bs : List Bool, boolsOf (bs.map .bool) = some bs := fun bs => by
    induction bs with
    | nil => rfl
    | cons b bs ih => simp [boolsOf, ih]
  unfold gAll
  simp only [e bs]
  rfl
theorem cnt_tD (t : List EndS) (e : EndS) : gCnt (.list (tD t)) [eD e] = some (vI (t.count e : Nat)) := by
  have h1 : (tD t).all flatD = true := by
    unfold tD
    induction t with
    | nil => rfl
    | cons a t ih => simp only [List.map_cons, List.all_cons, ih, Bool.and_true]; cases a <;> rfl
  have h2 : flatD (eD e) = true := by cases e <;> rfl
  have h3 : (tD t).countP (fun z => PyData.eqv z (eD e)) = t.count e := by
    unfold tD
    rw [List.countP_map]
    unfold List.count
    congr 1
    funext a
    simp only [Function.comp, eD_eqv]
    rw [Bool.eq_iff_iff]
    simp
  unfold gCnt
  simp only [h1, h2, Bool.and_self, if_true, h3]
theorem isN_eD (e : EndS) : gIsN (eD e) .none = some (vB (decide (e = none))) := by cases e <;> rfl
theorem isntN_eD (e : EndS) : gIsntN (eD e) .none = some (vB (!decide (e = none))) := by cases e <;> rfl
theorem lst_eq {f : M (List PyData)} {r r1 : En} {ds : List PyData} (h : f r = .ok ds r1) (hz : ds.length ≤ sizeLine) : lstE f r = .ok (.own (.lst ds)) r1 := by
  refine (bnd_ok h).trans ?_
  simp only [hz, if_true]
theorem tup_eq {f : M (List PyData)} {r r1 : En} {ds : List PyData} (h : f r = .ok ds r1) (hz : ds.length ≤ sizeLine) : tupE f r = .ok (.val (.tuple ds)) r1 := by
  refine (bnd_ok h).trans ?_
  simp only [hz, if_true]
theorem ite_eq {t : M Bool} {f g : M Rv} {r : En} {b : Bool} (h : Pt t r b) : iteE t f g r = if b = true then f r else g r := by
  refine (bnd_ok h).trans ?_
  cases b <;> rfl
theorem if_go {t : M Bool} {f g : Stm} {r r1 : En} {b : Bool} (h : t r = .ok b r1) : ifS t f g r = if b = true then f r1 else g r1 := by
  refine (ofM_ok h).trans ?_
  cases b <;> rfl
theorem tst_go {f : M Rv} {r r1 : En} {x : Rv} {b : Bool} (h : f r = .ok x r1) (p : peek r1 x = some (.bool b)) : tstB f r = .ok b r1 := by
  refine (bnd_ok h).trans ?_
  unfold Mi.tst
  rw [p]
  rfl
theorem Pt.tstT {f : M Rv} {r : En} {b : Bool} (h : Pv f r (.bool b)) : Pt (Mi.tstT f) r b := by
  obtain ⟨x, e1, p1⟩ := h
  refine (bnd_ok e1).trans ?_
  unfold Mi.tst
  rw [p1]
  rfl
theorem Pv.own' {f : M Rv} {r : En} {ds : List PyData} (h : f r = .ok (.own (.lst ds)) r) : Pv f r (.list ds) := ⟨_, h, rfl⟩
theorem Pv.val {f : M Rv} {r : En} {d : PyData} (h : f r = .ok (.val d) r) : Pv f r d := ⟨_, h, rfl⟩
/-- if t: return ..; rest -/
theorem sif {t : M Bool} {f rest : Stm} {r r1 r2 : En} {b : Bool} {x : Rv} {o : Out} (h : t r = .ok b r1) (hf : f r1 = .rt x r2) (hg : rest r1 = o) : seqS (ifS t f nxS) rest r = if b = true then .rt x r2 else o := by
  have e := if_go (f := f) (g := nxS) h
  cases b with
  | true =>
    simp only [if_true] at e ⊢
    unfold seqS
    rw [e, hf]
  | false =>
    simp only [Bool.false_eq_true, if_false] at e ⊢
    unfold seqS
    rw [e]
    exact hg
theorem sto_eq {f g : M Rv} {j n : Nat} {r r1 : En} {d : PyData} {ds : List PyData} (h1 : f r = .ok (.val d) r1) (h2 : r1.vs[j]? = some (some (.own (.lst ds)))) (h3 : Pv g r1 (.int (n : Int))) (h4 : n < ds.length) : stoS f j g r = .nx (setLo r1 (.slot j) (.live (.lst (ds.set n d)))) := by
  obtain ⟨x, e3, p3⟩ := h3
  have e2 : nmE j r1 = .ok (.at (.slot j)) r1 := by unfold nmE; rw [h2]
  refine (ofM_ok h1).trans ((ofM_ok (show frz (.val d) r1 = .ok d r1 from rfl)).trans ((ofM_ok e2).trans ((ofM_ok e3).trans ?_)))
  have e4 : look r1 (.slot j) = some (.live (.lst ds)) := by unfold look; simp only [h2]
  have e5 : L2.ixN ds.length (n : Int) = some n := by unfold L2.ixN; simp [h4]
  unfold stoF
  simp only [e4, p3, e5]
theorem eq_str (x y : Str) : gEq (.str x) (.str y) = some (vB (decide (x = y))) := by
  have := eq_eD (some x) (some y)
  simpa [eD] using this
/-- a list that a name holds: its own, frozen, or the caller's -/
def cell3 (k : Option Bool) (ds : List PyData) : Sl := match k with
  | none => .own (.lst ds)
  | some b => cell b ds
def oss3 (k : Option Bool) (ds : List PyData) : List Bo := match k with
  | none => []
  | some b => oss b ds
def ag3 (k : Option Bool) (ds : List PyData) : Ag := match k with
  | none => .own (.lst ds)
  | some b => agB b ds
theorem pa_cell3 {k : Option Bool} {ds : List PyData} {vs : List (Option Sl)} : Pa (nmE 0) ⟨some (cell3 k ds) :: vs, oss3 k ds⟩ ds := by
  cases k with
  | none => exact ⟨.at (.slot 0), rfl, .inr ⟨_, rfl, rfl⟩⟩
  | some b => cases b; exact ⟨.val (.list ds), rfl, .inl rfl⟩; exact ⟨.at (.obj 0), rfl, .inr ⟨_, rfl, rfl⟩⟩
theorem entry_cell3 {k : Option Bool} {ds : List PyData} {as : List PyData} {n : Nat} : entry n (ag3 k ds :: as.map .val) = ⟨some (cell3 k ds) :: (as.map fun d => some (.val d)) ++ List.replicate (n - (as.length + 1)) none, oss3 k ds⟩ := by
  cases k with
  | some b => exact entry_cell
  | none =>
    have h := entry_cell (b := false) (ds := ds) (as := as) (n := n)
    have h1 : ∀ (as : List PyData) (k : Nat), entVs (as.map .val) k = as.map fun d => some (.val d) := fun as => by
      induction as with
      | nil => intro k; rfl
      | cons a as ih => intro k; simp [entVs, ih k]
    have h2 : ∀ as : List PyData, entOs (as.map .val) = [] := fun as => by
      induction as with
      | nil => rfl
      | cons a as ih => simpa [entOs] using ih
    simp [entry, ag3, cell3, oss3, entVs, entOs, h1, h2]
/-- tables of plain names -/
structure TabOk (t : List EndS) : Prop where
  len : t.length = 10
  str : ∀ x : Str, some x ∈ t → PyData.strOk x = true
theorem shaped_eD {e : EndS} (h : ∀ x : Str, e = some x → PyData.strOk x = true) : SeqAt.shaped (eD e) = true := by
  cases e with
  | none => rfl
  | some x =>
    have := h x rfl
    unfold SeqAt.shaped eD
    simp only [PyData.canLay0, PyData.depth, this]
    rfl
theorem shaped_tD {t : List EndS} (h : ∀ x : Str, some x ∈ t → PyData.strOk x = true) : SeqAt.shaped (.list (tD t)) = true := by
  have h1 : PyData.canLayAll0 (tD t) = true := by
    unfold tD
    induction t with
    | nil => rfl
    | cons e t ih =>
      have h2 := ih fun x hx => h x (List.mem_cons_of_mem _ hx)
      have h3 : PyData.canLay0 (eD e) = true := by
        cases e with
        | none => rfl
        | some x => simp only [eD, PyData.canLay0]; exact h x List.mem_cons_self
      simp only [List.map_cons, PyData.canLayAll0, h2, h3, Bool.and_self]
  have h2 : PyData.depthAll (tD t) = 0 := by
    clear h h1
    unfold tD
    induction t with
    | nil => rfl
    | cons e t ih => cases e <;> simp only [List.map_cons, PyData.depthAll, eD, PyData.depth, ih, Nat.max_self]
  unfold SeqAt.shaped
  simp only [PyData.canLay0, PyData.depth, h1, h2]
  rfl
theorem notIn_tD {t : List EndS} {e : EndS} (ht : ∀ x : Str, some x ∈ t → PyData.strOk x = true) (he : ∀ x : Str, e = some x → PyData.strOk x = true) : gNotIn (eD e) (.list (tD t)) = some (vB (!decide (e ∈ t))) := by
  have h1 : ((tD t).any fun z => PyData.eqv z (eD e)) = decide (e ∈ t) := by
    unfold tD
    rw [List.any_map, Bool.eq_iff_iff]
    simp only [List.any_eq_true, Function.comp, eD_eqv, decide_eq_true_eq]
    exact ⟨fun ⟨x, hx, h⟩ => h ▸ hx, fun h => ⟨e, h, rfl⟩⟩
  have h2 : gInB (eD e) (.list (tD t)) = if (SeqAt.shaped (eD e) && SeqAt.shaped (.list (tD t))) = true then some ((tD t).any fun z => PyData.eqv z (eD e)) else none := by
    unfold gInB
    split
    · rename_i h; cases h
    · rename_i h; cases h; rfl
    · rename_i h; cases h
    · simp_all
  unfold gNotIn
  rw [h2, shaped_eD he, shaped_tD ht, h1]
  rfl
theorem un_go {g : PyData → Option Rv} {f : M Rv} {r r1 : En} {a : PyData} {x z : Rv} (h1 : f r = .ok x r1) (p1 : peek r1 x = some a) (e : g a = some z) : unE g f r = .ok z r1 := by
  refine (bnd_ok h1).trans ?_
  unfold op1
  rw [p1]
  simp only [e]
theorem bin_go {g : PyData → PyData → Option Rv} {f h : M Rv} {r r1 r2 : En} {a b : PyData} {x y z : Rv} (h1 : f r = .ok x r1) (h2 : h r1 = .ok y r2) (p1 : peek r2 x = some a) (p2 : peek r2 y = some b) (e : g a b = some z) : binE g f h r = .ok z r2 := by
  refine (bnd_ok h1).trans ((bnd_ok h2).trans ?_)
  unfold op2
  rw [p1, p2]
  simp only [e]
theorem ft {β : Type} (l : List β) : l.filter (fun _ => true) = l := List.filter_eq_self.mpr fun _ _ => rfl
theorem forN_inv {β : Type} {nth : En → Nat → Option (Option PyData)} {tg : PyData → En → Option En} {bd : Stm} (xs : List β) (D : β → PyData) (I : Nat → En → Prop) (hn : ∀ i r, I i r → nth r i = some (xs[i]?.map D))
    (step : ∀ (i : Nat) (r : En) (x : β), I i r → xs[i]? = some x → ∃ r1 r2, tg (D x) r = some r1 ∧ bd r1 = .nx r2 ∧ I (i + 1) r2) : ∀ (m i : Nat) (r : En), I i r → i ≤ xs.length → xs.length ≤ i + m → ∃ r', forN nth tg bd m i r = .nx r' ∧ I xs.length r' := by
  intro m
  induction m with
  | zero =>
    intro i r h h1 h2
    have e : i = xs.length := by omega
    subst e
    unfold forN
    rw [hn _ r h, List.getElem?_eq_none_iff.mpr (Nat.le_refl _)]
    exact ⟨r, rfl, h⟩
  | succ m ih =>
    intro i r h h1 h2
    unfold forN
    rw [hn _ r h]
    cases e : xs[i]? with
    | none =>
      have := List.getElem?_eq_none_iff.mp e
      have e2 : i = xs.length := by omega
      subst e2
      exact ⟨r, rfl, h⟩
    | some x =>
      obtain ⟨r1, r2, e1, e2, h3⟩ := step i r x h e
      have := (List.getElem?_eq_some_iff.mp e).1
      obtain ⟨r', e3, h4⟩ := ih (i + 1) r2 h3 (by omega) (by omega)
      refine ⟨r', ?_, h4⟩
      simp only [Option.map_some, e1, e2]
      exact e3
theorem for_seq {β : Type} {e : M Rv} {tg : PyData → En → Option En} {bd : Stm} (xs : List β) (D : β → PyData) {x y : Rv} {r r1 r2 : En} (he : e r = .ok x r1) (hh : hold x r1 = .ok y r2) (hp : peek r2 y = some (.list (xs.map D))) (I : Nat → En → Prop) (hI : I 0 r2) (hn : ∀ i r, I i r → peek r y = some (.list (xs.map D)))
    (step : ∀ (i : Nat) (r : En) (x : β), I i r → xs[i]? = some x → ∃ r1 r2, tg (D x) r = some r1 ∧ bd r1 = .nx r2 ∧ I (i + 1) r2) : ∃ r', forS (seqI e) tg bd r = .nx r' ∧ I xs.length r' := by
  obtain ⟨r', e1, h⟩ := forN_inv (nth := lstNth y) xs D I (fun i r h => by unfold lstNth; rw [hn i r h]; simp) step xs.length 0 r2 hI (Nat.zero_le _) (by omega)
  refine ⟨r', (ofM_ok (seq_run he hh hp)).trans ?_, h⟩
  simp only [List.length_map]
  exact e1
theorem for_rng {e : M Rv} {tg : PyData → En → Option En} {bd : Stm} {n : Nat} {r r1 : En} (he : e r = .ok (.val (.int n)) r1) (hn : n ≤ 16777216) (I : Nat → En → Prop) (hI : I 0 r1)
    (step : ∀ (i : Nat) (r : En), I i r → i < n → ∃ r1 r2, tg (.int (i : Int)) r = some r1 ∧ bd r1 = .nx r2 ∧ I (i + 1) r2) : ∃ r', forS (rng1 e) tg bd r = .nx r' ∧ I n r' := by
  obtain ⟨r', e1, h⟩ := forN_inv (nth := rngNth 0 n) (List.range n) (fun (i : Nat) => PyData.int (i : Int)) I (fun i r h => by
    unfold rngNth
    by_cases h : i < n
    · rw [if_pos h]; simp [h]
    · rw [if_neg h]; simp [h]) (fun i r x h hx => by
      have hi : i < n := by have := (List.getElem?_eq_some_iff.mp hx).1; simpa using this
      have : x = i := by have := (List.getElem?_eq_some_iff.mp hx).2; simpa using this.symm
      subst this
      exact step x r h hi) n 0 r1 hI (Nat.zero_le _) (by simp)
  rw [List.length_range] at h
  refine ⟨r', (ofM_ok (?_ : rng1 e r = .ok ⟨rngNth 0 n, n⟩ r1)).trans e1, h⟩
  refine (bnd_ok he).trans ?_
  show (if -(2 ^ 62) ≤ (n : Int) ∧ (n : Int) < 2 ^ 62 then (Res.ok (⟨rngNth 0 (n : Int).toNat, (n : Int).toNat⟩ : Src) r1 : Res Src) else .no) = _
  rw [if_pos ⟨by omega, by omega⟩, Int.toNat_natCast]
theorem run_eq {np n : Nat} {bd : Stm} {as : List Ag} {r : En} {o : Out} (h : as.length = np) (e : entry n as = r) (q : bd r = o) : runF np n bd as = finish o := by unfold runF; rw [if_pos h, e, q]
end Mi

/-! Ru0.lean -/
set_option Elab.async false
set_option linter.all false
set_option maxRecDepth 100000
/-! runs, step by step: one lemma for each shape, for a tactic that goes backwards -/
namespace Mi
open PySem L2
variable {r r1 r2 r3 : En} {x y z : Rv} {a b c d : PyData} {as ds es : List PyData}
theorem nm_val {i : Nat} (h : r.vs[i]? = some (some (.val d))) : nmE i r = .ok (.val d) r := by unfold nmE; rw [h]
theorem nm_own {i : Nat} {o : Ob} (h : r.vs[i]? = some (some (.own o))) : nmE i r = .ok (.at (.slot i)) r := by unfold nmE; rw [h]
theorem nm_bor {i k : Nat} (h : r.vs[i]? = some (some (.bor k))) : nmE i r = .ok (.at (.obj k)) r := by unfold nmE; rw [h]
theorem k_go : kE d r = .ok (.val d) r := rfl
theorem bin_go' {g : PyData → PyData → Option Rv} {f h : M Rv} (h1 : f r = .ok x r1) (h2 : h r1 = .ok y r2) (p1 : peek r2 x = some a) (p2 : peek r2 y = some b) (e : g a b = some z) : binE g f h r = .ok z r2 := by
  refine (bnd_ok h1).trans ((bnd_ok h2).trans ?_)
  unfold op2
  rw [p1, p2]
  simp only [e]
theorem un_go' {g : PyData → Option Rv} {f : M Rv} (h1 : f r = .ok x r1) (p1 : peek r1 x = some a) (e : g a = some z) : unE g f r = .ok z r1 := by
  refine (bnd_ok h1).trans ?_
  unfold op1
  rw [p1]
  simp only [e]
theorem nilL_go : nilL r = .ok [] r := rfl
theorem consL_go {f : M Rv} {g : M (List PyData)} (h1 : f r = .ok x r1) (h2 : frz x r1 = .ok d r2) (h3 : g r2 = .ok ds r3) : consL f g r = .ok (d :: ds) r3 := (bnd_ok h1).trans ((bnd_ok h2).trans ((bnd_ok h3).trans rfl))
theorem tup_go {f : M (List PyData)} (h : f r = .ok ds r1) (hz : ds.length ≤ sizeLine) : tupE f r = .ok (.val (.tuple ds)) r1 := tup_eq h hz
theorem lst_go {f : M (List PyData)} (h : f r = .ok ds r1) (hz : ds.length ≤ sizeLine) : lstE f r = .ok (.own (.lst ds)) r1 := lst_eq h hz
theorem nilR_go : nilR r = .ok [] r := rfl
theorem consR_go {f : M Rv} {g : M (List Rv)} {xs : List Rv} (h1 : f r = .ok x r1) (h2 : g r1 = .ok xs r2) : consR f g r = .ok (x :: xs) r2 := (bnd_ok h1).trans ((bnd_ok h2).trans rfl)
theorem call_go {G : List Ag → FR} {f : M (List Rv)} {xs : List Rv} {ags : List Ag} {ls : List Lo} {os : List Bo} (h1 : f r = .ok xs r1) (h2 : agsOf r1 xs = some (ags, ls)) (h3 : noDup ls = true) (h4 : G ags = .ret x os) (h5 : os.length = ls.length) : callE G f r = .ok x (back ls os r1) := by
  refine (bnd_ok h1).trans ?_
  unfold callF
  rw [h2]
  simp only [h3, if_true, h4, h5]
theorem fz_go {f : M Rv} (h1 : f r = .ok x r1) (h2 : frz x r1 = .ok d r2) : fzE f r = .ok (.val d) r2 := (bnd_ok h1).trans ((bnd_ok h2).trans rfl)
theorem mut_go {i : Nat} {up : List PyData → List PyData → Option (List PyData × PyData)} {g : M (List PyData)} {l : Lo} {ds' : List PyData} (h1 : nmE i r = .ok (.at l) r) (h0 : look r l = some (.live (.lst es))) (h2 : g r = .ok as r1) (h3 : look r1 l = some (.live (.lst ds))) (h4 : up ds as = some (ds', d)) : mutE i up g r = .ok (.val d) (setLo r1 l (.live (.lst ds'))) := by
  have e3 : isLst (.at l) r = .ok (.at l) r := by unfold isLst peek content; simp only [h0, Option.bind]; rfl
  refine (bnd_ok h1).trans ((bnd_ok e3).trans ((bnd_ok h2).trans ?_))
  unfold mutF
  simp only [h3, h4]
theorem app_go (h : ds.length < sizeLine) : uApp ds [d] = some (ds ++ [d], .none) := by unfold uApp; simp only [h, if_true]
theorem met_go {g : PyData → List PyData → Option Rv} {f : M Rv} {h : M (List PyData)} (h1 : f r = .ok x r1) (p0 : peek r1 x = some (.list es)) (h2 : h r1 = .ok as r2) (p1 : peek r2 x = some d) (e : g d as = some z) : metE g f h r = .ok z r2 := by
  have e3 : isLst x r1 = .ok x r1 := by unfold isLst; rw [p0]
  refine (bnd_ok h1).trans ((bnd_ok e3).trans ((bnd_ok h2).trans ?_))
  simp only [p1, e]
theorem sl0_go {f : M Rv} (h1 : f r = .ok x r1) (p1 : peek r1 x = some d) (e : gSl d none none = some z) : slE f none none r = .ok z r1 := by
  refine (bnd_ok h1).trans ((bnd_ok (show optI none r1 = .ok none r1 from rfl)).trans ((bnd_ok (show optI none r1 = .ok none r1 from rfl)).trans ?_))
  simp only [p1, Option.bind, e]
theorem opt_go {g : M Rv} {i : Int} (h1 : g r = .ok x r1) (p1 : peek r1 x = some (.int i)) : optI (some g) r = .ok (some i) r1 := by
  refine (bnd_ok h1).trans ?_
  simp only [p1]
theorem slL_go {f g : M Rv} {i : Int} (h1 : f r = .ok x r1) (h2 : g r1 = .ok y r2) (p2 : peek r2 y = some (.int i)) (p1 : peek r2 x = some d) (e : gSl d (some i) none = some z) : slE f (some g) none r = .ok z r2 := by
  refine (bnd_ok h1).trans ((bnd_ok (opt_go h2 p2)).trans ((bnd_ok (show optI none r2 = .ok none r2 from rfl)).trans ?_))
  simp only [p1, Option.bind, e]
theorem slH_go {f g : M Rv} {i : Int} (h1 : f r = .ok x r1) (h2 : g r1 = .ok y r2) (p2 : peek r2 y = some (.int i)) (p1 : peek r2 x = some d) (e : gSl d none (some i) = some z) : slE f none (some g) r = .ok z r2 := by
  refine (bnd_ok h1).trans ((bnd_ok (show optI none r1 = .ok none r1 from rfl)).trans ((bnd_ok (opt_go h2 p2)).trans ?_))
  simp only [p1, Option.bind, e]
theorem slLH_go {f g h : M Rv} {i j : Int} (h1 : f r = .ok x r1) (h2 : g r1 = .ok y r2) (p2 : peek r2 y = some (.int i)) {w : Rv} (h3 : h r2 = .ok w r3) (p3 : peek r3 w = some (.int j)) (p1 : peek r3 x = some d) (e : gSl d (some i) (some j) = some z) : slE f (some g) (some h) r = .ok z r3 := by
  refine (bnd_ok h1).trans ((bnd_ok (opt_go h2 p2)).trans ((bnd_ok (opt_go h3 p3)).trans ?_))
  simp only [p1, Option.bind, e]
theorem dnew_go : dnewE r = .ok (.own (.dct [])) r := rfl
theorem rep_go {f g : M Rv} {k : Int} (h1 : f r = .ok (.own (.lst ds)) r1) (h2 : g r1 = .ok y r2) (p2 : peek r2 y = some (.int k)) (hk : (-(2 ^ 63) ≤ k ∧ k < 2 ^ 63) ∧ ds.length * k.toNat ≤ sizeLine) : repE f g r = .ok (.own (.lst (List.replicate k.toNat ds).flatten)) r2 := by
  refine (bnd_ok h1).trans ((bnd_ok h2).trans ?_)
  simp only [p2]
  rw [if_pos hk]
theorem lrg_go {f : M Rv} {j : Int} (h1 : f r = .ok x r1) (p1 : peek r1 x = some (.int j)) (hj : 0 ≤ j ∧ j ≤ 16777216) : lrgE f r = .ok (.own (.lst (rgD 0 j))) r1 := by
  refine (bnd_ok h1).trans ?_
  simp only [p1]
  rw [if_pos hj]
/-! tests -/
theorem tB_go {f : M Rv} {k : Bool} (h : f r = .ok x r1) (p : peek r1 x = some (.bool k)) : tstB f r = .ok k r1 := tst_go h p
theorem tT_go {f : M Rv} {k : Bool} (h : f r = .ok x r1) (p : peek r1 x = some d) (e : truthOf d = some k) : tstT f r = .ok k r1 := by
  refine (bnd_ok h).trans ?_
  unfold Mi.tst
  rw [p]
  simp only [Option.bind, e]
theorem and_go {f g : M Bool} {k l : Bool} (h1 : f r = .ok k r1) (h2 : k = true → g r1 = .ok l r1) : andB f g r = .ok (k && l) r1 := by
  refine (bnd_ok h1).trans ?_
  cases k with
  | false => rfl
  | true => exact h2 rfl
theorem or_go {f g : M Bool} {k l : Bool} (h1 : f r = .ok k r1) (h2 : k = false → g r1 = .ok l r1) : orB f g r = .ok (k || l) r1 := by
  refine (bnd_ok h1).trans ?_
  cases k with
  | true => rfl
  | false => exact h2 rfl
theorem not_go {f : M Bool} {k : Bool} (h1 : f r = .ok k r1) : notB f r = .ok (!k) r1 := bnd_ok h1
theorem yes_go : yesB r = .ok true r := rfl
theorem andE_go {f g : M Rv} {k l : Bool} (h1 : f r = .ok x r1) (p1 : peek r1 x = some (.bool k)) (h2 : k = true → g r1 = .ok (.val (.bool l)) r1) : andE f g r = .ok (.val (.bool (k && l))) r1 := by
  refine (bnd_ok (tB_go h1 p1)).trans ?_
  cases k with
  | false => rfl
  | true => exact h2 rfl
theorem orE_go {f g : M Rv} {k l : Bool} (h1 : f r = .ok x r1) (p1 : peek r1 x = some (.bool k)) (h2 : k = false → g r1 = .ok (.val (.bool l)) r1) : orE f g r = .ok (.val (.bool (k || l))) r1 := by
  refine (bnd_ok (tB_go h1 p1)).trans ?_
  cases k with
  | true => rfl
  | false => exact h2 rfl
theorem notE_go {f : M Rv} {k : Bool} (h1 : f r = .ok x r1) (p1 : peek r1 x = some (.bool k)) : notE f r = .ok (.val (.bool (!k))) r1 := bnd_ok (tB_go h1 p1)
theorem ite_go {t : M Bool} {f g : M Rv} {k : Bool} (h : t r = .ok k r1) (h1 : k = true → f r1 = .ok (.val a) r2) (h2 : k = false → g r1 = .ok (.val b) r2) : iteE t f g r = .ok (.val (if k = true then a else b)) r2 := by
  refine (bnd_ok h).trans ?_
  cases k with
  | true => exact h1 rfl
  | false => exact h2 rfl
theorem iteT_go {t : M Bool} {f g : M Rv} (h : t r = .ok true r1) (h1 : f r1 = .ok x r2) : iteE t f g r = .ok x r2 := (bnd_ok h).trans h1
theorem iteF_go {t : M Bool} {f g : M Rv} (h : t r = .ok false r1) (h1 : g r1 = .ok x r2) : iteE t f g r = .ok x r2 := (bnd_ok h).trans h1
theorem ch_go {g g' : PyData → PyData → Option Rv} {fa fb fc : M Rv} {k l : Bool} (h1 : fa r = .ok x r) (h2 : fb r = .ok y r) (p1 : peek r x = some a) (p2 : peek r y = some b) (e1 : g a b = some (.val (.bool k))) (h3 : fc r = .ok z r) (p3 : peek r z = some c) (e2 : g' b c = some (.val (.bool l))) : chE g g' fa fb fc r = .ok (.val (.bool (k && l))) r := by
  have t : M.bnd (op2 g x y) (Mi.tst boolOf) r = .ok k r := by
    refine (bnd_ok (show op2 g x y r = .ok (.val (.bool k)) r by unfold op2; rw [p1, p2]; simp only [e1])).trans ?_
    rfl
  refine (bnd_ok h1).trans ((bnd_ok h2).trans ((bnd_ok t).trans ?_))
  cases k with
  | false => rfl
  | true =>
    refine (bnd_ok h3).trans ?_
    unfold op2
    rw [p2, p3]
    simp only [e2, Bool.true_and]
/-! statements -/
theorem set_go {i : Nat} {f : M Rv} {o : Out} (h : f r = .ok x r1) (h2 : bindR i x r1 = o) : setS i f r = o := (ofM_ok h).trans h2
theorem seq_nx {f g : Stm} (h : f r = .nx r1) : seqS f g r = g r1 := by unfold seqS; rw [h]
theorem seq_rt {f g : Stm} (h : f r = .rt x r1) : seqS f g r = .rt x r1 := by unfold seqS; rw [h]
theorem if_T {t : M Bool} {f g : Stm} (h : t r = .ok true r1) : ifS t f g r = f r1 := ofM_ok h
theorem if_F {t : M Bool} {f g : Stm} (h : t r = .ok false r1) : ifS t f g r = g r1 := ofM_ok h
theorem ret_go {f : M Rv} (h : f r = .ok x r1) : retS f r = .rt x r1 := ofM_ok h
theorem drop_go {f : M Rv} (h : f r = .ok x r1) : dropS f r = .nx r1 := ofM_ok h
theorem unp_go {is : List Nat} {f : M Rv} (h : f r = .ok x r1) (p : peek r1 x = some (.tuple ds)) (e : bindL is ds r1 = some r2) : unpS is f r = .nx r2 := by
  refine (ofM_ok h).trans ?_
  simp only [p, e]
theorem unl_go {is : List Nat} {f : M Rv} (h : f r = .ok x r1) (p : peek r1 x = some (.list ds)) (e0 : frz x r1 = .ok d r2) (e : bindL is ds r2 = some r3) : unlS is f r = .nx r3 := by
  refine (ofM_ok h).trans ?_
  simp only [p, e0, e]
theorem sto_go {f g : M Rv} {j : Nat} {l : Lo} {k : Int} {n : Nat} {r4 : En} (h1 : f r = .ok x r1) (h2 : frz x r1 = .ok d r2) (h3 : nmE j r2 = .ok (.at l) r2) (h4 : g r2 = .ok y r4) (p : peek r4 y = some (.int k)) (q : look r4 l = some (.live (.lst ds))) (e : L2.ixN ds.length k = some n) : stoS f j g r = .nx (setLo r4 l (.live (.lst (ds.set n d)))) := by
  refine (ofM_ok h1).trans ((ofM_ok h2).trans ((ofM_ok h3).trans ((ofM_ok h4).trans ?_)))
  unfold stoF
  simp only [q, p, e]
theorem ixN_nat {n k : Nat} (h : k < n) : L2.ixN n ((k : Nat) : Int) = some k := by unfold L2.ixN; rw [if_pos (by omega), if_pos (by omega)]; simp
theorem par_go {i j : Nat} {g : M (List Rv)} {s t : Sl} {x' y' : Rv} (h : g r = .ok [x, y] r1) (h1 : deS x r1 = .ok x' r2) (h2 : deS y r2 = .ok y' r3) (e1 : slOf r3 x' = some s) (e2 : slOf r3 y' = some t) : parS i j g r = .nx (put (put r3 i s) j t) := by
  unfold parS
  simp only [h, h1, h2, e1, e2]
theorem aug_go {i : Nat} {f : M Rv} {k l : Int} (h0 : r.vs[i]? = some (some (.val (.int k)))) (h : f r = .ok x r1) (p : peek r1 x = some (.int l)) : augN i f r = .nx (put r1 i (.val (.int (k + l)))) := by
  unfold augN
  simp only [h0]
  refine (ofM_ok h).trans ?_
  unfold augF
  simp only [p]
/-! the end of a def -/
theorem run_go {np n : Nat} {bd : Stm} {ags : List Ag} {r0 : En} {o : Out} {q : FR} (h : ags.length = np) (e : entry n ags = r0) (h2 : bd r0 = o) (h3 : Mi.finish o = q) : runF np n bd ags = q := by
  unfold runF
  rw [if_pos h, e, h2, h3]
end Mi
namespace Mi
variable {r r1 r2 r3 : En} {x : Rv} {o : Out}
theorem seq_st {f g : Stm} (h : f r = .nx r1) (h2 : g r1 = o) : seqS f g r = o := (seq_nx h).trans h2
theorem if_Tk {t : M Bool} {f g : Stm} {k : Bool} (h : t r = .ok k r1) (e : k = true) (h2 : f r1 = o) : ifS t f g r = o := by subst e; exact (if_T h).trans h2
theorem if_Fk {t : M Bool} {f g : Stm} {k : Bool} (h : t r = .ok k r1) (e : k = false) (h2 : g r1 = o) : ifS t f g r = o := by subst e; exact (if_F h).trans h2
theorem seq_ret {f g : Stm} {v : Rv} (h : f r = .rt v r1) : seqS f g r = .rt v r1 := seq_rt h
theorem nx_go : nxS r = .nx r := rfl
end Mi
namespace Mi
open PySem
variable {r r1 r2 r3 : En} {x : Rv} {o : Out} {vs vs' : List (Option Sl)} {os os' : List Bo}
theorem set_val' {i : Nat} {f : M Rv} {d : PyData} (h : f r = .ok (.val d) ⟨vs, os⟩) (e : vs.set i (some (.val d)) = vs') : setS i f r = .nx ⟨vs', os⟩ := by subst e; exact set_val h
theorem set_own' {i : Nat} {f : M Rv} {q : Ob} (h : f r = .ok (.own q) ⟨vs, os⟩) (e : vs.set i (some (.own q)) = vs') : setS i f r = .nx ⟨vs', os⟩ := by subst e; exact set_own h
theorem mut_go' {i : Nat} {up : List PyData → List PyData → Option (List PyData × PyData)} {g : M (List PyData)} {as ds ds' : List PyData} {d : PyData} {q : Ob} (h0 : r.vs[i]? = some (some (.own q))) (h2 : g r = .ok as ⟨vs, os⟩) (h3 : vs[i]? = some (some (.own (.lst ds)))) (hq : ∃ es, q = .lst es) (h4 : up ds as = some (ds', d)) (e : vs.set i (some (.own (.lst ds'))) = vs') : mutE i up g r = .ok (.val d) ⟨vs', os⟩ := by
  obtain ⟨es, rfl⟩ := hq
  subst e
  have h1 : nmE i r = .ok (.at (.slot i)) r := nm_own h0
  have e1 : look r (.slot i) = some (.live (.lst es)) := by unfold look; simp only [h0]
  have e2 : look ⟨vs, os⟩ (.slot i) = some (.live (.lst ds)) := by unfold look; simp only [h3]
  exact mut_go h1 e1 h2 e2 h4
theorem sto_go' {f g : M Rv} {j : Nat} {k : Int} {n : Nat} {d : PyData} {y : Rv} {ds ds' : List PyData} (h1 : f r = .ok x r1) (h2 : frz x r1 = .ok d r2) (h3 : ∃ q, r2.vs[j]? = some (some (.own q))) (h4 : g r2 = .ok y ⟨vs, os⟩) (p : peek ⟨vs, os⟩ y = some (.int k)) (q : vs[j]? = some (some (.own (.lst ds)))) (e : L2.ixN ds.length k = some n) (e2 : ds.set n d = ds') (e3 : vs.set j (some (.own (.lst ds'))) = vs') : stoS f j g r = .nx ⟨vs', os⟩ := by
  obtain ⟨qq, h3⟩ := h3
  subst e2
  subst e3
  have e2 : look ⟨vs, os⟩ (.slot j) = some (.live (.lst ds)) := by unfold look; simp only [q]
  exact sto_go h1 h2 (nm_own h3) h4 p e2 e
theorem par_go' {i j : Nat} {g : M (List Rv)} {s t : Sl} {x y x' y' : Rv} (h : g r = .ok [x, y] r1) (h1 : deS x r1 = .ok x' r2) (h2 : deS y r2 = .ok y' ⟨vs, os⟩) (e1 : slOf ⟨vs, os⟩ x' = some s) (e2 : slOf ⟨vs, os⟩ y' = some t) (e3 : (vs.set i (some s)).set j (some t) = vs') : parS i j g r = .nx ⟨vs', os⟩ := by
  subst e3
  exact par_go h h1 h2 e1 e2
theorem aug_go' {i : Nat} {f : M Rv} {k l : Int} (h0 : r.vs[i]? = some (some (.val (.int k)))) (h : f r = .ok x ⟨vs, os⟩) (p : peek ⟨vs, os⟩ x = some (.int l)) (e : vs.set i (some (.val (.int (k + l)))) = vs') : augN i f r = .nx ⟨vs', os⟩ := by
  subst e
  exact aug_go h0 h p
def setsV : List Nat → List PyData → List (Option Sl) → List (Option Sl)
  | i :: is, d :: ds, vs => setsV is ds (vs.set i (some (.val d)))
  | _, _, vs => vs
theorem setsV_nil {vs : List (Option Sl)} : setsV [] [] vs = vs := rfl
theorem setsV_cons {i : Nat} {is : List Nat} {d : PyData} {ds : List PyData} {vs : List (Option Sl)} : setsV (i :: is) (d :: ds) vs = setsV is ds (vs.set i (some (.val d))) := rfl
theorem bindL_sets : ∀ {is : List Nat} {ds : List PyData} {vs : List (Option Sl)} {os : List Bo}, is.length = ds.length → bindL is ds ⟨vs, os⟩ = some ⟨setsV is ds vs, os⟩
  | [], [], _, _, _ => rfl
  | i :: is, d :: ds, vs, os, h => bindL_sets (is := is) (ds := ds) (vs := vs.set i (some (.val d))) (os := os) (by simpa using h)
  | [], _ :: _, _, _, h => by simp at h
  | _ :: _, [], _, _, h => by simp at h
theorem unp_go' {is : List Nat} {f : M Rv} {ds : List PyData} (h : f r = .ok x ⟨vs, os⟩) (p : peek ⟨vs, os⟩ x = some (.tuple ds)) (e : is.length = ds.length) (e2 : setsV is ds vs = vs') : unpS is f r = .nx ⟨vs', os⟩ := by
  subst e2
  exact unp_go h p (bindL_sets e)
theorem unl_go' {is : List Nat} {f : M Rv} {ds : List PyData} {d : PyData} (h : f r = .ok x r1) (p : peek r1 x = some (.list ds)) (e0 : frz x r1 = .ok d ⟨vs, os⟩) (e : is.length = ds.length) (e2 : setsV is ds vs = vs') : unlS is f r = .nx ⟨vs', os⟩ := by
  subst e2
  exact unl_go h p e0 (bindL_sets e)
end Mi
namespace Mi
open PySem
variable {r : En} {xs : List Rv} {as : List Ag} {ls : List Lo}
theorem ags_nil : agsOf r [] = some ([], []) := rfl
theorem ags_val {d : PyData} (h : agsOf r xs = some (as, ls)) : agsOf r (.val d :: xs) = some (.val d :: as, ls) := by
  show (match agOf r (.val d), agsOf r xs with
      | some (a, some l), some (as, ls) => some (a :: as, l :: ls)
      | some (a, none), some (as, ls) => some (a :: as, ls)
      | _, _ => none) = _
  rw [h]; rfl
theorem ags_own {o : Ob} (h : agsOf r xs = some (as, ls)) : agsOf r (.own o :: xs) = some (.own o :: as, ls) := by
  show (match agOf r (.own o), agsOf r xs with
      | some (a, some l), some (as, ls) => some (a :: as, l :: ls)
      | some (a, none), some (as, ls) => some (a :: as, ls)
      | _, _ => none) = _
  rw [h]; rfl
theorem ags_at {l : Lo} {o : Ob} (e : look r l = some (.live o)) (h : agsOf r xs = some (as, ls)) : agsOf r (.at l :: xs) = some (.ref o :: as, l :: ls) := by
  show (match agOf r (.at l), agsOf r xs with
      | some (a, some l), some (as, ls) => some (a :: as, l :: ls)
      | some (a, none), some (as, ls) => some (a :: as, ls)
      | _, _ => none) = _
  have e2 : agOf r (.at l) = some (.ref o, some l) := by unfold agOf; simp only [e]
  rw [h, e2]
theorem ags_dead {l : Lo} {d : PyData} (e : look r l = some (.dead d)) (h : agsOf r xs = some (as, ls)) : agsOf r (.at l :: xs) = some (.val d :: as, ls) := by
  show (match agOf r (.at l), agsOf r xs with
      | some (a, some l), some (as, ls) => some (a :: as, l :: ls)
      | some (a, none), some (as, ls) => some (a :: as, ls)
      | _, _ => none) = _
  have e2 : agOf r (.at l) = some (.val d, none) := by unfold agOf; simp only [e]
  rw [h, e2]
/-- a call that changes nothing that is held here -/
theorem call_go0 {G : List Ag → FR} {f : M (List Rv)} {x : Rv} {r1 : En} {os : List Bo} (h1 : f r = .ok xs r1) (h2 : agsOf r1 xs = some (as, [])) (h4 : G as = .ret x os) (h5 : os = []) : callE G f r = .ok x r1 := by subst h5; exact call_go h1 h2 rfl h4 rfl
/-- a call with one held object -/
theorem call_go1 {G : List Ag → FR} {f : M (List Rv)} {x : Rv} {vs vs' : List (Option Sl)} {os : List Bo} {i : Nat} {o : Ob} (h1 : f r = .ok xs ⟨vs, os⟩) (h2 : agsOf ⟨vs, os⟩ xs = some (as, [.slot i])) (h4 : G as = .ret x [.live o]) (e : vs.set i (some (.own o)) = vs') : callE G f r = .ok x ⟨vs', os⟩ := by subst e; exact call_go h1 h2 rfl h4 rfl
theorem call_go2 {G : List Ag → FR} {f : M (List Rv)} {x : Rv} {vs : List (Option Sl)} {os os' : List Bo} {i : Nat} {b : Bo} (h1 : f r = .ok xs ⟨vs, os⟩) (h2 : agsOf ⟨vs, os⟩ xs = some (as, [.obj i])) (h4 : G as = .ret x [b]) (e : os.set i b = os') : callE G f r = .ok x ⟨vs, os'⟩ := by subst e; exact call_go h1 h2 rfl h4 rfl
end Mi
namespace Mi
open PySem
theorem sz_ok {n : Nat} (h : Nat.ble n 1000 = true) : n ≤ sizeLine := Nat.le_trans (Nat.le_of_ble_eq_true h) (by decide)
end Mi
namespace Mi
open PySem
variable {r r1 r2 : En} {x y : Rv} {vs vs' : List (Option Sl)} {os os' : List Bo} {d : PyData} {ds ds' : List PyData}
theorem sto_goB {f g : M Rv} {j k n : Nat} {i : Int} (h1 : f r = .ok x r1) (h2 : frz x r1 = .ok d r2) (h3 : r2.vs[j]? = some (some (.bor k))) (h4 : g r2 = .ok y ⟨vs, os⟩) (p : peek ⟨vs, os⟩ y = some (.int i)) (q : os[k]? = some (.live (.lst ds))) (e : L2.ixN ds.length i = some n) (e2 : ds.set n d = ds') (e3 : os.set k (.live (.lst ds')) = os') : stoS f j g r = .nx ⟨vs, os'⟩ := by
  subst e2
  subst e3
  exact sto_go h1 h2 (nm_bor h3) h4 p (show look ⟨vs, os⟩ (.obj k) = some (.live (.lst ds)) from q) e
theorem mut_goB {i k : Nat} {up : List PyData → List PyData → Option (List PyData × PyData)} {g : M (List PyData)} {as es : List PyData} (h0 : r.vs[i]? = some (some (.bor k))) (q0 : r.os[k]? = some (.live (.lst es))) (h2 : g r = .ok as ⟨vs, os⟩) (h3 : os[k]? = some (.live (.lst ds))) (h4 : up ds as = some (ds', d)) (e : os.set k (.live (.lst ds')) = os') : mutE i up g r = .ok (.val d) ⟨vs, os'⟩ := by
  subst e
  exact mut_go (nm_bor h0) (show look r (.obj k) = some (.live (.lst es)) from q0) h2 (show look ⟨vs, os⟩ (.obj k) = some (.live (.lst ds)) from h3) h4
theorem appL_go {xs ys : List PyData} (h : Nat.ble (xs.length + ys.length) 1000 = true) : gAdd (.list xs) (.list ys) = some (.own (.lst (xs ++ ys))) := if_pos (sz_ok h)
theorem ix_l0 {a : PyData} {l : List PyData} : gIx (.list (a :: l)) (.int 0) = some (.val a) := by
  unfold gIx
  exact congrArg (Option.map Rv.val) (L2.atI_nat (xs := a :: l) (j := 0) rfl)
theorem ix_l1 {a b : PyData} {l : List PyData} : gIx (.list (a :: b :: l)) (.int 1) = some (.val b) := by
  unfold gIx
  exact congrArg (Option.map Rv.val) (L2.atI_nat (xs := a :: b :: l) (j := 1) rfl)
theorem ix_l2 {a b c : PyData} {l : List PyData} : gIx (.list (a :: b :: c :: l)) (.int 2) = some (.val c) := by
  unfold gIx
  exact congrArg (Option.map Rv.val) (L2.atI_nat (xs := a :: b :: c :: l) (j := 2) rfl)
theorem add_ii {i j : Int} : gAdd (.int i) (.int j) = some (.val (.int (i + j))) := rfl
theorem sub_ii {i j : Int} : gSubI (.int i) (.int j) = some (.val (.int (i - j))) := rfl
theorem ix_any {l : List PyData} {i : Nat} (h : i < l.length) : ∃ e ∈ l, gIx (.list l) (.int ((i : Nat) : Int)) = some (.val e) := by
  refine ⟨l[i], List.getElem_mem h, ?_⟩
  unfold gIx
  exact congrArg (Option.map Rv.val) (L2.atI_nat (List.getElem?_eq_getElem h))
end Mi
namespace Mi
open PySem
variable {r r1 r2 : En} {x y : Rv} {o o1 : Out} {vs vs' : List (Option Sl)} {os os' : List Bo}
def slotR : Rv → Option Sl
  | .val d => some (.val d)
  | .own q => some (.own q)
  | .at _ => none
theorem slotR_val {d : PyData} : slotR (.val d) = some (.val d) := rfl
theorem slotR_own {q : Ob} : slotR (.own q) = some (.own q) := rfl
theorem set_any {i : Nat} {f : M Rv} {s : Sl} (h : f r = .ok x ⟨vs, os⟩) (e : slotR x = some s) (e2 : vs.set i (some s) = vs') : setS i f r = .nx ⟨vs', os⟩ := by
  subst e2
  cases x with
  | val d => injection e with e; subst e; exact set_val h
  | own q => injection e with e; subst e; exact set_own h
  | «at» l => cases e
theorem if_st {t : M Bool} {f g : Stm} {k : Bool} (h : t r = .ok k r1) (h2 : (k = true ∧ f r1 = o) ∨ (k = false ∧ g r1 = o)) : ifS t f g r = o := by
  rcases h2 with ⟨e, h2⟩ | ⟨e, h2⟩
  · subst e; exact (if_T h).trans h2
  · subst e; exact (if_F h).trans h2
def seqOut : Out → Stm → Out
  | .nx r1, g => g r1
  | o, _ => o
theorem seqO_nx {g : Stm} (h : g r1 = o) : seqOut (.nx r1) g = o := h
theorem seqO_rt {g : Stm} {v : Rv} : seqOut (.rt v r1) g = .rt v r1 := rfl
theorem seq_any {f g : Stm} (h : f r = o1) (h2 : seqOut o1 g = o) : seqS f g r = o := by
  subst h
  rw [← h2]
  unfold seqS seqOut
  cases f r <;> rfl
end Mi
namespace Mi
open PySem
variable {i : Int} {z : Str} {l : List PyData} {b : Bool}
theorem isn_n : gIsN .none .none = some (.val (.bool true)) := rfl
theorem isn_i : gIsN (.int i) .none = some (.val (.bool false)) := rfl
theorem isn_s : gIsN (.str z) .none = some (.val (.bool false)) := rfl
theorem isn_l : gIsN (.list l) .none = some (.val (.bool false)) := rfl
theorem isn_t : gIsN (.tuple l) .none = some (.val (.bool false)) := rfl
theorem isnt_n : gIsntN .none .none = some (.val (.bool false)) := rfl
theorem isnt_i : gIsntN (.int i) .none = some (.val (.bool true)) := rfl
theorem isnt_s : gIsntN (.str z) .none = some (.val (.bool true)) := rfl
theorem isnt_l : gIsntN (.list l) .none = some (.val (.bool true)) := rfl
theorem isnt_t : gIsntN (.tuple l) .none = some (.val (.bool true)) := rfl
theorem truth_b : truthOf (.bool b) = some b := rfl
end Mi
namespace Mi
open PySem
variable {r : En} {vs vs' : List (Option Sl)} {os os' : List Bo} {d : PyData} {ds : List PyData}
theorem frz_v : frz (.val d) r = .ok d r := rfl
theorem frz_o : frz (.own (.lst ds)) r = .ok (.list ds) r := rfl
theorem frz_s {i : Nat} (h : vs[i]? = some (some (.own (.lst ds)))) (e : vs.set i (some (.val (.list ds))) = vs') : frz (.at (.slot i)) ⟨vs, os⟩ = .ok (.list ds) ⟨vs', os⟩ := by
  subst e
  have e1 : look ⟨vs, os⟩ (.slot i) = some (.live (.lst ds)) := by unfold look; simp only [h]
  unfold frz
  simp only [e1]
  rfl
theorem frz_b {k : Nat} (h : os[k]? = some (.live (.lst ds))) (e : os.set k (.dead (.list ds)) = os') : frz (.at (.obj k)) ⟨vs, os⟩ = .ok (.list ds) ⟨vs, os'⟩ := by
  subst e
  have e1 : look ⟨vs, os⟩ (.obj k) = some (.live (.lst ds)) := h
  unfold frz
  simp only [e1]
  rfl
theorem frz_d {k : Nat} (h : os[k]? = some (.dead d)) : frz (.at (.obj k)) ⟨vs, os⟩ = .ok d ⟨vs, os⟩ := by
  have e1 : look ⟨vs, os⟩ (.obj k) = some (.dead d) := h
  unfold frz
  simp only [e1]
end Mi

/-! Ru0b.lean -/
set_option Elab.async false
set_option linter.all false
set_option maxRecDepth 100000
/-! loops by a fold, which may return -/
namespace Mi
open PySem L2
def foldX {σ β ρ : Type} (F : σ → β → Except ρ σ) : σ → List β → Except ρ σ
  | s, [] => .ok s
  | s, x :: xs => match F s x with
    | .ok s' => foldX F s' xs
    | .error q => .error q
def EndX {σ ρ : Type} (E : σ → En → Prop) (R : ρ → Rv → En → Prop) (o : Out) : Except ρ σ → Prop
  | .ok s => ∃ r', o = .nx r' ∧ E s r'
  | .error q => ∃ v r', o = .rt v r' ∧ R q v r'
theorem forN_fold {β σ ρ : Type} {nth : En → Nat → Option (Option PyData)} {tg : PyData → En → Option En} {bd : Stm} (D : Nat → β → PyData) (E : Nat → σ → En → Prop) (R : ρ → Rv → En → Prop) (F : σ → β → Except ρ σ) (all : List β)
    (hn : ∀ s r i, E i s r → nth r i = some (all[i]?.map (D i))) (step : ∀ s r i x, E i s r → all[i]? = some x → ∃ r1, tg (D i x) r = some r1 ∧ EndX (E (i + 1)) R (bd r1) (F s x)) :
    ∀ (xs : List β) (m i : Nat) (s : σ) (r : En), E i s r → all.drop i = xs → xs.length ≤ m → i ≤ all.length → EndX (E all.length) R (forN nth tg bd m i r) (foldX F s xs)
  | [], m, i, s, r, h, hd, hm, hl => by
    have hi : all[i]? = none := by
      rw [List.getElem?_eq_none_iff]
      have := congrArg List.length hd
      simp only [List.length_drop, List.length_nil] at this
      omega
    have e : i = all.length := by
      have := List.getElem?_eq_none_iff.mp hi
      omega
    cases m <;> (unfold forN; rw [hn s r i h, hi]; exact ⟨r, rfl, e ▸ h⟩)
  | x :: xs, 0, i, s, r, h, hd, hm, hl => by simp at hm
  | x :: xs, m + 1, i, s, r, h, hd, hm, hl => by
    have hi : all[i]? = some x := by
      have := congrArg (·[0]?) hd
      simpa using this
    have hd2 : all.drop (i + 1) = xs := by
      have := congrArg List.tail hd
      simpa using this
    have hl2 := (List.getElem?_eq_some_iff.mp hi).1
    obtain ⟨r1, e1, e2⟩ := step s r i x h hi
    unfold forN
    rw [hn s r i h, hi]
    simp only [Option.map_some, e1]
    unfold foldX
    cases ef : F s x with
    | ok s' =>
      rw [ef] at e2
      obtain ⟨r2, e3, h3⟩ := e2
      rw [e3]
      exact forN_fold D E R F all hn step xs m (i + 1) s' r2 h3 hd2 (by simpa using hm) hl2
    | error q =>
      rw [ef] at e2
      obtain ⟨v, r2, e3, h3⟩ := e2
      rw [e3]
      exact ⟨v, r2, rfl, h3⟩
theorem forS_seq {β σ ρ : Type} {e : M Rv} {tg : PyData → En → Option En} {bd : Stm} (all : List β) (D : β → PyData) {x y : Rv} {r r1 r2 : En} {s0 : σ} (E : Nat → σ → En → Prop) (R : ρ → Rv → En → Prop) (F : σ → β → Except ρ σ) (he : e r = .ok x r1) (hh : hold x r1 = .ok y r2) (hp : peek r2 y = some (.list (all.map D))) (h0 : E 0 s0 r2)
    (hn : ∀ i s r, E i s r → peek r y = some (.list (all.map D))) (step : ∀ s r i x, E i s r → all[i]? = some x → ∃ r1, tg (D x) r = some r1 ∧ EndX (E (i + 1)) R (bd r1) (F s x)) : EndX (E all.length) R (forS (seqI e) tg bd r) (foldX F s0 all) := by
  have := forN_fold (nth := lstNth y) (tg := tg) (bd := bd) (fun _ => D) E R F all (fun s r i h => by unfold lstNth; rw [hn i s r h]; simp) step all all.length 0 s0 r2 h0 rfl (Nat.le_refl _) (Nat.zero_le _)
  have e : forS (seqI e) tg bd r = forN (lstNth y) tg bd all.length 0 r2 := by
    refine (ofM_ok (seq_run he hh hp)).trans ?_
    simp only [List.length_map]
  rw [e]
  exact this
theorem enu_run {e : M Rv} {x : Rv} {ds : List PyData} {r r1 r2 : En} {y : Rv} (he : e r = .ok x r1) (hh : hold x r1 = .ok y r2) (hp : peek r2 y = some (.list ds)) : enuI e r = .ok ⟨enuNth y, ds.length⟩ r2 := by
  refine (bnd_ok he).trans ((bnd_ok hh).trans ?_)
  simp only [hp]
theorem forS_enu {β σ ρ : Type} {e : M Rv} {tg : PyData → En → Option En} {bd : Stm} (all : List β) (D : β → PyData) {x y : Rv} {r r1 r2 : En} {s0 : σ} (E : Nat → σ → En → Prop) (R : ρ → Rv → En → Prop) (F : σ → β → Except ρ σ) (he : e r = .ok x r1) (hh : hold x r1 = .ok y r2) (hp : peek r2 y = some (.list (all.map D))) (h0 : E 0 s0 r2)
    (hn : ∀ i s r, E i s r → peek r y = some (.list (all.map D))) (step : ∀ s r (i : Nat) x, E i s r → all[i]? = some x → ∃ r1, tg (.tuple [.int (i : Int), D x]) r = some r1 ∧ EndX (E (i + 1)) R (bd r1) (F s x)) : EndX (E all.length) R (forS (enuI e) tg bd r) (foldX F s0 all) := by
  have := forN_fold (nth := enuNth y) (tg := tg) (bd := bd) (fun i x => .tuple [.int ((i : Nat) : Int), D x]) E R F all (fun s r i h => by
    unfold enuNth; rw [hn i s r h]; simp only [List.getElem?_map]; cases all[i]? <;> rfl) step all all.length 0 s0 r2 h0 rfl (Nat.le_refl _) (Nat.zero_le _)
  have e : forS (enuI e) tg bd r = forN (enuNth y) tg bd all.length 0 r2 := by
    refine (ofM_ok (enu_run he hh hp)).trans ?_
    simp only [List.length_map]
  rw [e]
  exact this
theorem forS_rng {σ ρ : Type} {e : M Rv} {tg : PyData → En → Option En} {bd : Stm} {n : Nat} {r r1 : En} {s0 : σ} (E : Nat → σ → En → Prop) (R : ρ → Rv → En → Prop) (F : σ → Nat → Except ρ σ) (he : e r = .ok (.val (.int n)) r1) (hz : n ≤ 16777216) (h0 : E 0 s0 r1)
    (step : ∀ s r i, E i s r → i < n → ∃ r1, tg (.int ((i : Nat) : Int)) r = some r1 ∧ EndX (E (i + 1)) R (bd r1) (F s i)) : EndX (E n) R (forS (rng1 e) tg bd r) (foldX F s0 (List.range n)) := by
  have := forN_fold (nth := rngNth 0 n) (tg := tg) (bd := bd) (fun _ (x : Nat) => .int (x : Int)) E R F (List.range n) (fun s r i h => by
    unfold rngNth
    by_cases h : i < n
    · rw [if_pos h]; simp [h]
    · rw [if_neg h]; simp [h]) (fun s r i x h hx => by
      have hi : i < n := by have := (List.getElem?_eq_some_iff.mp hx).1; simpa using this
      have : x = i := by have := (List.getElem?_eq_some_iff.mp hx).2; simpa using this.symm
      subst this
      exact step s r x h hi) (List.range n) n 0 s0 r1 h0 rfl (by simp) (Nat.zero_le _)
  rw [List.length_range] at this
  have e2 : rng1 e r = .ok ⟨rngNth 0 n, n⟩ r1 := by
    refine (bnd_ok he).trans ?_
    show (if -(2 ^ 62) ≤ (n : Int) ∧ (n : Int) < 2 ^ 62 then (Res.ok (⟨rngNth 0 (n : Int).toNat, (n : Int).toNat⟩ : Src) r1 : Res Src) else .no) = _
    rw [if_pos ⟨by omega, by omega⟩, Int.toNat_natCast]
  have e : forS (rng1 e) tg bd r = forN (rngNth 0 n) tg bd n 0 r1 := ofM_ok e2
  rw [e]
  exact this
/-- a fold without a return -/
theorem foldX_ok {σ β : Type} {ρ : Type} (g : σ → β → σ) : ∀ (xs : List β) (s : σ), foldX (ρ := ρ) (fun s x => .ok (g s x)) s xs = .ok (xs.foldl g s)
  | [], s => rfl
  | x :: xs, s => foldX_ok g xs (g s x)
end Mi
namespace Mi
theorem EndX.nx {σ ρ : Type} {E : σ → En → Prop} {R : ρ → Rv → En → Prop} {o : Out} {s : σ} {r' : En} (h : o = .nx r') (h2 : E s r') : EndX E R o (.ok s) := ⟨r', h, h2⟩
theorem EndX.rt {σ ρ : Type} {E : σ → En → Prop} {R : ρ → Rv → En → Prop} {o : Out} {q : ρ} {v : Rv} {r' : En} (h : o = .rt v r') (h2 : R q v r') : EndX E R o (.error q) := ⟨v, r', h, h2⟩
end Mi

/-! Ru0c.lean -/
set_option Elab.async false
set_option linter.all false
set_option maxRecDepth 100000
/-! comprehensions -/
namespace Mi
open PySem L2
theorem lcE_rngY {e : M Rv} {tg : PyData → En → Option En} {T : List Nat} {f : M Rv} {n : Nat} {r W : En} (he : e r = .ok (.val (.int n)) r) (hn : n ≤ 16777216) (hc : calm r T = true) (hw : wipeV r T = W) (hW : wipeV W T = W) (hr : restV r W T = r) (q : Nat → PyData)
    (ht : ∀ i : Nat, i < n → ∃ r2, tg (.int i) W = some r2 ∧ wipeV r2 T = W ∧ ∃ r4, M.bnd f frz r2 = .ok (q i) r4 ∧ wipeV r4 T = W) :
    lcE (rng1 e) tg T yesB f r = .ok (.own (.lst ((List.range n).map q))) r := by
  refine (lcE_rng he hn hc hw hW hr (fun _ => true) q fun i hi => ?_).trans ?_
  · obtain ⟨r2, e1, e0, r4, e2, e3⟩ := ht i hi
    exact ⟨r2, e1, r2, rfl, e0, fun _ => ⟨r4, e2, e3⟩⟩
  · rw [ft]
theorem lcE_seqY {β : Type} {e : M Rv} {tg : PyData → En → Option En} {T : List Nat} {f : M Rv} (xs : List β) (D : β → PyData) {x y : Rv} {r r1 r2 W : En} (he : e r = .ok x r1) (hh : hold x r1 = .ok y r2) (hp : peek r2 y = some (.list (xs.map D))) (hpW : peek W y = some (.list (xs.map D))) (hz : xs.length ≤ sizeLine)
    (hc : calm r2 T = true) (hw : wipeV r2 T = W) (hW : wipeV W T = W) (hr : restV r2 W T = r2) (q : β → PyData)
    (ht : ∀ d ∈ xs, ∃ r2, tg (D d) W = some r2 ∧ wipeV r2 T = W ∧ ∃ r4, M.bnd f frz r2 = .ok (q d) r4 ∧ wipeV r4 T = W) :
    lcE (seqI e) tg T yesB f r = .ok (.own (.lst (xs.map q))) r2 := by
  refine (lcE_seq xs D he hh hp hpW hz hc hw hW hr (fun _ => true) q fun d hd => ?_).trans ?_
  · obtain ⟨r2, e1, e0, r4, e2, e3⟩ := ht d hd
    exact ⟨r2, e1, r2, rfl, e0, fun _ => ⟨r4, e2, e3⟩⟩
  · rw [ft]
theorem tup_run {e : M Rv} {x : Rv} {ds : List PyData} {r r1 r2 : En} {y : Rv} (he : e r = .ok x r1) (hh : hold x r1 = .ok y r2) (hp : peek r2 y = some (.tuple ds)) : seqI e r = .ok ⟨tupNth y, ds.length⟩ r2 := by
  refine (bnd_ok he).trans ((bnd_ok hh).trans ?_)
  simp only [hp]
/-- over a tuple -/
theorem lcE_tup {β : Type} {e : M Rv} {tg : PyData → En → Option En} {T : List Nat} {tt : M Bool} {f : M Rv} (xs : List β) (D : β → PyData) {x y : Rv} {r r1 r2 W : En} (he : e r = .ok x r1) (hh : hold x r1 = .ok y r2) (hp : peek r2 y = some (.tuple (xs.map D))) (hpW : peek W y = some (.tuple (xs.map D))) (hz : xs.length ≤ sizeLine)
    (hc : calm r2 T = true) (hw : wipeV r2 T = W) (hW : wipeV W T = W) (hr : restV r2 W T = r2) (c : β → Bool) (q : β → PyData)
    (ht : ∀ d ∈ xs, ∃ r2, tg (D d) W = some r2 ∧ ∃ r3, tt r2 = .ok (c d) r3 ∧ wipeV r3 T = W ∧ (c d = true → ∃ r4, M.bnd f frz r3 = .ok (q d) r4 ∧ wipeV r4 T = W)) :
    lcE (seqI e) tg T tt f r = .ok (.own (.lst ((xs.filter c).map q))) r2 := by
  have h := lcE_eq (tg := tg) (tt := tt) (f := f) (tup_run he hh hp) hc hw hW xs D (fun i => by
    show tupNth y W i = _
    unfold tupNth
    rw [hpW]
    simp) (by simp) hz c q ht
  rw [h, hr]
theorem lcE_tupY {β : Type} {e : M Rv} {tg : PyData → En → Option En} {T : List Nat} {f : M Rv} (xs : List β) (D : β → PyData) {x y : Rv} {r r1 r2 W : En} (he : e r = .ok x r1) (hh : hold x r1 = .ok y r2) (hp : peek r2 y = some (.tuple (xs.map D))) (hpW : peek W y = some (.tuple (xs.map D))) (hz : xs.length ≤ sizeLine)
    (hc : calm r2 T = true) (hw : wipeV r2 T = W) (hW : wipeV W T = W) (hr : restV r2 W T = r2) (q : β → PyData)
    (ht : ∀ d ∈ xs, ∃ r2, tg (D d) W = some r2 ∧ wipeV r2 T = W ∧ ∃ r4, M.bnd f frz r2 = .ok (q d) r4 ∧ wipeV r4 T = W) :
    lcE (seqI e) tg T yesB f r = .ok (.own (.lst (xs.map q))) r2 := by
  refine (lcE_tup xs D he hh hp hpW hz hc hw hW hr (fun _ => true) q fun d hd => ?_).trans ?_
  · obtain ⟨r2, e1, e0, r4, e2, e3⟩ := ht d hd
    exact ⟨r2, e1, r2, rfl, e0, fun _ => ⟨r4, e2, e3⟩⟩
  · rw [ft]
/-- an iterable whose items change what is held: by a fold -/
theorem lcN_fold {β σ : Type} {nth : En → Nat → Option (Option PyData)} {tg : PyData → En → Option En} {T : List Nat} {f : M Rv} (D : Nat → β → PyData) (E : Nat → σ → List PyData → En → Prop) (F : σ → β → σ × PyData) (all : List β)
    (hn : ∀ s a r i, E i s a r → nth r i = some (all[i]?.map (D i))) (hl : ∀ s a r i, E i s a r → a.length = i)
    (step : ∀ s a r i x, E i s a r → all[i]? = some x → ∃ r1, tg (D i x) (wipeV r T) = some r1 ∧ ∃ r2, M.bnd f frz r1 = .ok (F s x).2 r2 ∧ E (i + 1) (F s x).1 (a ++ [(F s x).2]) (wipeV r2 T)) :
    ∀ (xs : List β) (m i : Nat) (s : σ) (a : List PyData) (r : En), E i s a r → all.drop i = xs → xs.length ≤ m → i ≤ all.length → all.length ≤ sizeLine → ∃ a' s' r', lcN nth tg T yesB f m i a r = .ok a' r' ∧ E all.length s' a' r' ∧ (s', a') = xs.foldl (fun p x => ((F p.1 x).1, p.2 ++ [(F p.1 x).2])) (s, a)
  | [], m, i, s, a, r, h, hd, hm, hle, hz => by
    have hi : all[i]? = none := by
      rw [List.getElem?_eq_none_iff]
      have := congrArg List.length hd
      simp only [List.length_drop, List.length_nil] at this
      omega
    have e : i = all.length := by
      have := List.getElem?_eq_none_iff.mp hi
      omega
    subst e
    refine ⟨a, s, r, ?_, h, rfl⟩
    cases m <;> (unfold lcN; rw [hn s a r _ h, hi]; rfl)
  | x :: xs, 0, i, s, a, r, h, hd, hm, hle, hz => by simp at hm
  | x :: xs, m + 1, i, s, a, r, h, hd, hm, hle, hz => by
    have hi : all[i]? = some x := by
      have := congrArg (·[0]?) hd
      simpa using this
    have hd2 : all.drop (i + 1) = xs := by
      have := congrArg List.tail hd
      simpa using this
    have hl2 := (List.getElem?_eq_some_iff.mp hi).1
    obtain ⟨r1, e1, r2, e2, h3⟩ := step s a r i x h hi
    obtain ⟨a', s', r', e4, e5, e6⟩ := lcN_fold D E F all hn hl step xs m (i + 1) _ _ _ h3 hd2 (by simpa using hm) hl2 hz
    refine ⟨a', s', r', ?_, e5, e6⟩
    unfold lcN
    rw [hn s a r i h, hi]
    have hla := hl s a r i h
    simp only [Option.map_some, e1, show yesB r1 = .ok true r1 from rfl, e2]
    rw [if_pos (by omega)]
    exact e4
theorem fzv_ok {f : M Rv} {r r1 W : En} {d : PyData} {T : List Nat} (h : f r = .ok (.val d) r1) (hw : wipeV r1 T = W) : ∃ r4, M.bnd f frz r = .ok d r4 ∧ wipeV r4 T = W := ⟨r1, val_frz h, hw⟩
theorem fzo_ok {f : M Rv} {r r1 W : En} {ds : List PyData} {T : List Nat} (h : f r = .ok (.own (.lst ds)) r1) (hw : wipeV r1 T = W) : ∃ r4, M.bnd f frz r = .ok (.list ds) r4 ∧ wipeV r4 T = W := ⟨r1, own_frz h, hw⟩
theorem lc_step {tt : M Bool} {f : M Rv} {r r1 W : En} {T : List Nat} {k k' : Bool} {y : PyData} (h : tt r = .ok k r1) (e : k = k') (hw : wipeV r1 T = W) (h2 : k' = true → ∃ r4, M.bnd f frz r1 = .ok y r4 ∧ wipeV r4 T = W) : ∃ r3, tt r = .ok k' r3 ∧ wipeV r3 T = W ∧ (k' = true → ∃ r4, M.bnd f frz r3 = .ok y r4 ∧ wipeV r4 T = W) := by
  subst e
  exact ⟨r1, h, hw, h2⟩
/-! sorted({..}) -/
theorem intsOf_mapI (ns : List Int) : intsOf (ns.map PyData.int) = some ns := by
  induction ns with
  | nil => rfl
  | cons n ns ih => simp [intsOf, ih]
theorem ssE_of {it : M Src} {tg : PyData → En → Option En} {T : List Nat} {tt : M Bool} {f : M Rv} {r r1 : En} {ns : List Int} (h : lcE it tg T tt (intE f) r = .ok (.own (.lst (ns.map PyData.int))) r1) (h1 : ns.length < 4000) (h2 : (sortU ns).length < 64) : ssE it tg T tt f r = .ok (.own (.lst ((sortU ns).map PyData.int))) r1 := by
  unfold lcE M.bnd at h
  unfold ssE M.bnd
  cases e : it r with
  | no => simp only [e] at h; cases h
  | ex z r2 => simp only [e] at h; cases h
  | ok s r2 =>
    simp only [e] at h ⊢
    split at h
    · rename_i hc
      rw [if_pos hc]
      unfold ssP
      split at h
      · cases h
      · cases h
      · rename_i acc r3 e2
        injection h with h3 h4
        injection h3 with h3
        injection h3 with h3
        subst h3
        rw [e2]
        simp only [List.length_map, h1, if_true, intsOf_mapI, h2, h4]
    · cases h
theorem int_ok {f : M Rv} {r r1 W : En} {x : Rv} {k : Int} {T : List Nat} (h : f r = .ok x r1) (p : peek r1 x = some (.int k)) (hw : wipeV r1 T = W) : ∃ r4, M.bnd (intE f) frz r = .ok (.int k) r4 ∧ wipeV r4 T = W := by
  refine ⟨r1, (bnd_ok (?_ : intE f r = .ok (.val (.int k)) r1)).trans rfl, hw⟩
  refine (bnd_ok h).trans ?_
  simp only [p]
theorem intE_go {f : M Rv} {r r1 : En} {x : Rv} {k : Int} (h : f r = .ok x r1) (p : peek r1 x = some (.int k)) : M.bnd (intE f) frz r = .ok (.int k) r1 := by
  refine (bnd_ok (?_ : intE f r = .ok (.val (.int k)) r1)).trans rfl
  refine (bnd_ok h).trans ?_
  simp only [p]
end Mi
namespace Mi
open PySem L2
theorem lcN_inv {β : Type} {nth : En → Nat → Option (Option PyData)} {tg : PyData → En → Option En} {T : List Nat} {f : M Rv} (D : Nat → β → PyData) (I : Nat → List PyData → En → Prop) (all : List β)
    (hn : ∀ i a r, I i a r → nth r i = some (all[i]?.map (D i))) (hl : ∀ i a r, I i a r → a.length = i) (hz : all.length ≤ sizeLine)
    (step : ∀ i a r x, I i a r → all[i]? = some x → ∃ r1, tg (D i x) (wipeV r T) = some r1 ∧ ∃ y r2, M.bnd f frz r1 = .ok y r2 ∧ I (i + 1) (a ++ [y]) (wipeV r2 T)) :
    ∀ (m i : Nat) (a : List PyData) (r : En), I i a r → i ≤ all.length → all.length ≤ i + m → ∃ a' r', lcN nth tg T yesB f m i a r = .ok a' r' ∧ I all.length a' r' := by
  intro m
  induction m with
  | zero =>
    intro i a r h h1 h2
    have e : i = all.length := by omega
    subst e
    unfold lcN
    rw [hn _ a r h, List.getElem?_eq_none_iff.mpr (Nat.le_refl _)]
    exact ⟨a, r, rfl, h⟩
  | succ m ih =>
    intro i a r h h1 h2
    unfold lcN
    rw [hn _ a r h]
    cases e : all[i]? with
    | none =>
      have := List.getElem?_eq_none_iff.mp e
      have e2 : i = all.length := by omega
      subst e2
      exact ⟨a, r, rfl, h⟩
    | some x =>
      obtain ⟨r1, e1, y, r2, e2, h3⟩ := step i a r x h e
      have hlt := (List.getElem?_eq_some_iff.mp e).1
      obtain ⟨a', r', e4, h4⟩ := ih (i + 1) (a ++ [y]) (wipeV r2 T) h3 (by omega) (by omega)
      refine ⟨a', r', ?_, h4⟩
      have hla := hl i a r h
      simp only [Option.map_some, e1, show yesB r1 = .ok true r1 from rfl, e2]
      rw [if_pos (by omega)]
      exact e4
theorem lcE_inv {β : Type} {it : M Src} {s : Src} {tg : PyData → En → Option En} {T : List Nat} {f : M Rv} {r r1 : En} (D : Nat → β → PyData) (I : Nat → List PyData → En → Prop) (all : List β) (hit : it r = .ok s r1) (hc : calm r1 T = true) (h0 : I 0 [] (wipeV r1 T))
    (hn : ∀ i a r, I i a r → s.nth r i = some (all[i]?.map (D i))) (hl : ∀ i a r, I i a r → a.length = i) (hf : all.length ≤ s.fuel) (hz : all.length ≤ sizeLine)
    (step : ∀ i a r x, I i a r → all[i]? = some x → ∃ r1, tg (D i x) (wipeV r T) = some r1 ∧ ∃ y r2, M.bnd f frz r1 = .ok y r2 ∧ I (i + 1) (a ++ [y]) (wipeV r2 T)) :
    ∃ a' r', lcE it tg T yesB f r = .ok (.own (.lst a')) (restV r1 r' T) ∧ I all.length a' r' := by
  obtain ⟨a', r', e1, h1⟩ := lcN_inv D I all hn hl hz step s.fuel 0 [] _ h0 (Nat.zero_le _) (by omega)
  refine ⟨a', r', (bnd_ok hit).trans ?_, h1⟩
  simp only [hc, if_true, e1]
theorem lcE_rngI {e : M Rv} {tg : PyData → En → Option En} {T : List Nat} {f : M Rv} {n : Nat} {r r1 : En} (I : Nat → List PyData → En → Prop) (he : e r = .ok (.val (.int n)) r1) (hn : n ≤ 16777216) (hc : calm r1 T = true) (h0 : I 0 [] (wipeV r1 T)) (hl : ∀ i a r, I i a r → a.length = i)
    (step : ∀ (i : Nat) a r, I i a r → i < n → ∃ r1, tg (.int (i : Int)) (wipeV r T) = some r1 ∧ ∃ y r2, M.bnd f frz r1 = .ok y r2 ∧ I (i + 1) (a ++ [y]) (wipeV r2 T)) :
    ∃ a' r', lcE (rng1 e) tg T yesB f r = .ok (.own (.lst a')) (restV r1 r' T) ∧ I n a' r' := by
  have hit : rng1 e r = .ok ⟨rngNth 0 n, n⟩ r1 := by
    refine (bnd_ok he).trans ?_
    show (if -(2 ^ 62) ≤ (n : Int) ∧ (n : Int) < 2 ^ 62 then (Res.ok (⟨rngNth 0 (n : Int).toNat, (n : Int).toNat⟩ : Src) r1 : Res Src) else .no) = _
    rw [if_pos ⟨by omega, by omega⟩, Int.toNat_natCast]
  have h := lcE_inv (tg := tg) (T := T) (f := f) (fun _ (x : Nat) => .int (x : Int)) I (List.range n) hit hc h0 (fun i a r _ => by
    show rngNth 0 n r i = _
    unfold rngNth
    by_cases h : i < n
    · rw [if_pos h]; simp [h]
    · rw [if_neg h]; simp [h]) hl (by simp) (by simp [sizeLine]; omega) (fun i a r x h hx => by
      have hi : i < n := by have := (List.getElem?_eq_some_iff.mp hx).1; simpa using this
      have : x = i := by have := (List.getElem?_eq_some_iff.mp hx).2; simpa using this.symm
      subst this
      exact step x a r h hi)
  rw [List.length_range] at h
  exact h
end Mi

/-! Rd1.lean -/
set_option Elab.async false
set_option linter.all false
set_option maxRecDepth 100000
/-! redirections by plain data -/
namespace Mi
open PySem L2
def sN (l : List Nat) : Str := ⟨l.toArray⟩
theorem sN_list (l : List Nat) : (sN l).cps.toList = l := rfl
theorem sN_len (l : List Nat) : (sN l).length = l.length := by unfold sN Str.length; simp
theorem sN_inj {a b : List Nat} : sN a = sN b ↔ a = b := by
  constructor
  · intro h
    have := congrArg (fun s : Str => s.cps.toList) h
    simpa [sN] using this
  · intro h; rw [h]
theorem len_sN {l : List Nat} (h : l.length ≤ sizeLine) : gLen (.str (sN l)) = some (.val (.int ((l.length : Nat) : Int))) := by
  show (if (sN l).length ≤ sizeLine then some (vI (sN l).length) else none) = _
  rw [sN_len, if_pos h]
theorem ix_sN {l : List Nat} {i c : Nat} (h : l.length ≤ sizeLine) (e : l[i]? = some c) : gIx (.str (sN l)) (.int ((i : Nat) : Int)) = some (.val (.str (sN [c]))) := by
  show (if (sN l).length ≤ sizeLine then (L2.atI (sN l).cps.toList ((i : Nat) : Int)).map fun c => vS ⟨#[c]⟩ else none) = _
  rw [sN_len, if_pos h, sN_list, L2.atI_nat e]
  rfl
theorem sl_sN {l : List Nat} {i : Nat} (h : l.length ≤ sizeLine) (hi : i ≤ l.length) : gSl (.str (sN l)) (some ((i : Nat) : Int)) none = some (.val (.str (sN (l.drop i)))) := by
  show (if (sN l).length ≤ sizeLine then some (vS (cutS (sN l) (some ((i : Nat) : Int)) none)) else none) = _
  rw [sN_len, if_pos h]
  unfold cutS
  rw [sN_len, sN_list, HT.sIx_nat, HT.sIx_none, Nat.min_eq_left hi, List.take_of_length_le (by rw [List.length_drop]; omega)]
  rfl
theorem add_sN {a b : List Nat} (h : a.length + b.length ≤ sizeLine) : gAdd (.str (sN a)) (.str (sN b)) = some (.val (.str (sN (a ++ b)))) := by
  show (if (sN a).length + (sN b).length ≤ sizeLine then some (vS (sN a ++ sN b)) else none) = _
  rw [sN_len, sN_len, if_pos h]
  congr 3
  show (⟨a.toArray ++ b.toArray⟩ : Str) = _
  unfold sN
  simp
theorem eq_sS (x y : Str) : gEq (.str x) (.str y) = some (.val (.bool (decide (x = y)))) := eq_str x y
theorem ne_sS (x y : Str) : gNe (.str x) (.str y) = some (.val (.bool (!decide (x = y)))) := by
  have := ne_eD (some x) (some y)
  simpa [eD] using this
/-! redirections -/
inductive Wd where
  | cp (m n : Nat)
  | cl (n : Nat)
  | op (n : Nat) (gt : Bool) (nm : List Nat)
  deriving DecidableEq
def Wd.t : Wd → List Nat
  | .cp m n => [48 + n, 62, 38, 48 + m]
  | .cl n => [48 + n, 62, 38, 45]
  | .op n gt nm => (48 + n) :: (if gt then 62 else 60) :: nm
def NmOk (nm : List Nat) : Prop := 1 ≤ nm.length ∧ nm.length ≤ 8 ∧ ∀ c ∈ nm, 97 ≤ c ∧ c ≤ 122
def Wd.Ok : Wd → Prop
  | .cp m n => m < 10 ∧ n < 10
  | .cl n => n < 10
  | .op n _ nm => n < 10 ∧ NmOk nm
abbrev wD (w : Wd) : PyData := .str (sN w.t)
abbrev stepD : Wd → PyData
  | .cp m n => .tuple [.str "copy", .int (m : Int), .int (n : Int)]
  | .cl n => .tuple [.str "close", .int (n : Int)]
  | .op n _ nm => .tuple [.str "open", .int (n : Int), .str (sN nm)]
abbrev newD (i : Nat) : PyData := .tuple [.str "new", .int (i : Int)]
abbrev oldD (i : Nat) : PyData := .tuple [.str "old", .int (i : Int)]
structure Rs where
  ends : List PyData
  ops : List (Bool × List Nat)
  cps : List (Nat × PyData)
def Wd.go (w : Wd) (s : Rs) : Rs := match w with
  | .cp m n => ⟨s.ends.set n (s.ends.getD m .none), s.ops, s.cps ++ [(m, s.ends.getD m .none)]⟩
  | .cl n => ⟨s.ends.set n .none, s.ops, s.cps⟩
  | .op n gt nm => ⟨s.ends.set n (newD s.ops.length), s.ops ++ [(gt, nm)], s.cps⟩
def runW (ws : List Wd) (s : Rs) : Rs := ws.foldl (fun s w => w.go s) s
abbrev opD (o : Bool × List Nat) : PyData := .tuple [.str (sN [if o.1 then 62 else 60]), .str (sN o.2)]
abbrev cpD (c : Nat × PyData) : PyData := .tuple [.int ((c.1 : Nat) : Int), c.2]
theorem go_len (w : Wd) (s : Rs) : (w.go s).ends.length = s.ends.length := by cases w <;> simp [Wd.go]
theorem runW_len (ws : List Wd) : ∀ s : Rs, (runW ws s).ends.length = s.ends.length := by
  induction ws with
  | nil => intro s; rfl
  | cons w ws ih => intro s; exact (ih (w.go s)).trans (go_len w s)
theorem runW_app (ws vs : List Wd) (s : Rs) : runW (ws ++ vs) s = runW vs (runW ws s) := List.foldl_append ..
theorem go_ops (w : Wd) (s : Rs) : (w.go s).ops.length ≤ s.ops.length + 1 := by cases w <;> simp [Wd.go]
theorem go_cps (w : Wd) (s : Rs) : (w.go s).cps.length ≤ s.cps.length + 1 := by cases w <;> simp [Wd.go]
theorem runW_ops (ws : List Wd) : ∀ s : Rs, (runW ws s).ops.length ≤ s.ops.length + ws.length := by
  induction ws with
  | nil => intro s; exact Nat.le_refl _
  | cons w ws ih => intro s; have := ih (w.go s); have := go_ops w s; show (runW ws (w.go s)).ops.length ≤ _; rw [List.length_cons]; omega
theorem runW_cps (ws : List Wd) : ∀ s : Rs, (runW ws s).cps.length ≤ s.cps.length + ws.length := by
  induction ws with
  | nil => intro s; exact Nat.le_refl _
  | cons w ws ih => intro s; have := ih (w.go s); have := go_cps w s; show (runW ws (w.go s)).cps.length ≤ _; rw [List.length_cons]; omega
theorem getD_of {l : List PyData} {m : Nat} (h : m < l.length) : l[m]? = some (l.getD m .none) := by
  rw [List.getD_eq_getElem?_getD, List.getElem?_eq_getElem h]; rfl
end Mi
namespace Mi
open PySem L2
variable {a b c : PyData} {l ds : List PyData}
theorem ix_t0 : gIx (.tuple (a :: l)) (.int 0) = some (.val a) := by
  unfold gIx
  exact congrArg (Option.map Rv.val) (L2.atI_nat (xs := a :: l) (j := 0) rfl)
theorem ix_t1 : gIx (.tuple (a :: b :: l)) (.int 1) = some (.val b) := by
  unfold gIx
  exact congrArg (Option.map Rv.val) (L2.atI_nat (xs := a :: b :: l) (j := 1) rfl)
theorem ix_t2 : gIx (.tuple (a :: b :: c :: l)) (.int 2) = some (.val c) := by
  unfold gIx
  exact congrArg (Option.map Rv.val) (L2.atI_nat (xs := a :: b :: c :: l) (j := 2) rfl)
theorem list_go : gList (.list ds) = some (.own (.lst ds)) := rfl
theorem tuple_go : gTuple (.list ds) = some (.val (.tuple ds)) := rfl
theorem tuplet_go : gTuple (.tuple ds) = some (.val (.tuple ds)) := rfl
theorem ix_nat {ds : List PyData} {i : Nat} (h : i < ds.length) : gIx (.list ds) (.int ((i : Nat) : Int)) = some (.val (ds.getD i .none)) := by
  unfold gIx
  exact congrArg (Option.map Rv.val) (L2.atI_nat (getD_of h))
theorem ixN_go {n k : Nat} (h : k < n) : L2.ixN n ((k : Nat) : Int) = some k := ixN_nat h
end Mi
namespace Mi
open PySem L2
theorem add_sN' {a b : List Nat} (h : Nat.ble (a.length + b.length) 1000 = true) : gAdd (.str (sN a)) (.str (sN b)) = some (.val (.str (sN (a ++ b)))) := add_sN (sz_ok h)
end Mi

/-! Rd2.lean -/
set_option Elab.async false
set_option linter.all false
set_option maxRecDepth 100000
/-! closed runs by a look -/
namespace Mi
open PySem L2
mutual
def dqM : PyData → PyData → Bool
  | .none, .none => true
  | .bool a, .bool b => decide (a = b)
  | .int a, .int b => decide (a = b)
  | .str a, .str b => decide (a = b)
  | .list a, .list b => dqsM a b
  | .tuple a, .tuple b => dqsM a b
  | _, _ => false
def dqsM : List PyData → List PyData → Bool
  | [], [] => true
  | a :: as, b :: bs => dqM a b && dqsM as bs
  | _, _ => false
end
mutual
theorem eqM : ∀ a b : PyData, dqM a b = true → a = b
  | .none, .none, _ => rfl
  | .bool a, .bool b, h => by simp only [dqM, decide_eq_true_eq] at h; rw [h]
  | .int a, .int b, h => by simp only [dqM, decide_eq_true_eq] at h; rw [h]
  | .str a, .str b, h => by simp only [dqM, decide_eq_true_eq] at h; rw [h]
  | .list a, .list b, h => by simp only [dqM] at h; rw [eqsM a b h]
  | .tuple a, .tuple b, h => by simp only [dqM] at h; rw [eqsM a b h]
  | .none, .bool _, h | .none, .int _, h | .none, .str _, h | .none, .list _, h | .none, .tuple _, h | .none, .dict _, h => by simp [dqM] at h
  | .bool _, .none, h | .bool _, .int _, h | .bool _, .str _, h | .bool _, .list _, h | .bool _, .tuple _, h | .bool _, .dict _, h => by simp [dqM] at h
  | .int _, .none, h | .int _, .bool _, h | .int _, .str _, h | .int _, .list _, h | .int _, .tuple _, h | .int _, .dict _, h => by simp [dqM] at h
  | .str _, .none, h | .str _, .bool _, h | .str _, .int _, h | .str _, .list _, h | .str _, .tuple _, h | .str _, .dict _, h => by simp [dqM] at h
  | .list _, .none, h | .list _, .bool _, h | .list _, .int _, h | .list _, .str _, h | .list _, .tuple _, h | .list _, .dict _, h => by simp [dqM] at h
  | .tuple _, .none, h | .tuple _, .bool _, h | .tuple _, .int _, h | .tuple _, .str _, h | .tuple _, .list _, h | .tuple _, .dict _, h => by simp [dqM] at h
  | .dict _, .none, h | .dict _, .bool _, h | .dict _, .int _, h | .dict _, .str _, h | .dict _, .list _, h | .dict _, .tuple _, h | .dict _, .dict _, h => by simp [dqM] at h
theorem eqsM : ∀ a b : List PyData, dqsM a b = true → a = b
  | [], [], _ => rfl
  | a :: as, b :: bs, h => by
    simp only [dqsM, Bool.and_eq_true] at h
    rw [eqM a b h.1, eqsM as bs h.2]
  | [], b :: bs, h => by simp [dqsM] at h
  | a :: as, [], h => by simp [dqsM] at h
end
/-- whether a run ends with this -/
def fqM (x : FR) (d : PyData) : Bool := match x with
  | .ret (.val e) [] => dqM e d
  | _ => false
theorem fqM_eq {x : FR} {d : PyData} (h : fqM x d = true) : x = .ret (.val d) [] := by
  unfold fqM at h
  split at h
  · rw [eqM _ _ h]
  · cases h
end Mi

/-! Rd2b.lean -/
set_option Elab.async false
set_option linter.all false
set_option maxRecDepth 100000
/-! plain data compared -/
namespace Mi
open PySem L2
mutual
def plainB : PyData → Bool
  | .none => true
  | .bool _ => false
  | .int _ => true
  | .str _ => true
  | .list xs => plainsB xs
  | .tuple xs => plainsB xs
  | .dict _ => false
def plainsB : List PyData → Bool
  | [] => true
  | x :: xs => plainB x && plainsB xs
end
mutual
theorem eqv_iff : ∀ d e : PyData, plainB d = true → plainB e = true → (PyData.eqv d e = true ↔ d = e)
  | .none, .none, _, _ => by simp [PyData.eqv]
  | .int a, .int b, _, _ => by simp [PyData.eqv]
  | .str a, .str b, _, _ => by simp [PyData.eqv]
  | .list a, .list b, h, k => by
    simp only [PyData.eqv, PyData.list.injEq]
    exact eqvs_iff a b (by simpa [plainB] using h) (by simpa [plainB] using k)
  | .tuple a, .tuple b, h, k => by
    simp only [PyData.eqv, PyData.tuple.injEq]
    exact eqvs_iff a b (by simpa [plainB] using h) (by simpa [plainB] using k)
  | .bool _, _, h, _ => by simp [plainB] at h
  | .dict _, _, h, _ => by simp [plainB] at h
  | _, .bool _, _, h => by simp [plainB] at h
  | _, .dict _, _, h => by simp [plainB] at h
  | .none, .int _, _, _ | .none, .str _, _, _ | .none, .list _, _, _ | .none, .tuple _, _, _ => by simp [PyData.eqv]
  | .int _, .none, _, _ | .int _, .str _, _, _ | .int _, .list _, _, _ | .int _, .tuple _, _, _ => by simp [PyData.eqv]
  | .str _, .int _, _, _ | .str _, .none, _, _ | .str _, .list _, _, _ | .str _, .tuple _, _, _ => by simp [PyData.eqv]
  | .list _, .int _, _, _ | .list _, .str _, _, _ | .list _, .none, _, _ | .list _, .tuple _, _, _ => by simp [PyData.eqv]
  | .tuple _, .int _, _, _ | .tuple _, .str _, _, _ | .tuple _, .list _, _, _ | .tuple _, .none, _, _ => by simp [PyData.eqv]
theorem eqvs_iff : ∀ d e : List PyData, plainsB d = true → plainsB e = true → (PyData.eqvAll d e = true ↔ d = e)
  | [], [], _, _ => by simp [PyData.eqvAll]
  | x :: xs, y :: ys, h, k => by
    simp only [plainsB, Bool.and_eq_true] at h k
    simp only [PyData.eqvAll, Bool.and_eq_true, List.cons.injEq]
    rw [eqv_iff x y h.1 k.1, eqvs_iff xs ys h.2 k.2]
  | [], _ :: _, _, _ => by simp [PyData.eqvAll]
  | _ :: _, [], _, _ => by simp [PyData.eqvAll]
end
structure OkD (k : Nat) (d : PyData) : Prop where
  plain : plainB d = true
  lay : PyData.canLay0 d = true
  depth : PyData.depth d ≤ k
structure OkDs (k : Nat) (ds : List PyData) : Prop where
  plain : plainsB ds = true
  lay : PyData.canLayAll0 ds = true
  depth : PyData.depthAll ds ≤ k
theorem OkDs.nil {k : Nat} : OkDs k [] := ⟨rfl, by simp [PyData.canLayAll0], by simp [PyData.depthAll]⟩
theorem OkDs.cons {k : Nat} {d : PyData} {ds : List PyData} (h : OkD k d) (h2 : OkDs k ds) : OkDs k (d :: ds) :=
  ⟨by simp [plainsB, h.plain, h2.plain], by simp [PyData.canLayAll0, h.lay, h2.lay], by simp only [PyData.depthAll]; exact Nat.max_le.mpr ⟨h.depth, h2.depth⟩⟩
theorem OkDs.of {k : Nat} : ∀ {ds : List PyData}, (∀ d ∈ ds, OkD k d) → OkDs k ds
  | [], _ => .nil
  | d :: ds, h => .cons (h d List.mem_cons_self) (OkDs.of fun e he => h e (List.mem_cons_of_mem _ he))
theorem OkD.tup {k : Nat} {ds : List PyData} (h : OkDs k ds) : OkD (k + 1) (.tuple ds) := ⟨by simp [plainB, h.plain], by simp [PyData.canLay0, h.lay], by simp only [PyData.depth]; exact Nat.succ_le_succ h.depth⟩
theorem OkD.lst {k : Nat} {ds : List PyData} (h : OkDs k ds) : OkD (k + 1) (.list ds) := ⟨by simp [plainB, h.plain], by simp [PyData.canLay0, h.lay], by simp only [PyData.depth]; exact Nat.succ_le_succ h.depth⟩
theorem OkD.non {k : Nat} : OkD k .none := ⟨rfl, rfl, by simp [PyData.depth]⟩
theorem OkD.int {k : Nat} (i : Int) : OkD k (.int i) := ⟨rfl, rfl, by simp [PyData.depth]⟩
theorem OkD.str {k : Nat} {s : Str} (h : PyData.strOk s = true) : OkD k (.str s) := ⟨rfl, by simp [PyData.canLay0, h], by simp [PyData.depth]⟩
theorem OkD.mono {k l : Nat} {d : PyData} (h : OkD k d) (hl : k ≤ l) : OkD l d := ⟨h.plain, h.lay, Nat.le_trans h.depth hl⟩
theorem OkD.shaped {k : Nat} {d : PyData} (h : OkD k d) (hk : k ≤ 64) : SeqAt.shaped d = true := by
  unfold SeqAt.shaped
  rw [Bool.and_eq_true]
  exact ⟨h.lay, decide_eq_true (Nat.le_trans h.depth hk)⟩
theorem eq_plain {k : Nat} {d e : PyData} (h : OkD k d) (h2 : OkD k e) (hk : k ≤ 64) {b : Bool} (hb : b = true ↔ d = e) : gEq d e = some (.val (.bool b)) := by
  have : eqOk d e = true := by unfold eqOk; rw [h.shaped hk, h2.shaped hk]; simp
  unfold gEq
  rw [if_pos this]
  congr 3
  rw [Bool.eq_iff_iff, eqv_iff d e h.plain h2.plain, hb]
theorem ne_plain {k : Nat} {d e : PyData} (h : OkD k d) (h2 : OkD k e) (hk : k ≤ 64) {b : Bool} (hb : b = true ↔ d = e) : gNe d e = some (.val (.bool (!b))) := by
  have : eqOk d e = true := by unfold eqOk; rw [h.shaped hk, h2.shaped hk]; simp
  unfold gNe
  rw [if_pos this]
  congr 4
  rw [Bool.eq_iff_iff, eqv_iff d e h.plain h2.plain, hb]
mutual
theorem dqM_self : ∀ d : PyData, plainB d = true → dqM d d = true
  | .none, _ => by simp [dqM]
  | .int a, _ => by simp [dqM]
  | .str a, _ => by simp [dqM]
  | .list a, h => by simp only [dqM]; exact dqsM_self a (by simpa [plainB] using h)
  | .tuple a, h => by simp only [dqM]; exact dqsM_self a (by simpa [plainB] using h)
  | .bool _, h => by simp [plainB] at h
  | .dict _, h => by simp [plainB] at h
theorem dqsM_self : ∀ d : List PyData, plainsB d = true → dqsM d d = true
  | [], _ => by simp [dqsM]
  | x :: xs, h => by
    simp only [plainsB, Bool.and_eq_true] at h
    simp only [dqsM, Bool.and_eq_true]
    exact ⟨dqM_self x h.1, dqsM_self xs h.2⟩
end
theorem dqM_iff {d e : PyData} (h : plainB d = true) : dqM d e = true ↔ d = e := ⟨eqM d e, fun q => by rw [← q]; exact dqM_self d h⟩
end Mi

/-! Pf0.lean -/
set_option Elab.async false
set_option linter.all false
set_option maxRecDepth 100000
/-! From evaluators to plain functions: what a plain function gives is what the evaluator gives. -/
namespace Pf
open PySem L2 Mi
def Ok {α : Type} (q : Option α) (P : α → Prop) : Prop := ∀ a, q = some a → P a
variable {α β γ σ τ : Type}
theorem Ok.some {a : α} {P : α → Prop} (h : P a) : Ok (Option.some a) P := fun b e => by cases e; exact h
theorem Ok.none {P : α → Prop} : Ok (Option.none) P := fun b e => by cases e
theorem Ok.bind {q : Option α} {k : α → Option β} {P : α → Prop} {Q : β → Prop} (h : Ok q P) (h2 : ∀ a, P a → Ok (k a) Q) : Ok (q.bind k) Q := fun b e => by
  cases hq : q with
  | none => rw [hq] at e; cases e
  | some a => rw [hq] at e; exact h2 a (h a hq) b e
theorem Ok.bnd {q : Option α} {k : α → Option β} {Q : β → Prop} (h2 : ∀ a, q = Option.some a → Ok (k a) Q) : Ok (q.bind k) Q := Ok.bind (P := fun a => q = Option.some a) (fun _ e => e) h2
theorem Ok.mono {q : Option α} {P Q : α → Prop} (h : ∀ a, P a → Q a) (h2 : Ok q P) : Ok q Q := fun a e => h a (h2 a e)
theorem Ok.ite {c : Bool} {a b : Option α} {Q : α → Prop} (h1 : c = true → Ok a Q) (h2 : c = false → Ok b Q) : Ok (if c = true then a else b) Q := by
  cases c with
  | true => exact h1 rfl
  | false => exact h2 rfl
/-! kinds of data -/
def asI : PyData → Option Int | .int i => some i | _ => none
def asB : PyData → Option Bool | .bool b => some b | _ => none
def asS : PyData → Option Str | .str s => some s | _ => none
def asL : PyData → Option (List PyData) | .list s => some s | _ => none
def asT : PyData → Option (List PyData) | .tuple s => some s | _ => none
theorem asI_eq : ∀ {d : PyData} {i : Int}, asI d = some i → d = .int i
  | .int _, _, h => by injection h with h; rw [h]
  | .none, _, h | .bool _, _, h | .str _, _, h | .list _, _, h | .tuple _, _, h | .dict _, _, h => by cases h
theorem asB_eq : ∀ {d : PyData} {i : Bool}, asB d = some i → d = .bool i
  | .bool _, _, h => by injection h with h; rw [h]
  | .none, _, h | .int _, _, h | .str _, _, h | .list _, _, h | .tuple _, _, h | .dict _, _, h => by cases h
theorem asS_eq : ∀ {d : PyData} {i : Str}, asS d = some i → d = .str i
  | .str _, _, h => by injection h with h; rw [h]
  | .none, _, h | .bool _, _, h | .int _, _, h | .list _, _, h | .tuple _, _, h | .dict _, _, h => by cases h
theorem asL_eq : ∀ {d : PyData} {i : List PyData}, asL d = some i → d = .list i
  | .list _, _, h => by injection h with h; rw [h]
  | .none, _, h | .bool _, _, h | .int _, _, h | .str _, _, h | .tuple _, _, h | .dict _, _, h => by cases h
theorem asT_eq : ∀ {d : PyData} {i : List PyData}, asT d = some i → d = .tuple i
  | .tuple _, _, h => by injection h with h; rw [h]
  | .none, _, h | .bool _, _, h | .int _, _, h | .str _, _, h | .list _, _, h | .dict _, _, h => by cases h
/-! operators -/
def valO (x : Option Rv) : Option PyData := match x with | some (.val d) => some d | _ => none
def ownO (x : Option Rv) : Option (List PyData) := match x with | some (.own (.lst d)) => some d | _ => none
theorem valO_eq {x : Option Rv} {d : PyData} (h : valO x = some d) : x = some (.val d) := by
  unfold valO at h
  split at h
  · injection h with h; rw [h]
  · cases h
theorem ownO_eq {x : Option Rv} {d : List PyData} (h : ownO x = some d) : x = some (.own (.lst d)) := by
  unfold ownO at h
  split at h
  · injection h with h; rw [h]
  · cases h
section
variable {d e : PyData} {i j k : Int} {s t u : Str} {xs ys zs : List PyData} {b c : Bool}
theorem add_I (h1 : asI d = some i) (h2 : asI e = some j) : gAdd d e = some (.val (.int (i + j))) := by rw [asI_eq h1, asI_eq h2]; rfl
theorem sub_I (h1 : asI d = some i) (h2 : asI e = some j) : gSubI d e = some (.val (.int (i - j))) := by rw [asI_eq h1, asI_eq h2]; rfl
def addS (a b : Str) : Option Str := if a.length + b.length ≤ sizeLine then some (a ++ b) else none
theorem add_S (h1 : asS d = some s) (h2 : asS e = some t) (h : addS s t = some u) : gAdd d e = some (.val (.str u)) := by
  rw [asS_eq h1, asS_eq h2]
  show (if s.length + t.length ≤ sizeLine then some (vS (s ++ t)) else none) = _
  unfold addS at h
  split at h
  · rename_i q; rw [if_pos q]; injection h with h; rw [h]
  · cases h
def addL (a b : List PyData) : Option (List PyData) := if a.length + b.length ≤ sizeLine then some (a ++ b) else none
theorem add_L (h1 : asL d = some xs) (h2 : asL e = some ys) (h : addL xs ys = some zs) : gAdd d e = some (.own (.lst zs)) := by
  rw [asL_eq h1, asL_eq h2]
  show (if xs.length + ys.length ≤ sizeLine then some (Rv.own (.lst (xs ++ ys))) else none) = _
  unfold addL at h
  split at h
  · rename_i q; rw [if_pos q]; injection h with h; rw [h]
  · cases h
theorem add_T (h1 : asT d = some xs) (h2 : asT e = some ys) (h : addL xs ys = some zs) : gAdd d e = some (.val (.tuple zs)) := by
  rw [asT_eq h1, asT_eq h2]
  show (if xs.length + ys.length ≤ sizeLine then some (Rv.val (.tuple (xs ++ ys))) else none) = _
  unfold addL at h
  split at h
  · rename_i q; rw [if_pos q]; injection h with h; rw [h]
  · cases h
def mulI (i j : Int) : Option Int := if i.natAbs.log2 + j.natAbs.log2 < 1000000 then some (i * j) else none
theorem mul_I (h1 : asI d = some i) (h2 : asI e = some j) (h : mulI i j = some k) : gMul d e = some (.val (.int k)) := by
  rw [asI_eq h1, asI_eq h2]
  show (if i.natAbs.log2 + j.natAbs.log2 < 1000000 then some (vI (i * j)) else none) = _
  unfold mulI at h
  split at h
  · rename_i q; rw [if_pos q]; injection h with h; rw [h]
  · cases h
def divI (i j : Int) : Option Int := if 0 < j ∧ j.natAbs.log2 < 9000 then some (i / j) else none
theorem div_I (h1 : asI d = some i) (h2 : asI e = some j) (h : divI i j = some k) : gDiv d e = some (.val (.int k)) := by
  rw [asI_eq h1, asI_eq h2]
  show (if 0 < j ∧ j.natAbs.log2 < 9000 then some (vI (i / j)) else none) = _
  unfold divI at h
  split at h
  · rename_i q; rw [if_pos q]; injection h with h; rw [h]
  · cases h
theorem div_k (h1 : asI d = some i) (h2 : asI e = some j) (h : decide (0 < j ∧ j.natAbs.log2 < 9000) = true) : gDiv d e = some (.val (.int (i / j))) := div_I h1 h2 (if_pos (of_decide_eq_true h))
def modI (i j : Int) : Option Int := if 0 < j then some (i % j) else none
theorem mod_I (h1 : asI d = some i) (h2 : asI e = some j) (h : modI i j = some k) : gMod d e = some (.val (.int k)) := by
  rw [asI_eq h1, asI_eq h2]
  show (if 0 < j then some (vI (i % j)) else none) = _
  unfold modI at h
  split at h
  · rename_i q; rw [if_pos q]; injection h with h; rw [h]
  · cases h
theorem mod_k (h1 : asI d = some i) (h2 : asI e = some j) (h : decide (0 < j) = true) : gMod d e = some (.val (.int (i % j))) := mod_I h1 h2 (if_pos (of_decide_eq_true h))
def powI (i j : Int) : Option Int := if 0 ≤ j ∧ ((i.natAbs.log2 : Int) + 1) * j ≤ 1000000 then some (i ^ j.toNat) else none
theorem pow_I (h1 : asI d = some i) (h2 : asI e = some j) (h : powI i j = some k) : gPow d e = some (.val (.int k)) := by
  rw [asI_eq h1, asI_eq h2]
  show (if CPowW i j then some (vI (i ^ j.toNat)) else none) = _
  unfold powI at h
  split at h
  · rename_i q; rw [if_pos (show CPowW i j from q)]; injection h with h; rw [h]
  · cases h
theorem neg_I (h1 : asI d = some i) : gNeg d = some (.val (.int (-i))) := by rw [asI_eq h1]; rfl
theorem lt_I (h1 : asI d = some i) (h2 : asI e = some j) : gLt d e = some (.val (.bool (decide (i < j)))) := by rw [asI_eq h1, asI_eq h2]; rfl
theorem le_I (h1 : asI d = some i) (h2 : asI e = some j) : gLe d e = some (.val (.bool (decide (i ≤ j)))) := by rw [asI_eq h1, asI_eq h2]; rfl
theorem gt_I (h1 : asI d = some i) (h2 : asI e = some j) : gGt d e = some (.val (.bool (decide (j < i)))) := by rw [asI_eq h1, asI_eq h2]; rfl
theorem ge_I (h1 : asI d = some i) (h2 : asI e = some j) : gGe d e = some (.val (.bool (decide (j ≤ i)))) := by rw [asI_eq h1, asI_eq h2]; rfl
def leS (s t : Str) : Bool := !decide (t.cps.toList < s.cps.toList)
theorem le_S (h1 : asS d = some s) (h2 : asS e = some t) : gLeS d e = some (.val (.bool (leS s t))) := by rw [asS_eq h1, asS_eq h2]; rfl
theorem eq_I (h1 : asI d = some i) (h2 : asI e = some j) : gEq d e = some (.val (.bool (decide (i = j)))) := by rw [asI_eq h1, asI_eq h2]; exact eq_int i j
theorem ne_I (h1 : asI d = some i) (h2 : asI e = some j) : gNe d e = some (.val (.bool (!decide (i = j)))) := by rw [asI_eq h1, asI_eq h2]; exact ne_int i j
theorem eq_S (h1 : asS d = some s) (h2 : asS e = some t) : gEq d e = some (.val (.bool (decide (s = t)))) := by rw [asS_eq h1, asS_eq h2]; exact eq_sS s t
theorem ne_S (h1 : asS d = some s) (h2 : asS e = some t) : gNe d e = some (.val (.bool (!decide (s = t)))) := by rw [asS_eq h1, asS_eq h2]; exact ne_sS s t
theorem eq_bool (b c : Bool) : gEq (.bool b) (.bool c) = some (vB (decide (b = c))) := by
  unfold gEq eqOk
  have : PyData.eqv (.bool b) (.bool c) = decide (b = c) := by simp only [PyData.eqv]; rw [Bool.eq_iff_iff]; simp
  rw [this]
  rfl
theorem ne_bool (b c : Bool) : gNe (.bool b) (.bool c) = some (vB (!decide (b = c))) := by
  unfold gNe eqOk
  have : PyData.eqv (.bool b) (.bool c) = decide (b = c) := by simp only [PyData.eqv]; rw [Bool.eq_iff_iff]; simp
  rw [this]
  rfl
theorem eq_B (h1 : asB d = some b) (h2 : asB e = some c) : gEq d e = some (.val (.bool (decide (b = c)))) := by rw [asB_eq h1, asB_eq h2]; exact eq_bool b c
theorem ne_B (h1 : asB d = some b) (h2 : asB e = some c) : gNe d e = some (.val (.bool (!decide (b = c)))) := by rw [asB_eq h1, asB_eq h2]; exact ne_bool b c
def eqO (d e : PyData) : Option Bool := if eqOk d e = true then some (PyData.eqv d e) else none
theorem eq_D (h : eqO d e = some b) : gEq d e = some (.val (.bool b)) := by
  unfold eqO at h
  unfold gEq
  split at h
  · rename_i q; rw [if_pos q]; injection h with h; rw [h]
  · cases h
theorem ne_D (h : eqO d e = some b) : gNe d e = some (.val (.bool (!b))) := by
  unfold eqO at h
  unfold gNe
  split at h
  · rename_i q; rw [if_pos q]; injection h with h; rw [h]
  · cases h
theorem isn_D : gIsN d .none = some (.val (.bool (isNon d))) := rfl
theorem isnt_D : gIsntN d .none = some (.val (.bool (!isNon d))) := rfl
theorem in_D (h : gInB d e = some b) : gIn d e = some (.val (.bool b)) := by unfold gIn; rw [h]; rfl
theorem notin_D (h : gInB d e = some b) : gNotIn d e = some (.val (.bool (!b))) := by unfold gNotIn; rw [h]; rfl
/-- `is True` and the like -/
def ixL (xs : List PyData) (i : Int) : Option PyData := L2.atI xs i
theorem ix_L {v : PyData} (h1 : asL d = some xs) (h2 : asI e = some i) (h : ixL xs i = some v) : gIx d e = some (.val v) := by
  rw [asL_eq h1, asI_eq h2]
  show (L2.atI xs i).map Rv.val = _
  unfold ixL at h
  rw [h]; rfl
theorem ix_T {v : PyData} (h1 : asT d = some xs) (h2 : asI e = some i) (h : ixL xs i = some v) : gIx d e = some (.val v) := by
  rw [asT_eq h1, asI_eq h2]
  show (L2.atI xs i).map Rv.val = _
  unfold ixL at h
  rw [h]; rfl
def ixS (s : Str) (i : Int) : Option Str := if s.length ≤ sizeLine then (L2.atI s.cps.toList i).map fun c => ⟨#[c]⟩ else none
theorem ix_S (h1 : asS d = some s) (h2 : asI e = some i) (h : ixS s i = some t) : gIx d e = some (.val (.str t)) := by
  rw [asS_eq h1, asI_eq h2]
  show (if s.length ≤ sizeLine then (L2.atI s.cps.toList i).map fun c => vS ⟨#[c]⟩ else none) = _
  unfold ixS at h
  split at h
  · rename_i q
    rw [if_pos q]
    cases hq : L2.atI s.cps.toList i with
    | none => rw [hq] at h; cases h
    | some c => rw [hq] at h; injection h with h; rw [← h]; rfl
  · cases h
def ixO (d e : PyData) : Option PyData := valO (gIx d e)
theorem ix_D {v : PyData} (h : ixO d e = some v) : gIx d e = some (.val v) := valO_eq h
def tyO (n : String) (d : PyData) : Option Bool := (tyN d).map fun m => decide (m = n)
theorem ty_D {n : String} (h : tyO n d = some b) : gTyEq n d = some (.val (.bool b)) := by
  unfold tyO at h
  unfold gTyEq
  cases hq : tyN d with
  | none => rw [hq] at h; cases h
  | some m => rw [hq] at h; injection h with h; rw [← h]; rfl
def isiO (n : String) (d : PyData) : Option Bool := (tyN d).map fun m => isN m n
theorem isi_D {n : String} (h : isiO n d = some b) : gIsi n d = some (.val (.bool b)) := by
  unfold isiO at h
  unfold gIsi
  cases hq : tyN d with
  | none => rw [hq] at h; cases h
  | some m => rw [hq] at h; injection h with h; rw [← h]; rfl
def lenS (s : Str) : Option Int := if s.length ≤ sizeLine then some (s.length : Int) else none
theorem len_S (h1 : asS d = some s) (h : lenS s = some i) : gLen d = some (.val (.int i)) := by
  rw [asS_eq h1]
  show (if s.length ≤ sizeLine then some (vI s.length) else none) = _
  unfold lenS at h
  split at h
  · rename_i q; rw [if_pos q]; injection h with h; rw [h]
  · cases h
theorem len_L (h1 : asL d = some xs) : gLen d = some (.val (.int (xs.length : Int))) := by rw [asL_eq h1]; rfl
theorem len_T (h1 : asT d = some xs) : gLen d = some (.val (.int (xs.length : Int))) := by rw [asT_eq h1]; rfl
def lenO (d : PyData) : Option Int := (valO (gLen d)).bind asI
theorem len_D (h : lenO d = some i) : gLen d = some (.val (.int i)) := by
  unfold lenO at h
  cases hq : valO (gLen d) with
  | none => rw [hq] at h; cases h
  | some v => rw [hq] at h; rw [valO_eq hq, asI_eq h]
theorem list_L (h1 : asL d = some xs) : gList d = some (.own (.lst xs)) := by rw [asL_eq h1]; rfl
theorem list_T (h1 : asT d = some xs) : gList d = some (.own (.lst xs)) := by rw [asT_eq h1]; rfl
def listO (d : PyData) : Option (List PyData) := ownO (gList d)
theorem list_D (h : listO d = some xs) : gList d = some (.own (.lst xs)) := ownO_eq h
def listXO (d : PyData) : Option (List PyData) := ownO (gListX d)
theorem listX_D (h : listXO d = some xs) : gListX d = some (.own (.lst xs)) := ownO_eq h
theorem listX_L (h1 : asL d = some xs) : gListX d = some (.own (.lst xs)) := by rw [asL_eq h1]; rfl
theorem tuple_L (h1 : asL d = some xs) : gTuple d = some (.val (.tuple xs)) := by rw [asL_eq h1]; rfl
theorem tuple_T (h1 : asT d = some xs) : gTuple d = some (.val (.tuple xs)) := by rw [asT_eq h1]; rfl
def tupO (d : PyData) : Option (List PyData) := (valO (gTuple d)).bind asT
theorem tuple_D (h : tupO d = some xs) : gTuple d = some (.val (.tuple xs)) := by
  unfold tupO at h
  cases hq : valO (gTuple d) with
  | none => rw [hq] at h; cases h
  | some v => rw [hq] at h; rw [valO_eq hq, asT_eq h]
def strI (i : Int) : Option Str := if i.natAbs.log2 < 1920 then some (toString i) else none
theorem str_I (h1 : asI d = some i) (h : strI i = some s) : gStrI d = some (.val (.str s)) := by
  rw [asI_eq h1]
  show (if i.natAbs.log2 < 1920 then some (vS (toString i)) else none) = _
  unfold strI at h
  split at h
  · rename_i q; rw [if_pos q]; injection h with h; rw [h]
  · cases h
def intS (s : Str) : Option Int := if s.length ≤ 640 then PySem.intText? s else none
theorem int_S (h1 : asS d = some s) (h : intS s = some i) : gIntX d = some (.val (.int i)) := by
  rw [asS_eq h1]
  show (if s.length ≤ 640 then (PySem.intText? s).map vI else none) = _
  unfold intS at h
  split at h
  · rename_i q; rw [if_pos q, h]; rfl
  · cases h
theorem int_B (h1 : asB d = some b) : gIntX d = some (.val (.int (if b = true then 1 else 0))) := by rw [asB_eq h1]; rfl
theorem int_I (h1 : asI d = some i) : gIntX d = some (.val (.int i)) := by rw [asI_eq h1]; rfl
def intO (d : PyData) : Option Int := (valO (gIntX d)).bind asI
theorem int_D (h : intO d = some i) : gIntX d = some (.val (.int i)) := by
  unfold intO at h
  cases hq : valO (gIntX d) with
  | none => rw [hq] at h; cases h
  | some v => rw [hq] at h; rw [valO_eq hq, asI_eq h]
theorem max_I (h1 : asI d = some i) (h2 : asI e = some j) : gMax2 d e = some (.val (.int (max i j))) := by
  rw [asI_eq h1, asI_eq h2]
  show some (vI (if j > i then j else i)) = _
  rw [show (if j > i then j else i) = max i j by omega]
theorem min_I (h1 : asI d = some i) (h2 : asI e = some j) : gMin2 d e = some (.val (.int (min i j))) := by
  rw [asI_eq h1, asI_eq h2]
  show some (vI (if j < i then j else i)) = _
  rw [show (if j < i then j else i) = min i j by omega]
def sumO (xs : List PyData) : Option Int := (intsOf xs).map List.sum
theorem sum_L (h1 : asL d = some xs) (h : sumO xs = some i) : gSum d = some (.val (.int i)) := by
  rw [asL_eq h1]
  show (intsOf xs).map (fun ns => vI ns.sum) = _
  unfold sumO at h
  cases hq : intsOf xs with
  | none => rw [hq] at h; cases h
  | some v => rw [hq] at h; injection h with h; rw [← h]; rfl
def anyO (xs : List PyData) : Option Bool := (boolsOf xs).map fun ns => ns.any id
theorem any_L (h1 : asL d = some xs) (h : anyO xs = some b) : gAny d = some (.val (.bool b)) := by
  rw [asL_eq h1]
  show (boolsOf xs).map (fun ns => vB (ns.any id)) = _
  unfold anyO at h
  cases hq : boolsOf xs with
  | none => rw [hq] at h; cases h
  | some v => rw [hq] at h; injection h with h; rw [← h]; rfl
def allO (xs : List PyData) : Option Bool := (boolsOf xs).map fun ns => ns.all id
theorem all_L (h1 : asL d = some xs) (h : allO xs = some b) : gAll d = some (.val (.bool b)) := by
  rw [asL_eq h1]
  show (boolsOf xs).map (fun ns => vB (ns.all id)) = _
  unfold allO at h
  cases hq : boolsOf xs with
  | none => rw [hq] at h; cases h
  | some v => rw [hq] at h; injection h with h; rw [← h]; rfl
theorem boolsOf_map {β : Type} (f : β → Bool) (xs : List β) : boolsOf (xs.map fun x => .bool (f x)) = some (xs.map f) := by
  induction xs with
  | nil => rfl
  | cons x xs ih => simp [boolsOf, ih]
theorem allO_map {β : Type} (f : β → Bool) (xs : List β) : allO (xs.map fun x => .bool (f x)) = some (xs.all f) := by
  unfold allO; rw [boolsOf_map]; simp
theorem anyO_map {β : Type} (f : β → Bool) (xs : List β) : anyO (xs.map fun x => .bool (f x)) = some (xs.any f) := by
  unfold anyO; rw [boolsOf_map]; simp
def minO (d : PyData) : Option Int := (valO (gMinX d)).bind asI
theorem min_D (h : minO d = some i) : gMinX d = some (.val (.int i)) := by
  unfold minO at h
  cases hq : valO (gMinX d) with
  | none => rw [hq] at h; cases h
  | some v => rw [hq] at h; rw [valO_eq hq, asI_eq h]
def sortO (d : PyData) : Option (List PyData) := ownO (gSortY d)
theorem sort_D (h : sortO d = some xs) : gSortY d = some (.own (.lst xs)) := ownO_eq h
def reprO (d : PyData) : Option Str := if (d.showable && decide (d.shown.length ≤ sizeLine) && decide (d.depth < 60) && !d.hasDict) = true then some d.shown else none
theorem repr_D (h : reprO d = some s) : gRepr d = some (.val (.str s)) := by
  unfold reprO at h
  unfold gRepr
  split at h
  · rename_i q; rw [if_pos q]; injection h with h; rw [h]
  · cases h
theorem rev_L (h1 : asL d = some xs) : gRevL d = some (.own (.lst xs.reverse)) := by rw [asL_eq h1]; rfl
theorem sl_L {lo hi : Option Int} (h1 : asL d = some xs) : gSl d lo hi = some (.own (.lst (cutD xs lo hi))) := by rw [asL_eq h1]; rfl
theorem sl_T {lo hi : Option Int} (h1 : asT d = some xs) : gSl d lo hi = some (.val (.tuple (cutD xs lo hi))) := by rw [asT_eq h1]; rfl
def slS (s : Str) (lo hi : Option Int) : Option Str := if s.length ≤ sizeLine then some (cutS s lo hi) else none
theorem sl_S {lo hi : Option Int} (h1 : asS d = some s) (h : slS s lo hi = some t) : gSl d lo hi = some (.val (.str t)) := by
  rw [asS_eq h1]
  show (if s.length ≤ sizeLine then some (vS (cutS s lo hi)) else none) = _
  unfold slS at h
  split at h
  · rename_i q; rw [if_pos q]; injection h with h; rw [h]
  · cases h
def slO (d : PyData) (lo hi : Option Int) : Option PyData := valO (gSl d lo hi)
theorem sl_D {lo hi : Option Int} {v : PyData} (h : slO d lo hi = some v) : gSl d lo hi = some (.val v) := valO_eq h
def cntO (xs : List PyData) (d : PyData) : Option Int := if (xs.all flatD && flatD d) = true then some ((xs.countP fun z => PyData.eqv z d : Nat) : Int) else none
theorem cnt_L (h1 : asL d = some xs) (h : cntO xs e = some i) : gCnt d [e] = some (.val (.int i)) := by
  rw [asL_eq h1]
  unfold cntO at h
  show (if (xs.all flatD && flatD e) = true then some (vI (xs.countP fun z => PyData.eqv z e : Nat)) else none) = _
  split at h
  · rename_i q; rw [if_pos q]; injection h with h; rw [h]
  · cases h
/-! what changes a list -/
def appL (xs : List PyData) (d : PyData) : Option (List PyData) := if xs.length < sizeLine then some (xs ++ [d]) else none
theorem app_L (h : appL xs d = some ys) : uApp xs [d] = some (ys, .none) := by
  unfold appL at h
  show (if xs.length < sizeLine then some (xs ++ [d], PyData.none) else none) = _
  split at h
  · rename_i q; rw [if_pos q]; injection h with h; rw [h]
  · cases h
def extL (xs ys : List PyData) : Option (List PyData) := addL xs ys
theorem ext_L (h1 : asL d = some ys) (h : extL xs ys = some zs) : uExt xs [d] = some (zs, .none) := by
  rw [asL_eq h1]
  unfold extL addL at h
  show (if xs.length + ys.length ≤ sizeLine then some (xs ++ ys, PyData.none) else none) = _
  split at h
  · rename_i q; rw [if_pos q]; injection h with h; rw [h]
  · cases h
def popL (xs : List PyData) (i : Int) : Option (PyData × List PyData) := if -(2 ^ 63) ≤ i ∧ i < 2 ^ 63 then (ixN xs.length i).bind fun k => xs[k]?.map fun e => (e, xs.eraseIdx k) else none
theorem pop_L {z : PyData × List PyData} (h1 : asI d = some i) (h : popL xs i = some z) : uPop xs [d] = some (z.2, z.1) := by
  rw [asI_eq h1]
  unfold popL at h
  show (if -(2 ^ 63) ≤ i ∧ i < 2 ^ 63 then (ixN xs.length i).bind fun k => xs[k]?.map fun e => (xs.eraseIdx k, e) else none) = _
  split at h
  · rename_i q
    rw [if_pos q]
    cases h1 : ixN xs.length i with
    | none => rw [h1] at h; cases h
    | some n =>
      rw [h1] at h
      cases h2 : xs[n]? with
      | none => simp [h2] at h
      | some v => simp [h2] at h; subst h; simp [h2]
  · cases h
def pop0L (xs : List PyData) : Option (PyData × List PyData) := xs[xs.length - 1]?.map fun e => (e, xs.dropLast)
theorem pop0_L {z : PyData × List PyData} (h : pop0L xs = some z) : uPop0 xs [] = some (z.2, z.1) := by
  unfold pop0L at h
  show xs[xs.length - 1]?.map (fun e => (xs.dropLast, e)) = _
  cases h2 : xs[xs.length - 1]? with
  | none => rw [h2] at h; cases h
  | some v => rw [h2] at h; injection h with h; subst h; rfl
theorem rev0_L : uRev xs [] = some (xs.reverse, .none) := rfl
theorem clr0_L : uClr xs [] = some ([], .none) := rfl
def setL (xs : List PyData) (i : Int) (d : PyData) : Option (List PyData) := (ixN xs.length i).map fun n => xs.set n d
theorem setL_eq (h : setL xs i d = some ys) : ∃ n, ixN xs.length i = some n ∧ xs.set n d = ys := by
  unfold setL at h
  cases h1 : ixN xs.length i with
  | none => rw [h1] at h; cases h
  | some n => rw [h1] at h; injection h with h; exact ⟨n, rfl, h⟩
/-- a tuple taken apart -/
def unpO (n : Nat) (d : PyData) : Option (List PyData) := match d with
  | .tuple ds => if ds.length = n then some ds else none
  | _ => none
def unp2 (d : PyData) : Option (PyData × PyData) := match d with
  | .tuple [a, b] => some (a, b)
  | _ => none
def unp3 (d : PyData) : Option (PyData × PyData × PyData) := match d with
  | .tuple [a, b, c] => some (a, b, c)
  | _ => none
def unp4 (d : PyData) : Option (PyData × PyData × PyData × PyData) := match d with
  | .tuple [a, b, c, e] => some (a, b, c, e)
  | _ => none
theorem unp2_eq : ∀ {d : PyData} {z : PyData × PyData}, unp2 d = some z → d = .tuple [z.1, z.2]
  | .tuple [a, b], z, h => by injection h with h; rw [← h]
  | .tuple [], z, h | .tuple [_], z, h | .tuple (_ :: _ :: _ :: _), z, h => by cases h
  | .none, _, h | .bool _, _, h | .int _, _, h | .str _, _, h | .list _, _, h | .dict _, _, h => by cases h
theorem unp3_eq : ∀ {d : PyData} {z : PyData × PyData × PyData}, unp3 d = some z → d = .tuple [z.1, z.2.1, z.2.2]
  | .tuple [a, b, c], z, h => by injection h with h; rw [← h]
  | .tuple [], z, h | .tuple [_], z, h | .tuple [_, _], z, h | .tuple (_ :: _ :: _ :: _ :: _), z, h => by cases h
  | .none, _, h | .bool _, _, h | .int _, _, h | .str _, _, h | .list _, _, h | .dict _, _, h => by cases h
theorem unp4_eq : ∀ {d : PyData} {z : PyData × PyData × PyData × PyData}, unp4 d = some z → d = .tuple [z.1, z.2.1, z.2.2.1, z.2.2.2]
  | .tuple [a, b, c, e], z, h => by injection h with h; rw [← h]
  | .tuple [], z, h | .tuple [_], z, h | .tuple [_, _], z, h | .tuple [_, _, _], z, h | .tuple (_ :: _ :: _ :: _ :: _ :: _), z, h => by cases h
  | .none, _, h | .bool _, _, h | .int _, _, h | .str _, _, h | .list _, _, h | .dict _, _, h => by cases h
def unl2 (xs : List PyData) : Option (PyData × PyData) := match xs with
  | [a, b] => some (a, b)
  | _ => none
def unl3 (xs : List PyData) : Option (PyData × PyData × PyData) := match xs with
  | [a, b, c] => some (a, b, c)
  | _ => none
theorem unl2_eq : ∀ {xs : List PyData} {z : PyData × PyData}, unl2 xs = some z → xs = [z.1, z.2]
  | [a, b], z, h => by injection h with h; rw [← h]
  | [], z, h | [_], z, h | (_ :: _ :: _ :: _), z, h => by cases h
theorem unl3_eq : ∀ {xs : List PyData} {z : PyData × PyData × PyData}, unl3 xs = some z → xs = [z.1, z.2.1, z.2.2]
  | [a, b, c], z, h => by injection h with h; rw [← h]
  | [], z, h | [_], z, h | [_, _], z, h | (_ :: _ :: _ :: _ :: _), z, h => by cases h
def truO (d : PyData) : Option Bool := truthOf d
end
end Pf

/-! Pf1.lean -/
set_option Elab.async false
set_option linter.all false
set_option maxRecDepth 100000
/-! statements, loops, comprehensions -/
namespace Pf
open PySem L2 Mi
variable {α β γ σ τ : Type} {r r1 r2 : En} {o : Out} {s1 s2 A B f g : Stm} {Q : α → Out → Prop} {t : M Bool} {c : Bool}
/-- how a def ends -/
def Fi (b : Bool) (o : Out) (fr : FR) : Prop := Mi.finish o = fr ∧ (b = true → ∃ x r, o = .rt x r)
def Nx (o : Out) (P : En → Prop) : Prop := ∃ r', o = .nx r' ∧ P r'
def Mx (Φ : τ → FR) (Sh : σ → En → Prop) (e : Except τ σ) (o : Out) : Prop := match e with
  | .ok s => Nx o (Sh s)
  | .error t => Fi true o (Φ t)
theorem Fi.weak {fr : FR} (h : Fi true o fr) (b : Bool) : Fi b o fr := ⟨h.1, fun _ => h.2 rfl⟩
theorem Nx.of {P : En → Prop} {r' : En} (h : o = .nx r') (p : P r') : Nx o P := ⟨r', h, p⟩
theorem fi_ret {b : Bool} {e : M Rv} {x : Rv} {fr : FR} (h : e r = .ok x r1) (h2 : Mi.finish (.rt x r1) = fr) : Fi b (retS e r) fr := by
  rw [ret_go h]
  exact ⟨h2, fun _ => ⟨x, r1, rfl⟩⟩
theorem fi_retN {b : Bool} {fr : FR} (h2 : FR.ret (.val .none) r.os = fr) : Fi b (retN r) fr := ⟨h2, fun _ => ⟨_, _, rfl⟩⟩
theorem fi_end {fr : FR} (h : s1 r = .nx r1) (h2 : FR.ret (.val .none) r1.os = fr) : Fi false (s1 r) fr := by
  rw [h]
  exact ⟨h2, fun q => by cases q⟩
theorem ok_seq {q : Option α} (e : s1 r = .nx r1) (h : Ok q fun a => Q a (s2 r1)) : Ok q fun a => Q a (seqS s1 s2 r) := by
  rw [seq_nx e]; exact h
/-- a statement that returns, whatever stands behind it -/
theorem seq_fi {b : Bool} {fr : FR} (h : Fi true (s1 r) fr) : Fi b (seqS s1 s2 r) fr := by
  obtain ⟨h1, h2⟩ := h
  obtain ⟨x, r1, e⟩ := h2 rfl
  rw [seq_rt e]
  rw [e] at h1
  exact ⟨h1, fun _ => ⟨x, r1, rfl⟩⟩
/-- one statement gives a state, the others go on from there -/
theorem ok_step {q : Option σ} {k : σ → Option α} {Sh : σ → En → Prop} (h : Ok q fun s => Nx (s1 r) (Sh s)) (h2 : ∀ s r1, Sh s r1 → Ok (k s) fun a => Q a (s2 r1)) : Ok (q.bind k) fun a => Q a (seqS s1 s2 r) :=
  Ok.bind h fun s ⟨r1, e, p⟩ => ok_seq e (h2 s r1 p)
/-- the same for the last statement of a block -/
theorem ok_last {q : Option σ} {k : σ → Option α} {Sh : σ → En → Prop} (h : Ok q fun s => Nx (s1 r) (Sh s)) (h2 : ∀ s r1, Sh s r1 → Ok (k s) fun a => Q a (.nx r1)) : Ok (q.bind k) fun a => Q a (s1 r) :=
  Ok.bind h fun s ⟨r1, e, p⟩ => by rw [e]; exact h2 s r1 p
theorem fi_nx {fr : FR} (h2 : FR.ret (.val .none) r.os = fr) : Fi false (.nx r) fr := ⟨h2, fun q => by cases q⟩
/-- an early return, or on -/
def exO (e : Except τ σ) (k : σ → Option τ) : Option τ := match e with
  | .ok s => k s
  | .error t => some t
def exM {ρ : Type} (e : Except τ σ) (k : σ → Option (Except τ ρ)) : Option (Except τ ρ) := match e with
  | .ok s => k s
  | .error t => some (.error t)
theorem ok_mix {b : Bool} {q : Option (Except τ σ)} {k : σ → Option τ} {Φ : τ → FR} {Sh : σ → En → Prop} (h : Ok q fun e => Mx Φ Sh e (s1 r)) (h2 : ∀ s r1, Sh s r1 → Ok (k s) fun t => Fi b (s2 r1) (Φ t)) : Ok (q.bind fun e => exO e k) fun t => Fi b (seqS s1 s2 r) (Φ t) :=
  Ok.bind h fun e p => by
    cases e with
    | ok s => obtain ⟨r1, e, p⟩ := p; exact ok_seq (Q := fun t o => Fi b o (Φ t)) e (h2 s r1 p)
    | error t => exact Ok.some (seq_fi p)
theorem ok_mixM {ρ : Type} {q : Option (Except τ σ)} {k : σ → Option (Except τ ρ)} {Φ : τ → FR} {Sh : σ → En → Prop} {Sg : ρ → En → Prop} (h : Ok q fun e => Mx Φ Sh e (s1 r)) (h2 : ∀ s r1, Sh s r1 → Ok (k s) fun t => Mx Φ Sg t (s2 r1)) : Ok (q.bind fun e => exM e k) fun t => Mx Φ Sg t (seqS s1 s2 r) :=
  Ok.bind h fun e p => by
    cases e with
    | ok s => obtain ⟨r1, e, p⟩ := p; exact ok_seq (Q := fun t o => Mx Φ Sg t o) e (h2 s r1 p)
    | error t => exact Ok.some (show Fi true _ _ from seq_fi p)
/-- the same for the last statement of a def -/
theorem ok_mixL {q : Option (Except τ σ)} {k : σ → Option τ} {Φ : τ → FR} {Sh : σ → En → Prop} (h : Ok q fun e => Mx Φ Sh e (s1 r)) (h2 : ∀ s r1, Sh s r1 → Ok (k s) fun t => Fi false (.nx r1) (Φ t)) : Ok (q.bind fun e => exO e k) fun t => Fi false (s1 r) (Φ t) :=
  Ok.bind h fun e p => by
    cases e with
    | ok s => obtain ⟨r1, e, p⟩ := p; rw [e]; exact h2 s r1 p
    | error t => exact Ok.some (p.weak false)
theorem ok_mixML {ρ : Type} {q : Option (Except τ σ)} {k : σ → Option (Except τ ρ)} {Φ : τ → FR} {Sh : σ → En → Prop} {Sg : ρ → En → Prop} (h : Ok q fun e => Mx Φ Sh e (s1 r)) (h2 : ∀ s r1, Sh s r1 → Ok (k s) fun t => Mx Φ Sg t (.nx r1)) : Ok (q.bind fun e => exM e k) fun t => Mx Φ Sg t (s1 r) :=
  Ok.bind h fun e p => by
    cases e with
    | ok s => obtain ⟨r1, e, p⟩ := p; rw [e]; exact h2 s r1 p
    | error t => exact Ok.some p
/-! if -/
theorem ok_if {q1 q2 : Option α} (h : t r = .ok c r1) (h1 : c = true → Ok q1 fun a => Q a (A r1)) (h2 : c = false → Ok q2 fun a => Q a (B r1)) : Ok (if c = true then q1 else q2) fun a => Q a (ifS t A B r) := by
  cases c with
  | true => rw [if_T h]; exact h1 rfl
  | false => rw [if_F h]; exact h2 rfl
/-- the first way returns -/
theorem ok_ifR {b : Bool} {q1 q2 : Option τ} {Φ : τ → FR} (h : t r = .ok c r1) (h1 : c = true → Ok q1 fun a => Fi true (A r1) (Φ a)) (h2 : c = false → Ok q2 fun a => Fi b (seqS B s2 r1) (Φ a)) : Ok (if c = true then q1 else q2) fun a => Fi b (seqS (ifS t A B) s2 r) (Φ a) := by
  cases c with
  | true =>
    refine Ok.mono (fun a p => seq_fi ?_) (h1 rfl)
    rw [if_T h]; exact p
  | false =>
    refine Ok.mono (fun a p => ?_) (h2 rfl)
    unfold seqS at p ⊢
    rw [if_F h]; exact p
theorem ok_ifRn {b : Bool} {q1 q2 : Option τ} {Φ : τ → FR} (h : t r = .ok c r1) (h1 : c = true → Ok q1 fun a => Fi true (A r1) (Φ a)) (h2 : c = false → Ok q2 fun a => Fi b (s2 r1) (Φ a)) : Ok (if c = true then q1 else q2) fun a => Fi b (seqS (ifS t A nxS) s2 r) (Φ a) := ok_ifR h h1 h2
/-- the second way returns -/
theorem ok_ifL {b : Bool} {q1 q2 : Option τ} {Φ : τ → FR} (h : t r = .ok c r1) (h1 : c = true → Ok q1 fun a => Fi b (seqS A s2 r1) (Φ a)) (h2 : c = false → Ok q2 fun a => Fi true (B r1) (Φ a)) : Ok (if c = true then q1 else q2) fun a => Fi b (seqS (ifS t A B) s2 r) (Φ a) := by
  cases c with
  | true =>
    refine Ok.mono (fun a p => ?_) (h1 rfl)
    unfold seqS at p ⊢
    rw [if_T h]; exact p
  | false =>
    refine Ok.mono (fun a p => seq_fi ?_) (h2 rfl)
    rw [if_F h]; exact p
theorem ok_ifX {b : Bool} {q1 q2 : Option τ} {Φ : τ → FR} (h : t r = .ok c r1) (h1 : c = true → Ok q1 fun a => Fi true (A r1) (Φ a)) (h2 : c = false → Ok q2 fun a => Fi true (B r1) (Φ a)) : Ok (if c = true then q1 else q2) fun a => Fi b (seqS (ifS t A B) s2 r) (Φ a) := by
  cases c with
  | true =>
    refine Ok.mono (fun a p => seq_fi ?_) (h1 rfl)
    rw [if_T h]; exact p
  | false =>
    refine Ok.mono (fun a p => seq_fi ?_) (h2 rfl)
    rw [if_F h]; exact p
/-! where items come from -/
structure Its (it : M Src) (r r2 : En) (items : List β) (D : β → PyData) (Kp : En → Prop) : Prop where
  ex : ∃ src, it r = .ok src r2 ∧ items.length ≤ src.fuel ∧ ∀ r', Kp r' → ∀ i, src.nth r' i = some (items[i]?.map D)
def Held (y : Rv) (d : PyData) (r : En) : Prop := peek r y = some d
theorem its_seq {e : M Rv} {x y : Rv} {xs : List PyData} (he : e r = .ok x r1) (hh : hold x r1 = .ok y r2) (hp : peek r2 y = some (.list xs)) : Its (seqI e) r r2 xs id (Held y (.list xs)) := by
  refine ⟨⟨lstNth y, xs.length⟩, seq_run he hh hp, Nat.le_refl _, fun r' h i => ?_⟩
  show lstNth y r' i = _
  unfold lstNth
  rw [show peek r' y = _ from h]
  simp
theorem its_tup {e : M Rv} {x y : Rv} {xs : List PyData} (he : e r = .ok x r1) (hh : hold x r1 = .ok y r2) (hp : peek r2 y = some (.tuple xs)) : Its (seqI e) r r2 xs id (Held y (.tuple xs)) := by
  refine ⟨⟨tupNth y, xs.length⟩, tup_run he hh hp, Nat.le_refl _, fun r' h i => ?_⟩
  show tupNth y r' i = _
  unfold tupNth
  rw [show peek r' y = _ from h]
  simp
theorem its_rng {e : M Rv} {x : Rv} {k : Int} (he : e r = .ok x r1) (hp : peek r1 x = some (.int k)) (hk : decide (k < 2 ^ 62) = true) (hk2 : decide (-(2 ^ 62) ≤ k) = true) : Its (rng1 e) r r1 (List.range k.toNat) (fun (i : Nat) => .int (i : Int)) (fun _ => True) := by
  refine ⟨⟨rngNth 0 k.toNat, k.toNat⟩, ?_, by simp, fun r' _ i => ?_⟩
  · refine (bnd_ok he).trans ?_
    simp only [hp]
    rw [if_pos ⟨of_decide_eq_true hk2, of_decide_eq_true hk⟩]
  · show rngNth 0 k.toNat r' i = _
    unfold rngNth
    by_cases h : i < k.toNat
    · rw [if_pos h]; simp [h]
    · rw [if_neg h]; simp [h]
/-- range(k), k not written: within the machine's bounds -/
def rngO (k : Int) : Option (List Nat) := if k < 2 ^ 62 then (if -(2 ^ 62) ≤ k then some (List.range k.toNat) else none) else none
theorem its_rngO {e : M Rv} {x : Rv} {k : Int} {ns : List Nat} (he : e r = .ok x r1) (hp : peek r1 x = some (.int k)) (h : rngO k = some ns) : Its (rng1 e) r r1 ns (fun (i : Nat) => .int (i : Int)) (fun _ => True) := by
  unfold rngO at h
  split at h
  · rename_i q
    split at h
    · rename_i q2
      injection h with h; subst h
      exact its_rng he hp (decide_eq_true q) (decide_eq_true q2)
    · cases h
  · cases h
def rng2O (j k : Int) : Option (List Int) := if (-(2 ^ 62) ≤ j ∧ j < 2 ^ 62) ∧ -(2 ^ 62) ≤ k ∧ k < 2 ^ 62 then some ((List.range (k - j).toNat).map fun i => j + (i : Nat)) else none
theorem its_rng2O {e f : M Rv} {x y : Rv} {j k : Int} {ns : List Int} (he : e r = .ok x r1) (hf : f r1 = .ok y r2) (hp : peek r2 x = some (.int j)) (hq : peek r2 y = some (.int k)) (h : rng2O j k = some ns) : Its (rng2 e f) r r2 ns (fun (i : Int) => .int i) (fun _ => True) := by
  unfold rng2O at h
  split at h
  · rename_i q
    injection h with h; subst h
    refine ⟨⟨rngNth j (k - j).toNat, (k - j).toNat⟩, ?_, by simp, fun r' _ i => ?_⟩
    · refine (bnd_ok he).trans ((bnd_ok hf).trans ?_)
      simp only [hp, hq]
      rw [if_pos q]
    · show rngNth j (k - j).toNat r' i = _
      unfold rngNth
      by_cases h : i < (k - j).toNat
      · rw [if_pos h]; simp [h]
      · rw [if_neg h]; simp [h]
  · cases h
def rngDO (j k : Int) : Option (List Int) := if (-(2 ^ 62) ≤ j ∧ j < 2 ^ 62) ∧ -(2 ^ 62) ≤ k ∧ k < 2 ^ 62 then some ((List.range (j - k).toNat).map fun i => j - (i : Nat)) else none
theorem its_rngDO {e f g : M Rv} {r3 : En} {x y z : Rv} {j k : Int} {ns : List Int} (he : e r = .ok x r1) (hf : f r1 = .ok y r2) (hg : g r2 = .ok z r3) (hp : peek r3 x = some (.int j)) (hq : peek r3 y = some (.int k)) (hz : peek r3 z = some (.int (-1))) (h : rngDO j k = some ns) : Its (rngD e f g) r r3 ns (fun (i : Int) => .int i) (fun _ => True) := by
  unfold rngDO at h
  split at h
  · rename_i q
    injection h with h; subst h
    refine ⟨⟨rngDn j (j - k).toNat, (j - k).toNat⟩, ?_, by simp, fun r' _ i => ?_⟩
    · refine (bnd_ok he).trans ((bnd_ok hf).trans ((bnd_ok hg).trans ?_))
      simp only [hp, hq, hz]
      rw [if_pos ⟨trivial, q⟩]
    · show rngDn j (j - k).toNat r' i = _
      unfold rngDn
      by_cases h : i < (j - k).toNat
      · rw [if_pos h]; simp [h]; omega
      · rw [if_neg h]; simp [h]
  · cases h
/-- enumerate -/
def enuL (xs : List PyData) : List (PyData × Nat) := xs.zipIdx
def enuD (p : PyData × Nat) : PyData := .tuple [.int (p.2 : Int), p.1]
theorem its_enu {e : M Rv} {x y : Rv} {xs : List PyData} (he : e r = .ok x r1) (hh : hold x r1 = .ok y r2) (hp : peek r2 y = some (.list xs)) : Its (enuI e) r r2 (enuL xs) enuD (Held y (.list xs)) := by
  refine ⟨⟨enuNth y, xs.length⟩, enu_run he hh hp, by simp [enuL], fun r' h i => ?_⟩
  show enuNth y r' i = _
  unfold enuNth
  rw [show peek r' y = _ from h]
  simp only [enuL, List.getElem?_zipIdx, Option.map_map]
  congr 1
  cases xs[i]? <;> simp [enuD]
def zipD (p : PyData × PyData) : PyData := .tuple [p.1, p.2]
theorem zip_get {xs ys : List PyData} {i : Nat} : (xs.zip ys)[i]?.map zipD = (match xs[i]?, ys[i]? with
      | some d, some e => some (.tuple [d, e])
      | _, _ => none) := by
  simp only [List.getElem?_zip_eq_some, List.zip]
  cases e1 : xs[i]? with
  | none => simp [List.getElem?_zipWith, e1]
  | some a => cases e2 : ys[i]? with
    | none => simp [List.getElem?_zipWith, e1, e2]
    | some b => simp [List.getElem?_zipWith, e1, e2, zipD]
theorem its_zip {e f : M Rv} {r3 r4 : En} {x x1 y y1 : Rv} {xs ys : List PyData} (h1 : e r = .ok x r1) (h2 : hold x r1 = .ok x1 r2) (h3 : f r2 = .ok y r3) (h4 : hold y r3 = .ok y1 r4) (p1 : peek r4 x1 = some (.list xs)) (p2 : peek r4 y1 = some (.list ys)) :
    Its (zipI e f) r r4 (xs.zip ys) zipD (fun r => Held x1 (.list xs) r ∧ Held y1 (.list ys) r) := by
  refine ⟨⟨zipNth x1 y1, min xs.length ys.length⟩, ?_, by simp, fun r' h i => ?_⟩
  · refine (bnd_ok h1).trans ((bnd_ok h2).trans ((bnd_ok h3).trans ((bnd_ok h4).trans ?_)))
    simp only [p1, p2]
  · show zipNth x1 y1 r' i = _
    unfold zipNth
    rw [show peek r' x1 = _ from h.1, show peek r' y1 = _ from h.2, zip_get]
    all_goals rfl
theorem its_zipT {e f : M Rv} {r3 r4 : En} {x x1 y y1 : Rv} {xs ys : List PyData} (h1 : e r = .ok x r1) (h2 : hold x r1 = .ok x1 r2) (h3 : f r2 = .ok y r3) (h4 : hold y r3 = .ok y1 r4) (p1 : peek r4 x1 = some (.tuple xs)) (p2 : peek r4 y1 = some (.tuple ys)) :
    Its (zipI e f) r r4 (xs.zip ys) zipD (fun r => Held x1 (.tuple xs) r ∧ Held y1 (.tuple ys) r) := by
  refine ⟨⟨zipTh x1 y1, min xs.length ys.length⟩, ?_, by simp, fun r' h i => ?_⟩
  · refine (bnd_ok h1).trans ((bnd_ok h2).trans ((bnd_ok h3).trans ((bnd_ok h4).trans ?_)))
    simp only [p1, p2]
  · show zipTh x1 y1 r' i = _
    unfold zipTh
    rw [show peek r' x1 = _ from h.1, show peek r' y1 = _ from h.2, zip_get]
    all_goals rfl
/-- the signs of a text -/
theorem its_str {e : M Rv} {x : Rv} {z : Str} (he : e r = .ok x r1) (hp : peek r1 x = some (.str z)) : Its (sqI e) r r1 z.cps.toList (fun c => .str ⟨#[c]⟩) (fun _ => True) := by
  refine ⟨⟨strNth z, z.cps.toList.length⟩, ?_, Nat.le_refl _, fun r' _ i => rfl⟩
  unfold sqI
  rw [he]
  simp only [hp]
/-! loops -/
def foldO (F : σ → β → Option σ) : List β → σ → Option σ
  | [], s => some s
  | x :: xs, s => (F s x).bind fun s => foldO F xs s
def foldXO (F : σ → β → Option (Except τ σ)) : List β → σ → Option (Except τ σ)
  | [], s => some (.ok s)
  | x :: xs, s => (F s x).bind fun e => match e with
    | .ok s => foldXO F xs s
    | .error t => some (.error t)
theorem nx_forN {nth : En → Nat → Option (Option PyData)} {tg : PyData → En → Option En} {bd : Stm} {all : List β} {D : β → PyData} {Kp : En → Prop} {Sh : σ → En → Prop} {F : σ → β → Option σ} (hn : ∀ r', Kp r' → ∀ i, nth r' i = some (all[i]?.map D)) (hk : ∀ s r, Sh s r → Kp r)
    (step : ∀ s x r, Sh s r → Ok (F s x) fun s' => ∃ r1, tg (D x) r = some r1 ∧ Nx (bd r1) (Sh s')) :
    ∀ (xs : List β) (m i : Nat) (s : σ) (r : En), Sh s r → all.drop i = xs → xs.length ≤ m → Ok (foldO F xs s) fun s' => Nx (forN nth tg bd m i r) (Sh s')
  | [], m, i, s, r, h, hd, hm => by
    have hi : all[i]? = none := by
      rw [List.getElem?_eq_none_iff]
      have := congrArg List.length hd
      simp only [List.length_drop, List.length_nil] at this
      omega
    refine Ok.some ⟨r, ?_, h⟩
    cases m <;> (unfold forN; rw [hn r (hk s r h), hi]; rfl)
  | x :: xs, 0, i, s, r, h, hd, hm => by simp at hm
  | x :: xs, m + 1, i, s, r, h, hd, hm => by
    have hi : all[i]? = some x := by
      have := congrArg (·[0]?) hd
      simpa using this
    have hd2 : all.drop (i + 1) = xs := by
      have := congrArg List.tail hd
      simpa using this
    refine Ok.bind (step s x r h) fun s' ⟨r1, e1, r2, e2, h2⟩ => ?_
    unfold forN
    rw [hn r (hk s r h), hi]
    simp only [Option.map_some, e1, e2]
    exact nx_forN hn hk step xs m (i + 1) s' r2 h2 hd2 (by simpa using hm)
theorem nx_for {it : M Src} {tg : PyData → En → Option En} {bd : Stm} {all : List β} {D : β → PyData} {Kp : En → Prop} {Sh : σ → En → Prop} {F : σ → β → Option σ} {s0 : σ} (I : Its it r r2 all D Kp) (hk : ∀ s r, Sh s r → Kp r) (h0 : Sh s0 r2)
    (step : ∀ s x r, Sh s r → Ok (F s x) fun s' => ∃ r1, tg (D x) r = some r1 ∧ Nx (bd r1) (Sh s')) : Ok (foldO F all s0) fun s => Nx (forS it tg bd r) (Sh s) := by
  obtain ⟨src, e, hf, hn⟩ := I.ex
  have : forS it tg bd r = forN src.nth tg bd src.fuel 0 r2 := ofM_ok e
  rw [this]
  exact nx_forN hn hk step all src.fuel 0 s0 r2 h0 rfl hf
theorem mx_forN {nth : En → Nat → Option (Option PyData)} {tg : PyData → En → Option En} {bd : Stm} {all : List β} {D : β → PyData} {Kp : En → Prop} {Sh : σ → En → Prop} {Φ : τ → FR} {F : σ → β → Option (Except τ σ)} (hn : ∀ r', Kp r' → ∀ i, nth r' i = some (all[i]?.map D)) (hk : ∀ s r, Sh s r → Kp r)
    (step : ∀ s x r, Sh s r → Ok (F s x) fun s' => ∃ r1, tg (D x) r = some r1 ∧ Mx Φ Sh s' (bd r1)) :
    ∀ (xs : List β) (m i : Nat) (s : σ) (r : En), Sh s r → all.drop i = xs → xs.length ≤ m → Ok (foldXO F xs s) fun s' => Mx Φ Sh s' (forN nth tg bd m i r)
  | [], m, i, s, r, h, hd, hm => by
    have hi : all[i]? = none := by
      rw [List.getElem?_eq_none_iff]
      have := congrArg List.length hd
      simp only [List.length_drop, List.length_nil] at this
      omega
    refine Ok.some ⟨r, ?_, h⟩
    cases m <;> (unfold forN; rw [hn r (hk s r h), hi]; rfl)
  | x :: xs, 0, i, s, r, h, hd, hm => by simp at hm
  | x :: xs, m + 1, i, s, r, h, hd, hm => by
    have hi : all[i]? = some x := by
      have := congrArg (·[0]?) hd
      simpa using this
    have hd2 : all.drop (i + 1) = xs := by
      have := congrArg List.tail hd
      simpa using this
    refine Ok.bind (step s x r h) fun e ⟨r1, e1, h1⟩ => ?_
    unfold forN
    rw [hn r (hk s r h), hi]
    simp only [Option.map_some, e1]
    cases e with
    | ok s' =>
      obtain ⟨r2, e2, h2⟩ := h1
      simp only [e2]
      exact mx_forN hn hk step xs m (i + 1) s' r2 h2 hd2 (by simpa using hm)
    | error t =>
      obtain ⟨h1, h2⟩ := h1
      obtain ⟨x, r2, e2⟩ := h2 rfl
      rw [e2] at h1
      simp only [e2]
      exact Ok.some ⟨h1, fun _ => ⟨_, _, rfl⟩⟩
theorem mx_for {it : M Src} {tg : PyData → En → Option En} {bd : Stm} {all : List β} {D : β → PyData} {Kp : En → Prop} {Sh : σ → En → Prop} {Φ : τ → FR} {F : σ → β → Option (Except τ σ)} {s0 : σ} (I : Its it r r2 all D Kp) (hk : ∀ s r, Sh s r → Kp r) (h0 : Sh s0 r2)
    (step : ∀ s x r, Sh s r → Ok (F s x) fun s' => ∃ r1, tg (D x) r = some r1 ∧ Mx Φ Sh s' (bd r1)) : Ok (foldXO F all s0) fun s => Mx Φ Sh s (forS it tg bd r) := by
  obtain ⟨src, e, hf, hn⟩ := I.ex
  have : forS it tg bd r = forN src.nth tg bd src.fuel 0 r2 := ofM_ok e
  rw [this]
  exact mx_forN hn hk step all src.fuel 0 s0 r2 h0 rfl hf
def whlO (t : σ → Option Bool) (F : σ → Option σ) : Nat → σ → Option σ
  | 0, _ => none
  | m + 1, s => (t s).bind fun c => if c = true then (F s).bind fun s => whlO t F m s else some s
def whlXO (t : σ → Option Bool) (F : σ → Option (Except τ σ)) : Nat → σ → Option (Except τ σ)
  | 0, _ => none
  | m + 1, s => (t s).bind fun c => if c = true then (F s).bind fun e => (match e with
    | .ok s => whlXO t F m s
    | .error t => some (.error t)) else some (.ok s)
theorem nx_whl {tt : M Bool} {bd : Stm} {Sh : σ → En → Prop} {p : σ → Option Bool} {F : σ → Option σ} (ht : ∀ s r, Sh s r → Ok (p s) fun c => tt r = .ok c r) (step : ∀ s r, Sh s r → Ok (F s) fun s' => Nx (bd r) (Sh s')) :
    ∀ (m : Nat) (s : σ) (r : En), Sh s r → Ok (whlO p F m s) fun s' => Nx (whlN tt bd m r) (Sh s')
  | 0, s, r, h => Ok.none
  | m + 1, s, r, h => by
    refine Ok.bind (ht s r h) fun c e => ?_
    unfold whlN
    rw [e]
    refine Ok.ite (fun hc => ?_) fun hc => ?_
    · subst hc
      refine Ok.bind (step s r h) fun s' ⟨r2, e2, h2⟩ => ?_
      simp only [e2]
      exact nx_whl ht step m s' r2 h2
    · subst hc
      exact Ok.some ⟨r, rfl, h⟩
theorem mx_whl {tt : M Bool} {bd : Stm} {Sh : σ → En → Prop} {Φ : τ → FR} {p : σ → Option Bool} {F : σ → Option (Except τ σ)} (ht : ∀ s r, Sh s r → Ok (p s) fun c => tt r = .ok c r) (step : ∀ s r, Sh s r → Ok (F s) fun s' => Mx Φ Sh s' (bd r)) :
    ∀ (m : Nat) (s : σ) (r : En), Sh s r → Ok (whlXO p F m s) fun s' => Mx Φ Sh s' (whlN tt bd m r)
  | 0, s, r, h => Ok.none
  | m + 1, s, r, h => by
    refine Ok.bind (ht s r h) fun c e => ?_
    unfold whlN
    rw [e]
    refine Ok.ite (fun hc => ?_) fun hc => ?_
    · subst hc
      refine Ok.bind (step s r h) fun x h1 => ?_
      cases x with
      | ok s' =>
        obtain ⟨r2, e2, h2⟩ := h1
        simp only [e2]
        exact mx_whl ht step m s' r2 h2
      | error t =>
        obtain ⟨h1, h2⟩ := h1
        obtain ⟨x, r2, e2⟩ := h2 rfl
        rw [e2] at h1
        simp only [e2]
        exact Ok.some ⟨h1, fun _ => ⟨_, _, rfl⟩⟩
    · subst hc
      exact Ok.some ⟨r, rfl, h⟩
/-! comprehensions -/
/-- each item's element, none where it is left out -/
def lcG (F : β → Option (Option PyData)) : List β → List PyData → Option (List PyData)
  | [], acc => some acc
  | x :: xs, acc => (F x).bind fun o => match o with
    | none => lcG F xs acc
    | some y => if acc.length < sizeLine then lcG F xs (acc ++ [y]) else none
def lcO (F : β → Option (Option PyData)) (xs : List β) : Option (List PyData) := lcG F xs []
/-- one turn of a comprehension, in W -/
def LcT (tg : PyData → En → Option En) (T : List Nat) (tt : M Bool) (f : M Rv) (W : En) (d : PyData) (o : Option PyData) : Prop :=
  ∃ r1, tg d W = some r1 ∧ match o with
    | none => ∃ r2, tt r1 = .ok false r2 ∧ wipeV r2 T = W
    | some y => ∃ r2, tt r1 = .ok true r2 ∧ ∃ r3, M.bnd f frz r2 = .ok y r3 ∧ wipeV r3 T = W
theorem lc_N {nth : En → Nat → Option (Option PyData)} {tg : PyData → En → Option En} {T : List Nat} {tt : M Bool} {f : M Rv} {W : En} {all : List β} {D : β → PyData} {F : β → Option (Option PyData)} (hW : wipeV W T = W) (hn : ∀ i, nth W i = some (all[i]?.map D)) (step : ∀ b, Ok (F b) fun o => LcT tg T tt f W (D b) o) :
    ∀ (xs : List β) (m i : Nat) (acc : List PyData), all.drop i = xs → xs.length ≤ m → Ok (lcG F xs acc) fun ys => lcN nth tg T tt f m i acc W = .ok ys W
  | [], m, i, acc, hd, hm => by
    have hi : all[i]? = none := by
      rw [List.getElem?_eq_none_iff]
      have := congrArg List.length hd
      simp only [List.length_drop, List.length_nil] at this
      omega
    refine Ok.some ?_
    cases m <;> (unfold lcN; rw [hn, hi]; rfl)
  | x :: xs, 0, i, acc, hd, hm => by simp at hm
  | x :: xs, m + 1, i, acc, hd, hm => by
    have hi : all[i]? = some x := by
      have := congrArg (·[0]?) hd
      simpa using this
    have hd2 : all.drop (i + 1) = xs := by
      have := congrArg List.tail hd
      simpa using this
    refine Ok.bind (step x) fun o ⟨r1, e1, h⟩ => ?_
    unfold lcN
    rw [hn, hi]
    simp only [Option.map_some, hW, e1]
    cases o with
    | none =>
      obtain ⟨r2, e2, w2⟩ := h
      simp only [e2, w2]
      exact lc_N hW hn step xs m (i + 1) acc hd2 (by simpa using hm)
    | some y =>
      obtain ⟨r2, e2, r3, e3, w3⟩ := h
      simp only [e2, e3, w3]
      by_cases hz : acc.length < sizeLine
      · rw [if_pos hz]
        simp only [hz, if_true]
        exact lc_N hW hn step xs m (i + 1) (acc ++ [y]) hd2 (by simpa using hm)
      · simp only [hz, if_false]
        exact Ok.none
theorem ok_lc {it : M Src} {tg : PyData → En → Option En} {T : List Nat} {tt : M Bool} {f : M Rv} {W : En} {all : List β} {D : β → PyData} {Kp : En → Prop} {F : β → Option (Option PyData)} (I : Its it r r2 all D Kp) (hc : calm r2 T = true) (hw : wipeV r2 T = W) (hW : wipeV W T = W) (hr : restV r2 W T = r2) (hk : Kp W) (step : ∀ b, Ok (F b) fun o => LcT tg T tt f W (D b) o) :
    Ok (lcO F all) fun ys => lcE it tg T tt f r = .ok (.own (.lst ys)) r2 := by
  obtain ⟨src, e, hf, hn⟩ := I.ex
  refine Ok.mono (fun ys h => ?_) (lc_N hW (hn W hk) step all src.fuel 0 [] rfl hf)
  refine (bnd_ok e).trans ?_
  simp only [hc, if_true, hw, h, hr]
theorem lcG_pure {F : β → Option (Option PyData)} {t : β → Bool} {f : β → PyData} (h : ∀ b, F b = some (if t b = true then some (f b) else none)) : ∀ (xs : List β) (acc : List PyData), acc.length + xs.length ≤ sizeLine → lcG F xs acc = some (acc ++ (xs.filter t).map f)
  | [], acc, _ => by simp [lcG]
  | x :: xs, acc, hz => by
    unfold lcG
    rw [h x]
    rw [List.length_cons] at hz
    cases e : t x with
    | true =>
      simp only [if_true, Option.bind_some, e]
      rw [if_pos (by omega), lcG_pure h xs _ (by simp; omega), List.filter_cons_of_pos e]
      simp
    | false =>
      have : ((if t x = true then some (f x) else none) : Option PyData) = none := by rw [e]; rfl
      simp only [Option.bind_some, e, Bool.false_eq_true, if_false]
      rw [lcG_pure h xs acc (by omega), List.filter_cons_of_neg (by simp [e])]
/-- elements that are plain: what is kept, and its element -/
def lcP (t : β → Bool) (f : β → PyData) (xs : List β) : Option (List PyData) := if xs.length ≤ sizeLine then some ((xs.filter t).map f) else none
def mapP (f : β → PyData) (xs : List β) : Option (List PyData) := if xs.length ≤ sizeLine then some (xs.map f) else none
theorem ok_lcP {it : M Src} {tg : PyData → En → Option En} {T : List Nat} {tt : M Bool} {f : M Rv} {W : En} {all : List β} {D : β → PyData} {Kp : En → Prop} {p : β → Bool} {q : β → PyData} (I : Its it r r2 all D Kp) (hc : calm r2 T = true) (hw : wipeV r2 T = W) (hW : wipeV W T = W) (hr : restV r2 W T = r2) (hk : Kp W) (step : ∀ b, LcT tg T tt f W (D b) (if p b = true then some (q b) else none)) :
    Ok (lcP p q all) fun ys => lcE it tg T tt f r = .ok (.own (.lst ys)) r2 := by
  intro ys h
  unfold lcP at h
  split at h
  · rename_i hz
    injection h with h
    refine ok_lc (F := fun b => some (if p b = true then some (q b) else none)) I hc hw hW hr hk (fun b => Ok.some (step b)) ys ?_
    unfold lcO
    rw [lcG_pure (t := p) (f := q) (fun b => rfl) all [] (by simpa using hz), ← h]
    rfl
  · cases h
theorem ok_mapP {it : M Src} {tg : PyData → En → Option En} {T : List Nat} {f : M Rv} {W : En} {all : List β} {D : β → PyData} {Kp : En → Prop} {q : β → PyData} (I : Its it r r2 all D Kp) (hc : calm r2 T = true) (hw : wipeV r2 T = W) (hW : wipeV W T = W) (hr : restV r2 W T = r2) (hk : Kp W) (step : ∀ b, LcT tg T yesB f W (D b) (some (q b))) :
    Ok (mapP q all) fun ys => lcE it tg T yesB f r = .ok (.own (.lst ys)) r2 := by
  intro ys h
  unfold mapP at h
  split at h
  · rename_i hz
    injection h with h
    refine ok_lcP (p := fun _ => true) (q := q) I hc hw hW hr hk (fun b => by simpa using step b) ys ?_
    unfold lcP
    rw [if_pos hz, List.filter_eq_self.mpr (fun _ _ => rfl), h]
  · cases h
/-- for literal ranges, within bounds -/
theorem lc_lit {it : M Src} {tg : PyData → En → Option En} {T : List Nat} {tt : M Bool} {f : M Rv} {W : En} {all : List β} {D : β → PyData} {Kp : En → Prop} {p : β → Bool} {q : β → PyData} (I : Its it r r2 all D Kp) (hz : all.length ≤ sizeLine) (hc : calm r2 T = true) (hw : wipeV r2 T = W) (hW : wipeV W T = W) (hr : restV r2 W T = r2) (hk : Kp W) (step : ∀ b, LcT tg T tt f W (D b) (if p b = true then some (q b) else none)) :
    lcE it tg T tt f r = .ok (.own (.lst ((all.filter p).map q))) r2 := ok_lcP I hc hw hW hr hk step _ (by unfold lcP; rw [if_pos hz])
theorem map_lit {it : M Src} {tg : PyData → En → Option En} {T : List Nat} {f : M Rv} {W : En} {all : List β} {D : β → PyData} {Kp : En → Prop} {q : β → PyData} (I : Its it r r2 all D Kp) (hz : all.length ≤ sizeLine) (hc : calm r2 T = true) (hw : wipeV r2 T = W) (hW : wipeV W T = W) (hr : restV r2 W T = r2) (hk : Kp W) (step : ∀ b, LcT tg T yesB f W (D b) (some (q b))) :
    lcE it tg T yesB f r = .ok (.own (.lst (all.map q))) r2 := ok_mapP I hc hw hW hr hk step _ (by unfold mapP; rw [if_pos hz])
theorem len_rng {k : Int} (h : decide (k ≤ 1000000) = true) : (List.range k.toNat).length ≤ sizeLine := by
  have := of_decide_eq_true h
  simp [sizeLine]
  omega
theorem lct_no {tg : PyData → En → Option En} {T : List Nat} {tt : M Bool} {f : M Rv} {W r1 r2 : En} {d : PyData} (h : tg d W = some r1) (h2 : tt r1 = .ok false r2) (w : wipeV r2 T = W) : LcT tg T tt f W d none := ⟨r1, h, r2, h2, w⟩
theorem lct_yes {tg : PyData → En → Option En} {T : List Nat} {tt : M Bool} {f : M Rv} {W r1 r2 r3 r4 : En} {d y : PyData} {x : Rv} (h : tg d W = some r1) (h2 : tt r1 = .ok true r2) (h3 : f r2 = .ok x r3) (h4 : frz x r3 = .ok y r4) (w : wipeV r4 T = W) : LcT tg T tt f W d (some y) := ⟨r1, h, r2, h2, r4, (bnd_ok h3).trans h4, w⟩
theorem lct_if {tg : PyData → En → Option En} {T : List Nat} {tt : M Bool} {f : M Rv} {W r1 r2 : En} {d y : PyData} {c : Bool} (h : tg d W = some r1) (h2 : tt r1 = .ok c r2) (w : wipeV r2 T = W) (h3 : c = true → ∃ x r3 r4, f r2 = .ok x r3 ∧ frz x r3 = .ok y r4 ∧ wipeV r4 T = W) : LcT tg T tt f W d (if c = true then some y else none) := by
  cases c with
  | false => exact lct_no h h2 w
  | true => obtain ⟨x, r3, r4, e1, e2, e3⟩ := h3 rfl; exact lct_yes h h2 e1 e2 e3
/-- elements that change what is held -/
def lcS (F : σ → β → Option (Option PyData × σ)) : List β → List PyData → σ → Option (List PyData × σ)
  | [], acc, s => some (acc, s)
  | x :: xs, acc, s => (F s x).bind fun o => match o with
    | (none, s) => lcS F xs acc s
    | (some y, s) => if acc.length < sizeLine then lcS F xs (acc ++ [y]) s else none
def LcU (tg : PyData → En → Option En) (T : List Nat) (tt : M Bool) (f : M Rv) (Sh : σ → En → Prop) (r : En) (d : PyData) (o : Option PyData × σ) : Prop :=
  ∃ r1, tg d (wipeV r T) = some r1 ∧ match o.1 with
    | none => ∃ r2, tt r1 = .ok false r2 ∧ Sh o.2 (wipeV r2 T)
    | some y => ∃ r2, tt r1 = .ok true r2 ∧ ∃ r3, M.bnd f frz r2 = .ok y r3 ∧ Sh o.2 (wipeV r3 T)
theorem lcu_yes {tg : PyData → En → Option En} {T : List Nat} {tt : M Bool} {f : M Rv} {Sh : σ → En → Prop} {r r1 r2 r3 r4 : En} {d y : PyData} {s : σ} {x : Rv} (h : tg d (wipeV r T) = some r1) (h2 : tt r1 = .ok true r2) (h3 : f r2 = .ok x r3) (h4 : frz x r3 = .ok y r4) (w : Sh s (wipeV r4 T)) : LcU tg T tt f Sh r d (some y, s) := ⟨r1, h, r2, h2, r4, (bnd_ok h3).trans h4, w⟩
theorem lcu_no {tg : PyData → En → Option En} {T : List Nat} {tt : M Bool} {f : M Rv} {Sh : σ → En → Prop} {r r1 r2 : En} {d : PyData} {s : σ} (h : tg d (wipeV r T) = some r1) (h2 : tt r1 = .ok false r2) (w : Sh s (wipeV r2 T)) : LcU tg T tt f Sh r d (none, s) := ⟨r1, h, r2, h2, w⟩
theorem lcS_N {nth : En → Nat → Option (Option PyData)} {tg : PyData → En → Option En} {T : List Nat} {tt : M Bool} {f : M Rv} {Sh : σ → En → Prop} {Kp : En → Prop} {all : List β} {D : β → PyData} {F : σ → β → Option (Option PyData × σ)} (hn : ∀ r', Kp r' → ∀ i, nth r' i = some (all[i]?.map D)) (hk : ∀ s r, Sh s r → Kp r) (step : ∀ s b r, Sh s r → Ok (F s b) fun o => LcU tg T tt f Sh r (D b) o) :
    ∀ (xs : List β) (m i : Nat) (acc : List PyData) (s : σ) (r : En), Sh s r → all.drop i = xs → xs.length ≤ m → Ok (lcS F xs acc s) fun o => ∃ r', lcN nth tg T tt f m i acc r = .ok o.1 r' ∧ Sh o.2 r'
  | [], m, i, acc, s, r, h, hd, hm => by
    have hi : all[i]? = none := by
      rw [List.getElem?_eq_none_iff]
      have := congrArg List.length hd
      simp only [List.length_drop, List.length_nil] at this
      omega
    refine Ok.some ⟨r, ?_, h⟩
    cases m <;> (unfold lcN; rw [hn r (hk s r h), hi]; rfl)
  | x :: xs, 0, i, acc, s, r, h, hd, hm => by simp at hm
  | x :: xs, m + 1, i, acc, s, r, h, hd, hm => by
    have hi : all[i]? = some x := by
      have := congrArg (·[0]?) hd
      simpa using this
    have hd2 : all.drop (i + 1) = xs := by
      have := congrArg List.tail hd
      simpa using this
    refine Ok.bind (step s x r h) fun o ⟨r1, e1, h⟩ => ?_
    unfold lcN
    rw [hn r (hk s r ‹_›), hi]
    simp only [Option.map_some, e1]
    obtain ⟨o, s'⟩ := o
    cases o with
    | none =>
      obtain ⟨r2, e2, w2⟩ := h
      simp only [e2]
      exact lcS_N hn hk step xs m (i + 1) acc s' _ w2 hd2 (by simpa using hm)
    | some y =>
      obtain ⟨r2, e2, r3, e3, w3⟩ := h
      simp only [e2, e3]
      by_cases hz : acc.length < sizeLine
      · rw [if_pos hz]
        simp only [hz, if_true]
        exact lcS_N hn hk step xs m (i + 1) (acc ++ [y]) s' _ w3 hd2 (by simpa using hm)
      · simp only [hz, if_false]
        exact Ok.none
theorem ok_lcS {it : M Src} {tg : PyData → En → Option En} {T : List Nat} {tt : M Bool} {f : M Rv} {Sh : σ → En → Prop} {Kp : En → Prop} {all : List β} {D : β → PyData} {F : σ → β → Option (Option PyData × σ)} {s0 : σ} {Rs : σ → En} (I : Its it r r2 all D Kp) (hc : calm r2 T = true) (h0 : Sh s0 (wipeV r2 T)) (hr : ∀ s r', Sh s r' → restV r2 r' T = Rs s) (hk : ∀ s r, Sh s r → Kp r) (step : ∀ s b r, Sh s r → Ok (F s b) fun o => LcU tg T tt f Sh r (D b) o) :
    Ok (lcS F all [] s0) fun o => lcE it tg T tt f r = .ok (.own (.lst o.1)) (Rs o.2) := by
  obtain ⟨src, e, hf, hn⟩ := I.ex
  refine Ok.mono (fun o ⟨r', h, hs⟩ => ?_) (lcS_N hn hk step all src.fuel 0 [] s0 _ h0 rfl hf)
  refine (bnd_ok e).trans ?_
  simp only [hc, if_true, h, hr o.2 r' hs]
/-! the end of a def -/
theorem ok_def {np n : Nat} {bd : Stm} {ags : List Ag} {r0 : En} {q : Option τ} {Φ : τ → FR} (h : ags.length = np) (e : entry n ags = r0) (h2 : Ok q fun t => Fi false (bd r0) (Φ t)) : Ok q fun t => runF np n bd ags = Φ t :=
  Ok.mono (fun t p => by unfold runF; rw [if_pos h, e]; exact p.1) h2
theorem calm_go : calm r [] = true := rfl
end Pf
namespace Pf
open PySem L2 Mi
variable {α β γ σ τ ρ : Type} {r r1 r2 r3 : En} {o : Out} {s1 s2 A B : Stm} {t : M Bool} {c b : Bool} {Φ : τ → FR} {Sh : σ → En → Prop} {Sg : ρ → En → Prop}
theorem t_seq {q : Option τ} (r1 : En) (e : s1 r = .nx r1) (h : Ok q fun t => Fi b (s2 r1) (Φ t)) : Ok q fun t => Fi b (seqS s1 s2 r) (Φ t) := ok_seq (Q := fun t o => Fi b o (Φ t)) e h
theorem n_seq {q : Option σ} (r1 : En) (e : s1 r = .nx r1) (h : Ok q fun t => Nx (s2 r1) (Sh t)) : Ok q fun t => Nx (seqS s1 s2 r) (Sh t) := ok_seq (Q := fun t o => Nx o (Sh t)) e h
theorem m_seq {q : Option (Except τ σ)} (r1 : En) (e : s1 r = .nx r1) (h : Ok q fun t => Mx Φ Sh t (s2 r1)) : Ok q fun t => Mx Φ Sh t (seqS s1 s2 r) := ok_seq (Q := fun t o => Mx Φ Sh t o) e h
theorem t_step {q : Option σ} {k : σ → Option τ} (h : Ok q fun s => Nx (s1 r) (Sh s)) (h2 : ∀ s r1, Sh s r1 → Ok (k s) fun a => Fi b (s2 r1) (Φ a)) : Ok (q.bind k) fun a => Fi b (seqS s1 s2 r) (Φ a) := ok_step (Q := fun t o => Fi b o (Φ t)) h h2
theorem n_step {q : Option σ} {k : σ → Option ρ} (h : Ok q fun s => Nx (s1 r) (Sh s)) (h2 : ∀ s r1, Sh s r1 → Ok (k s) fun a => Nx (s2 r1) (Sg a)) : Ok (q.bind k) fun a => Nx (seqS s1 s2 r) (Sg a) := ok_step (Q := fun t o => Nx o (Sg t)) h h2
theorem m_step {q : Option σ} {k : σ → Option (Except τ ρ)} (h : Ok q fun s => Nx (s1 r) (Sh s)) (h2 : ∀ s r1, Sh s r1 → Ok (k s) fun a => Mx Φ Sg a (s2 r1)) : Ok (q.bind k) fun a => Mx Φ Sg a (seqS s1 s2 r) := ok_step (Q := fun t o => Mx Φ Sg t o) h h2
theorem t_last {q : Option σ} {k : σ → Option τ} (h : Ok q fun s => Nx (s1 r) (Sh s)) (h2 : ∀ s r1, Sh s r1 → Ok (k s) fun a => Fi b (.nx r1) (Φ a)) : Ok (q.bind k) fun a => Fi b (s1 r) (Φ a) := ok_last (Q := fun t o => Fi b o (Φ t)) h h2
theorem n_last {q : Option σ} {k : σ → Option ρ} (h : Ok q fun s => Nx (s1 r) (Sh s)) (h2 : ∀ s r1, Sh s r1 → Ok (k s) fun a => Nx (.nx r1) (Sg a)) : Ok (q.bind k) fun a => Nx (s1 r) (Sg a) := ok_last (Q := fun t o => Nx o (Sg t)) h h2
theorem m_last {q : Option σ} {k : σ → Option (Except τ ρ)} (h : Ok q fun s => Nx (s1 r) (Sh s)) (h2 : ∀ s r1, Sh s r1 → Ok (k s) fun a => Mx Φ Sg a (.nx r1)) : Ok (q.bind k) fun a => Mx Φ Sg a (s1 r) := ok_last (Q := fun t o => Mx Φ Sg t o) h h2
theorem t_if {q1 q2 : Option τ} (h : t r = .ok c r1) (h1 : c = true → Ok q1 fun a => Fi b (A r1) (Φ a)) (h2 : c = false → Ok q2 fun a => Fi b (B r1) (Φ a)) : Ok (if c = true then q1 else q2) fun a => Fi b (ifS t A B r) (Φ a) := ok_if (Q := fun t o => Fi b o (Φ t)) h h1 h2
theorem n_if {q1 q2 : Option σ} (h : t r = .ok c r1) (h1 : c = true → Ok q1 fun a => Nx (A r1) (Sh a)) (h2 : c = false → Ok q2 fun a => Nx (B r1) (Sh a)) : Ok (if c = true then q1 else q2) fun a => Nx (ifS t A B r) (Sh a) := ok_if (Q := fun t o => Nx o (Sh t)) h h1 h2
theorem m_if {q1 q2 : Option (Except τ σ)} (h : t r = .ok c r1) (h1 : c = true → Ok q1 fun a => Mx Φ Sh a (A r1)) (h2 : c = false → Ok q2 fun a => Mx Φ Sh a (B r1)) : Ok (if c = true then q1 else q2) fun a => Mx Φ Sh a (ifS t A B r) := ok_if (Q := fun t o => Mx Φ Sh t o) h h1 h2
theorem m_ifR {q1 : Option τ} {q2 : Option (Except τ σ)} (h : t r = .ok c r1) (h1 : c = true → Ok q1 fun a => Fi true (A r1) (Φ a)) (h2 : c = false → Ok q2 fun a => Mx Φ Sh a (seqS B s2 r1)) : Ok (if c = true then q1.map .error else q2) fun a => Mx Φ Sh a (seqS (ifS t A B) s2 r) := by
  cases c with
  | true =>
    intro a e
    simp only [if_true] at e
    cases hq : q1 with
    | none => rw [hq] at e; cases e
    | some x =>
      rw [hq] at e
      injection e with e
      subst e
      have := h1 rfl x hq
      show Fi true _ _
      refine seq_fi ?_
      rw [if_T h]; exact this
  | false =>
    refine Ok.mono (fun a p => ?_) (h2 rfl)
    unfold seqS at p ⊢
    rw [if_F h]; exact p
theorem m_ifRn {q1 : Option τ} {q2 : Option (Except τ σ)} (h : t r = .ok c r1) (h1 : c = true → Ok q1 fun a => Fi true (A r1) (Φ a)) (h2 : c = false → Ok q2 fun a => Mx Φ Sh a (s2 r1)) : Ok (if c = true then q1.map .error else q2) fun a => Mx Φ Sh a (seqS (ifS t A nxS) s2 r) := m_ifR h h1 h2
theorem m_ifL {q2 : Option τ} {q1 : Option (Except τ σ)} (h : t r = .ok c r1) (h1 : c = true → Ok q1 fun a => Mx Φ Sh a (seqS A s2 r1)) (h2 : c = false → Ok q2 fun a => Fi true (B r1) (Φ a)) : Ok (if c = true then q1 else q2.map .error) fun a => Mx Φ Sh a (seqS (ifS t A B) s2 r) := by
  cases c with
  | false =>
    intro a e
    simp only [Bool.false_eq_true, if_false] at e
    cases hq : q2 with
    | none => rw [hq] at e; cases e
    | some x =>
      rw [hq] at e
      injection e with e
      subst e
      have := h2 rfl x hq
      show Fi true _ _
      refine seq_fi ?_
      rw [if_F h]; exact this
  | true =>
    refine Ok.mono (fun a p => ?_) (h1 rfl)
    unfold seqS at p ⊢
    rw [if_T h]; exact p
/-- a way that returns, in a block that may return -/
theorem m_ret {q : Option τ} (h : Ok q fun a => Fi true o (Φ a)) : Ok (q.map .error) fun e => Mx Φ Sh e o := by
  intro a e
  cases hq : q with
  | none => rw [hq] at e; cases e
  | some x =>
    rw [hq] at e
    injection e with e
    subst e
    exact h x hq
/-! expressions that gen does not have yet -/
theorem ite_inj {γ : Type} {f g : M Rv} {a d : γ} (inj : γ → PyData) {k : Bool} (h : t r = .ok k r1) (h1 : k = true → f r1 = .ok (.val (inj a)) r2) (h2 : k = false → g r1 = .ok (.val (inj d)) r2) : iteE t f g r = .ok (.val (inj (if k = true then a else d))) r2 := by
  cases k with
  | true => exact iteT_go h (h1 rfl)
  | false => exact iteF_go h (h2 rfl)
theorem ite_own {f g : M Rv} {a d : List PyData} {k : Bool} (h : t r = .ok k r1) (h1 : k = true → f r1 = .ok (.own (.lst a)) r2) (h2 : k = false → g r1 = .ok (.own (.lst d)) r2) : iteE t f g r = .ok (.own (.lst (if k = true then a else d))) r2 := by
  cases k with
  | true => exact iteT_go h (h1 rfl)
  | false => exact iteF_go h (h2 rfl)
def repL (xs : List PyData) (k : Int) : Option (List PyData) := if (-(2 ^ 63) ≤ k ∧ k < 2 ^ 63) ∧ xs.length * k.toNat ≤ sizeLine then some (List.replicate k.toNat xs).flatten else none
theorem rep_L {f g : M Rv} {x : Rv} {k : Int} {xs ys : List PyData} (h1 : f r = .ok (.own (.lst xs)) r1) (h2 : g r1 = .ok x r2) (p : peek r2 x = some (.int k)) (h : repL xs k = some ys) : repE f g r = .ok (.own (.lst ys)) r2 := by
  unfold repL at h
  split at h
  · rename_i q
    injection h with h; subst h
    exact rep_go h1 h2 p q
  · cases h
def lrgL (k : Int) : Option (List PyData) := if 0 ≤ k ∧ k ≤ 16777216 then some (rgD 0 k) else none
theorem lrg_L {f : M Rv} {x : Rv} {k : Int} {ys : List PyData} (h1 : f r = .ok x r1) (p : peek r1 x = some (.int k)) (h : lrgL k = some ys) : lrgE f r = .ok (.own (.lst ys)) r1 := by
  unfold lrgL at h
  split at h
  · rename_i q
    injection h with h; subst h
    exact lrg_go h1 p q
  · cases h
def auL (xs : List PyData) (k b : Int) : Option (List PyData) := if 0 ≤ k then (match xs[k.toNat]? with
  | some (.int a) => some (xs.set k.toNat (.int (a + b)))
  | _ => none) else none
theorem auS_go {j : Nat} {k b : Int} {l : Lo} {xs ys : List PyData} (h1 : nmE j r = .ok (.at l) r) (h0 : look r l = some (.live (.lst xs))) {r2 : En} (h : auL xs k b = some ys) (e2 : setLo r l (.live (.lst ys)) = r2) : auS j k b r = .nx r2 := by
  subst e2
  unfold auS
  refine (ofM_ok h1).trans ?_
  unfold auF
  have e1 : peek r (.val (.int k)) = some (.int k) := rfl
  have e2 : peek r (.val (.int b)) = some (.int b) := rfl
  simp only [h0, e1, e2]
  unfold auL at h
  split at h
  · rename_i q
    rw [if_pos q]
    split at h
    · rename_i a e
      injection h with h; subst h
      first | rfl | rw [e]
    · cases h
  · cases h
theorem par3_go {i j l : Nat} {g : M (List Rv)} {x y z : Rv} {s t u : Sl} (h : g r = .ok [x, y, z] r1) (h1 : slV x = some s) (h2 : slV y = some t) (h3 : slV z = some u) (e2 : put (put (put r1 i s) j t) l u = r2) : par3S i j l g r = .nx r2 := by
  subst e2
  unfold par3S
  rw [h]
  simp only [h1, h2, h3]
theorem kw_go {G : List Ag → FR} {pm : List Nat} {f : M (List Rv)} {x : Rv} {xs ys : List Rv} {ags : List Ag} {ls : List Lo} {os : List Bo} (h1 : f r = .ok xs r1) (hl : xs.length = pm.length) (hp : permL pm xs = ys) (h2 : agsOf r1 ys = some (ags, ls)) (h3 : noDup ls = true) (h4 : G ags = .ret x os) (h5 : os.length = ls.length) (e2 : back ls os r1 = r2) : callKW pm G f r = .ok x r2 := by
  subst e2
  refine (bnd_ok h1).trans ?_
  rw [if_pos hl, hp]
  unfold callF
  rw [h2]
  simp only [h3, if_true, h4, h5]
theorem call_goE {G : List Ag → FR} {f : M (List Rv)} {x : Rv} {xs : List Rv} {ags : List Ag} {ls : List Lo} {os : List Bo} (h1 : f r = .ok xs r1) (h2 : agsOf r1 xs = some (ags, ls)) (h3 : noDup ls = true) (h4 : G ags = .ret x os) (h5 : os.length = ls.length) (e2 : back ls os r1 = r2) : callE G f r = .ok x r2 := by
  subst e2
  exact call_go h1 h2 h3 h4 h5
theorem mut_goE {i : Nat} {up : List PyData → List PyData → Option (List PyData × PyData)} {g : M (List PyData)} {l : Lo} {as es ds ds' : List PyData} {d : PyData} (h1 : nmE i r = .ok (.at l) r) (h0 : look r l = some (.live (.lst es))) (h2 : g r = .ok as r1) (h3 : look r1 l = some (.live (.lst ds))) (h4 : up ds as = some (ds', d)) (e2 : setLo r1 l (.live (.lst ds')) = r2) : mutE i up g r = .ok (.val d) r2 := by
  subst e2
  exact mut_go h1 h0 h2 h3 h4
theorem par_goE {i j : Nat} {g : M (List Rv)} {s t : Sl} {x y x' y' : Rv} {r4 : En} (h : g r = .ok [x, y] r1) (h1 : deS x r1 = .ok x' r2) (h2 : deS y r2 = .ok y' r3) (e1 : slOf r3 x' = some s) (e2 : slOf r3 y' = some t) (e3 : put (put r3 i s) j t = r4) : parS i j g r = .nx r4 := by
  subst e3
  exact par_go h h1 h2 e1 e2
theorem aug_goE {i : Nat} {f : M Rv} {x : Rv} {k l : Int} (h0 : r.vs[i]? = some (some (.val (.int k)))) (h : f r = .ok x r1) (p : peek r1 x = some (.int l)) (e2 : put r1 i (.val (.int (k + l))) = r2) : augN i f r = .nx r2 := by
  subst e2
  exact aug_go h0 h p
end Pf

/-! Pf2.lean -/
set_option Elab.async false
set_option linter.all false
set_option maxRecDepth 100000
/-! and, or by cases -/
namespace Pf
open PySem L2 Mi
variable {r r1 r2 r3 : En} {t : M Bool} {f g : M Rv} {s u : M Bool} {x y : Rv} {c k l : Bool}
theorem tst_eq (h : t r = .ok c r1) (e : c = k) : t r = .ok k r1 := by rw [← e]; exact h
theorem andF_go (h : s r = .ok c r1) (e : c = false) : andB s u r = .ok false r1 := by subst e; exact bnd_ok h
theorem andT_go (h : s r = .ok c r1) (e : c = true) (h2 : u r1 = .ok l r2) : andB s u r = .ok l r2 := by subst e; exact (bnd_ok h).trans h2
theorem orT_go (h : s r = .ok c r1) (e : c = true) : orB s u r = .ok true r1 := by subst e; exact bnd_ok h
theorem orF_go (h : s r = .ok c r1) (e : c = false) (h2 : u r1 = .ok l r2) : orB s u r = .ok l r2 := by subst e; exact (bnd_ok h).trans h2
theorem andEF_go (h : f r = .ok x r1) (p : peek r1 x = some (.bool c)) (e : c = false) : andE f g r = .ok (.val (.bool false)) r1 := by subst e; exact bnd_ok (tB_go h p)
theorem val_peek {d : PyData} (h : g r = .ok (.val d) r1) : True := trivial
theorem andET_go (h : f r = .ok x r1) (p : peek r1 x = some (.bool c)) (e : c = true) (h2 : g r1 = .ok (.val (.bool l)) r2) (q : l = l) : andE f g r = .ok (.val (.bool l)) r2 := by subst e; exact (bnd_ok (tB_go h p)).trans h2
theorem orET_go (h : f r = .ok x r1) (p : peek r1 x = some (.bool c)) (e : c = true) : orE f g r = .ok (.val (.bool true)) r1 := by subst e; exact bnd_ok (tB_go h p)
theorem orEF_go (h : f r = .ok x r1) (p : peek r1 x = some (.bool c)) (e : c = false) (h2 : g r1 = .ok (.val (.bool l)) r2) (q : l = l) : orE f g r = .ok (.val (.bool l)) r2 := by subst e; exact (bnd_ok (tB_go h p)).trans h2
end Pf
namespace Pf
open PySem L2 Mi
variable {r r1 r2 r3 r4 : En} {f g : M Rv} {x y : Rv} {c : Bool} {kvs kvs' : List (Key × PyData)} {d e v : PyData}
def dinO (kvs : List (Key × PyData)) (d : PyData) : Option Bool := (keyOf d).map fun k => (valD kvs k).isSome
def dixO (kvs : List (Key × PyData)) (d : PyData) : Option PyData := (keyOf d).bind fun k => valD kvs k
def dgetO (kvs : List (Key × PyData)) (d : PyData) : Option PyData := (keyOf d).map fun k => (valD kvs k).getD .none
def dputO (kvs : List (Key × PyData)) (d v : PyData) : Option (List (Key × PyData)) := (keyOf d).bind fun k => if kvs.length < sizeLine then some (putD kvs k v) else none
theorem din_go (h : f r = .ok x r1) (h2 : g r1 = .ok y r2) (p : peek r2 x = some d) (q : dctOf r2 y = some kvs) (e : dinO kvs d = some c) : dinE false f g r = .ok (.val (.bool c)) r2 := by
  refine (bnd_ok h).trans ((bnd_ok h2).trans ?_)
  unfold dinO at e
  cases hk : keyOf d with
  | none => rw [hk] at e; cases e
  | some k => rw [hk] at e; injection e with e; simp only [p, q, Option.bind, hk, e]; cases c <;> rfl
theorem dnin_go (h : f r = .ok x r1) (h2 : g r1 = .ok y r2) (p : peek r2 x = some d) (q : dctOf r2 y = some kvs) (e : dinO kvs d = some c) : dinE true f g r = .ok (.val (.bool (!c))) r2 := by
  refine (bnd_ok h).trans ((bnd_ok h2).trans ?_)
  unfold dinO at e
  cases hk : keyOf d with
  | none => rw [hk] at e; cases e
  | some k => rw [hk] at e; injection e with e; simp only [p, q, Option.bind, hk, e]; cases c <;> rfl
theorem dix_go (h : f r = .ok x r1) (h2 : g r1 = .ok y r2) (q : dctOf r2 x = some kvs) (p : peek r2 y = some d) (e : dixO kvs d = some v) : dixE f g r = .ok (.val v) r2 := by
  refine (bnd_ok h).trans ((bnd_ok h2).trans ?_)
  unfold dixO at e
  cases hk : keyOf d with
  | none => rw [hk] at e; cases e
  | some k => rw [hk] at e; simp only [Option.bind] at e; simp only [p, q, Option.bind, hk, e]
theorem dg_go {kv0 : List (Key × PyData)} (h : f r = .ok x r1) (q0 : dctOf r1 x = some kv0) (h2 : g r1 = .ok y r2) (q : dctOf r2 x = some kvs) (p : peek r2 y = some d) (e : dgetO kvs d = some v) : dgE f g r = .ok (.val v) r2 := by
  refine (bnd_ok h).trans ?_
  simp only [q0]
  refine (bnd_ok h2).trans ?_
  unfold dgetO at e
  cases hk : keyOf d with
  | none => rw [hk] at e; cases e
  | some k => rw [hk] at e; injection e with e; simp only [p, q, Option.bind, hk, e]
theorem dst_go {j : Nat} {l : Lo} (h1 : f r = .ok x r1) (h2 : frz x r1 = .ok v r2) (h3 : nmE j r2 = .ok (.at l) r2) (h4 : g r2 = .ok y r4) (q : look r4 l = some (.live (.dct kvs))) (p : peek r4 y = some d) (e : dputO kvs d v = some kvs') {r5 : En} (e2 : setLo r4 l (.live (.dct kvs')) = r5) : dstS f j g r = .nx r5 := by
  subst e2
  refine (ofM_ok h1).trans ((ofM_ok h2).trans ((ofM_ok h3).trans ((ofM_ok h4).trans ?_)))
  unfold dstF
  unfold dputO at e
  cases hk : keyOf d with
  | none => rw [hk] at e; cases e
  | some k =>
    rw [hk] at e
    simp only [Option.bind] at e
    split at e
    · rename_i hz
      injection e with e
      subst e
      simp only [q, p, Option.bind, hk, hz, if_true]
    · cases e
theorem lock_go {j : Nat} {l : Lo} (h : nmE j r = .ok (.at l) r) (q : look r l = some (.live (.dct kvs))) (h2 : f (setLo r l (.live (.fdc kvs))) = .ok x r1) (q2 : look r1 l = some (.live (.fdc kvs))) (e2 : setLo r1 l (.live (.dct kvs)) = r2) : lockE j f r = .ok x r2 := by
  subst e2
  unfold lockE
  rw [h]
  unfold lockL
  simp only [q, h2, q2]
theorem its_keys (he : f r = .ok x r1) (hp : fdcOf r1 x = some kvs) : Its (keysI f) r r1 kvs (fun kv => keyD kv.1) (fun _ => True) := by
  refine ⟨⟨fun _ i => some ((kvs.map fun kv => keyD kv.1)[i]?), kvs.length⟩, ?_, Nat.le_refl _, fun r' _ i => by simp⟩
  refine (bnd_ok he).trans ?_
  simp only [hp]
end Pf
namespace Pf
open PySem L2 Mi
variable {β γ : Type} {r r1 r2 r3 r4 W W1 : En} {it it1 : M Src} {tg tg1 : PyData → En → Option En} {T T1 : List Nat} {tt tt1 : M Bool} {f : M Rv} {all : List β} {D : β → PyData} {Kp Kp1 : En → Prop}
/-- two fors: what one turn of the first adds -/
def lc2O (F : β → List PyData → Option (List PyData)) : List β → List PyData → Option (List PyData)
  | [], acc => some acc
  | x :: xs, acc => (F x acc).bind fun acc => lc2O F xs acc
def Lc2T (tg : PyData → En → Option En) (T : List Nat) (tt : M Bool) (it1 : M Src) (tg1 : PyData → En → Option En) (T1 : List Nat) (tt1 : M Bool) (f : M Rv) (W : En) (d : PyData) (acc ys : List PyData) : Prop :=
  ∃ r1, tg d W = some r1 ∧ ∃ r2, tt r1 = .ok true r2 ∧ ∃ s1 r3, it1 r2 = .ok s1 r3 ∧ ∃ r4, lcN s1.nth tg1 T1 tt1 f s1.fuel 0 acc (wipeV r3 T1) = .ok ys r4 ∧ wipeV r4 T = W
theorem lc2_in {items : List γ} {D1 : γ → PyData} {G : γ → Option (Option PyData)} {d : PyData} {acc : List PyData} (h : tg d W = some r1) (h2 : tt r1 = .ok true r2) (I : Its it1 r2 r3 items D1 Kp1) (hw : wipeV r3 T1 = W1) (hW : wipeV W1 T1 = W1) (hk : Kp1 W1) (w : wipeV W1 T = W) (step : ∀ c, Ok (G c) fun o => LcT tg1 T1 tt1 f W1 (D1 c) o) :
    Ok (lcG G items acc) fun ys => Lc2T tg T tt it1 tg1 T1 tt1 f W d acc ys := by
  obtain ⟨src, e, hf, hn⟩ := I.ex
  refine Ok.mono (fun ys q => ?_) (lc_N hW (hn W1 hk) step items src.fuel 0 acc rfl hf)
  exact ⟨r1, h, r2, h2, src, r3, e, W1, by rw [hw]; exact q, w⟩
theorem lc2_N {nth : En → Nat → Option (Option PyData)} {F : β → List PyData → Option (List PyData)} (hW : wipeV W T = W) (hn : ∀ i, nth W i = some (all[i]?.map D)) (step : ∀ b acc, Ok (F b acc) fun ys => Lc2T tg T tt it1 tg1 T1 tt1 f W (D b) acc ys) :
    ∀ (xs : List β) (m i : Nat) (acc : List PyData), all.drop i = xs → xs.length ≤ m → Ok (lc2O F xs acc) fun ys => lc2N nth tg T tt it1 tg1 T1 tt1 f m i acc W = .ok ys W
  | [], m, i, acc, hd, hm => by
    have hi : all[i]? = none := by
      rw [List.getElem?_eq_none_iff]
      have := congrArg List.length hd
      simp only [List.length_drop, List.length_nil] at this
      omega
    refine Ok.some ?_
    cases m <;> (unfold lc2N; rw [hn, hi]; rfl)
  | x :: xs, 0, i, acc, hd, hm => by simp at hm
  | x :: xs, m + 1, i, acc, hd, hm => by
    have hi : all[i]? = some x := by
      have := congrArg (·[0]?) hd
      simpa using this
    have hd2 : all.drop (i + 1) = xs := by
      have := congrArg List.tail hd
      simpa using this
    refine Ok.bind (step x acc) fun ys ⟨r1, e1, r2, e2, s1, r3, e3, r4, e4, w4⟩ => ?_
    unfold lc2N
    rw [hn, hi]
    simp only [Option.map_some, hW, e1, e2, e3, e4, w4]
    exact lc2_N hW hn step xs m (i + 1) ys hd2 (by simpa using hm)
theorem ok_lc2 {F : β → List PyData → Option (List PyData)} (I : Its it r r2 all D Kp) (hc : calm r2 T = true) (hw : wipeV r2 T = W) (hW : wipeV W T = W) (hr : restV r2 W T = r2) (hk : Kp W) (step : ∀ b acc, Ok (F b acc) fun ys => Lc2T tg T tt it1 tg1 T1 tt1 f W (D b) acc ys) :
    Ok (lc2O F all []) fun ys => lc2E it tg T tt it1 tg1 T1 tt1 f r = .ok (.own (.lst ys)) r2 := by
  obtain ⟨src, e, hf, hn⟩ := I.ex
  refine Ok.mono (fun ys h => ?_) (lc2_N hW (hn W hk) step all src.fuel 0 [] rfl hf)
  refine (bnd_ok e).trans ?_
  simp only [hc, if_true, hw, h, hr]
end Pf
namespace Pf
open PySem L2 Mi
variable {d e : PyData} {b c : Bool}
theorem is_B (h1 : asB d = some b) (h2 : asB e = some c) : gIsB d e = some (.val (.bool (decide (b = c)))) := by rw [asB_eq h1, asB_eq h2]; rfl
theorem isnt_B (h1 : asB d = some b) (h2 : asB e = some c) : gIsntB d e = some (.val (.bool (!decide (b = c)))) := by rw [asB_eq h1, asB_eq h2]; rfl
end Pf
namespace Pf
open PySem L2 Mi
variable {r r1 : En} {f : M Rv}
def ssO (ys : List PyData) : Option (List PyData) := (intsOf ys).bind fun ns => if ns.length < 4000 ∧ (sortU ns).length < 64 then some ((sortU ns).map PyData.int) else none
theorem intV_go {x : Rv} {k : Int} (h : f r = .ok x r1) (p : peek r1 x = some (.int k)) : intE f r = .ok (.val (.int k)) r1 := by
  refine (bnd_ok h).trans ?_
  simp only [p]
theorem intsOf_eq : ∀ {ys : List PyData} {ns : List Int}, intsOf ys = some ns → ys = ns.map PyData.int
  | [], ns, h => by injection h with h; subst h; rfl
  | .int i :: ys, ns, h => by
    simp only [intsOf] at h
    cases e : intsOf ys with
    | none => rw [e] at h; cases h
    | some ms => rw [e] at h; injection h with h; subst h; rw [intsOf_eq e]; rfl
  | .none :: _, _, h | .bool _ :: _, _, h | .str _ :: _, _, h | .list _ :: _, _, h | .tuple _ :: _, _, h | .dict _ :: _, _, h => by simp [intsOf] at h
theorem ss_go {it : M Src} {tg : PyData → En → Option En} {T : List Nat} {tt : M Bool} {ys zs : List PyData} (h : lcE it tg T tt (intE f) r = .ok (.own (.lst ys)) r1) (e : ssO ys = some zs) : ssE it tg T tt f r = .ok (.own (.lst zs)) r1 := by
  unfold ssO at e
  cases hq : intsOf ys with
  | none => rw [hq] at e; cases e
  | some ns =>
    rw [hq] at e
    simp only [Option.bind] at e
    split at e
    · rename_i hz
      injection e with e
      subst e
      rw [intsOf_eq hq] at h
      exact ssE_of h hz.1 hz.2
    · cases e
end Pf
namespace Pf
open PySem L2 Mi
variable {r r1 r2 r3 r4 : En} {e f : M Rv} {x y x1 y1 : Rv} {d d2 : PyData} {xs : List PyData}
/-- the items of a list or tuple -/
def seqO : PyData → Option (List PyData)
  | .list xs => some xs
  | .tuple xs => some xs
  | _ => none
theorem its_dat (he : e r = .ok x r1) (hh : hold x r1 = .ok y r2) (hp : peek r2 y = some d) (h : seqO d = some xs) : Its (seqI e) r r2 xs id (Held y d) := by
  unfold seqO at h
  split at h
  · injection h with h; subst h; exact its_seq he hh hp
  · injection h with h; subst h; exact its_tup he hh hp
  · cases h
def zipO : PyData → PyData → Option (List (PyData × PyData))
  | .list xs, .list ys => some (xs.zip ys)
  | .tuple xs, .tuple ys => some (xs.zip ys)
  | _, _ => none
theorem its_zipD {ps : List (PyData × PyData)} (h1 : e r = .ok x r1) (h2 : hold x r1 = .ok x1 r2) (h3 : f r2 = .ok y r3) (h4 : hold y r3 = .ok y1 r4) (p1 : peek r4 x1 = some d) (p2 : peek r4 y1 = some d2) (h : zipO d d2 = some ps) :
    Its (zipI e f) r r4 ps zipD (fun r => Held x1 d r ∧ Held y1 d2 r) := by
  unfold zipO at h
  split at h
  · injection h with h; subst h; exact its_zip h1 h2 h3 h4 p1 p2
  · injection h with h; subst h; exact its_zipT h1 h2 h3 h4 p1 p2
  · cases h
@[simp] theorem seqO_list : seqO (.list xs) = some xs := rfl
@[simp] theorem seqO_tuple : seqO (.tuple xs) = some xs := rfl
@[simp] theorem zipO_list {ys : List PyData} : zipO (.list xs) (.list ys) = some (xs.zip ys) := rfl
@[simp] theorem zipO_tuple {ys : List PyData} : zipO (.tuple xs) (.tuple ys) = some (xs.zip ys) := rfl
end Pf

/-! Pf3.lean -/
set_option Elab.async false
set_option linter.all false
set_option maxRecDepth 100000
/-! plain functions run: equations for plain data, and what holds of a result -/
namespace Pf
open PySem L2 Mi
variable {α β γ σ τ : Type}
/-- there is a result, and it is so -/
def Ev (q : Option α) (P : α → Prop) : Prop := ∃ a, q = some a ∧ P a
theorem Ev.some {a : α} {P : α → Prop} (h : P a) : Ev (Option.some a) P := ⟨a, rfl, h⟩
theorem Ev.bind {q : Option α} {k : α → Option β} {P : α → Prop} {Q : β → Prop} (h : Ev q P) (h2 : ∀ a, P a → Ev (k a) Q) : Ev (q.bind k) Q := by
  obtain ⟨a, e, p⟩ := h
  obtain ⟨b, e2, p2⟩ := h2 a p
  exact ⟨b, by rw [e]; exact e2, p2⟩
theorem Ev.of {q : Option α} {a : α} {P : α → Prop} (h : q = Option.some a) (p : P a) : Ev q P := ⟨a, h, p⟩
theorem Ev.mono {q : Option α} {P Q : α → Prop} (h : Ev q P) (h2 : ∀ a, P a → Q a) : Ev q Q := by
  obtain ⟨a, e, p⟩ := h
  exact ⟨a, e, h2 a p⟩
theorem Ev.ite {c : Bool} {a b : Option α} {Q : α → Prop} (h1 : c = true → Ev a Q) (h2 : c = false → Ev b Q) : Ev (if c = true then a else b) Q := by
  cases c with
  | true => exact h1 rfl
  | false => exact h2 rfl
theorem Ev.eq {q : Option α} {a : α} (h : Ev q fun b => b = a) : q = Option.some a := by
  obtain ⟨b, e, p⟩ := h
  rw [e, p]
theorem Ev.fold {F : σ → β → Option σ} {I : Nat → σ → Prop} : ∀ (xs : List β) (n : Nat) (s : σ), I n s → (∀ (i : Nat) s x, I (n + i) s → xs[i]? = Option.some x → Ev (F s x) fun s' => I (n + i + 1) s') → Ev (foldO F xs s) (I (n + xs.length))
  | [], n, s, h, _ => Ev.some h
  | x :: xs, n, s, h, st => by
    refine Ev.bind (st 0 s x h rfl) fun s' h' => ?_
    have := Ev.fold (F := F) (I := I) xs (n + 1) s' h' fun i s x hi hx => by
      have := st (i + 1) s x (by rw [show n + (i + 1) = n + 1 + i by omega]; exact hi) (by simpa using hx)
      rw [show n + (i + 1) + 1 = n + 1 + i + 1 by omega] at this
      exact this
    rw [show n + 1 + xs.length = n + (x :: xs).length by simp; omega] at this
    exact this
/-- a loop with an invariant -/
theorem Ev.loop {F : σ → β → Option σ} {I : σ → Prop} {xs : List β} {s : σ} (h : I s) (st : ∀ s x, I s → x ∈ xs → Ev (F s x) I) : Ev (foldO F xs s) I :=
  (Ev.fold (I := fun _ => I) xs 0 s h fun i s x hi hx => st s x hi (List.mem_of_getElem? hx)).mono fun _ h => h
theorem Ev.loopX {F : σ → β → Option (Except τ σ)} {I : σ → Prop} {Q : τ → Prop} : ∀ {xs : List β} {s : σ}, I s → (∀ s x, I s → x ∈ xs → Ev (F s x) fun e => match e with | .ok s => I s | .error t => Q t) → Ev (foldXO F xs s) fun e => match e with | .ok s => I s | .error t => Q t
  | [], s, h, _ => Ev.some h
  | x :: xs, s, h, st => by
    refine Ev.bind (st s x h List.mem_cons_self) fun e he => ?_
    cases e with
    | ok s' => exact Ev.loopX (xs := xs) he fun s y hs hy => st s y hs (List.mem_cons_of_mem _ hy)
    | error t => exact Ev.some he
/-- a loop that never returns early -/
theorem Ev.loopN {F : σ → β → Option (Except τ σ)} {I : σ → Prop} {xs : List β} {s : σ} (h : I s) (st : ∀ s x, I s → x ∈ xs → Ev (F s x) fun e => ∃ s', e = .ok s' ∧ I s') : Ev (foldXO F xs s) fun e => ∃ s', e = .ok s' ∧ I s' := by
  have := Ev.loopX (Q := fun _ => False) (F := F) (I := I) (xs := xs) h fun s x hs hx => (st s x hs hx).mono fun e ⟨s', he, hi⟩ => by subst he; exact hi
  exact this.mono fun e he => by
    cases e with
    | ok s' => exact ⟨s', rfl, he⟩
    | error t => exact he.elim
theorem Ev.exO {e : Except τ σ} {k : σ → Option τ} {s : σ} {Q : τ → Prop} (he : e = .ok s) (h : Ev (k s) Q) : Ev (exO e k) Q := by subst he; exact h
/-- a while loop: a number that falls, as long as there is fuel -/
theorem Ev.whl {t : σ → Option Bool} {F : σ → Option σ} {I : Nat → σ → Prop} : ∀ (m : Nat) (s : σ) (n : Nat), I n s → n < m → (∀ n s, I n s → Ev (t s) fun c => c = true → n ≠ 0 ∧ Ev (F s) (I (n - 1))) → Ev (whlO t F m s) fun s' => ∃ n, I n s' ∧ t s' = Option.some false
  | 0, s, n, h, hm, _ => by omega
  | m + 1, s, n, h, hm, st => by
    obtain ⟨c, e, hc⟩ := st n s h
    refine Ev.bind (P := fun x => x = c) ⟨c, e, rfl⟩ fun x hx => ?_
    subst hx
    cases x with
    | false => exact Ev.some ⟨n, h, e⟩
    | true =>
      obtain ⟨h0, hF⟩ := hc rfl
      exact Ev.bind hF fun s' h' => Ev.whl m s' (n - 1) h' (by omega) st
/-! equations -/
section
variable {i j k : Int} {m n : Nat} {s t : Str} {xs ys : List PyData} {d e a b c : PyData} {x y : Bool}
@[simp] theorem asI_int : asI (.int i) = some i := rfl
@[simp] theorem asB_bool : asB (.bool x) = some x := rfl
@[simp] theorem asS_str : asS (.str s) = some s := rfl
@[simp] theorem asL_list : asL (.list xs) = some xs := rfl
@[simp] theorem asT_tuple : asT (.tuple xs) = some xs := rfl
@[simp] theorem ixL_nat : ixL xs ((n : Nat) : Int) = xs[n]? := by
  unfold ixL
  cases h : xs[n]? with
  | some v => exact L2.atI_nat h
  | none =>
    unfold L2.atI L2.ixN
    have := List.getElem?_eq_none_iff.mp h
    simp
    intro q
    omega
theorem ixL_get {v : PyData} (h : xs[n]? = some v) : ixL xs ((n : Nat) : Int) = some v := by rw [ixL_nat, h]
@[simp] theorem ixL_0 : ixL (a :: xs) 0 = some a := ixL_nat (n := 0) (xs := a :: xs)
@[simp] theorem ixL_1 : ixL (a :: b :: xs) 1 = some b := ixL_nat (n := 1) (xs := a :: b :: xs)
@[simp] theorem ixL_2 : ixL (a :: b :: c :: xs) 2 = some c := ixL_nat (n := 2) (xs := a :: b :: c :: xs)
@[simp] theorem ixL_3 : ixL (a :: b :: c :: d :: xs) 3 = some d := ixL_nat (n := 3) (xs := a :: b :: c :: d :: xs)
@[simp] theorem ixO_list : ixO (.list xs) (.int i) = ixL xs i := by
  unfold ixO
  show valO ((L2.atI xs i).map Rv.val) = L2.atI xs i
  cases L2.atI xs i <;> rfl
@[simp] theorem ixO_tuple : ixO (.tuple xs) (.int i) = ixL xs i := by
  unfold ixO
  show valO ((L2.atI xs i).map Rv.val) = L2.atI xs i
  cases L2.atI xs i <;> rfl
@[simp] theorem ixO_str : ixO (.str s) (.int i) = (ixS s i).map .str := by
  unfold ixO ixS
  show valO (if s.length ≤ sizeLine then (L2.atI s.cps.toList i).map fun c => vS ⟨#[c]⟩ else none) = _
  split
  · cases L2.atI s.cps.toList i <;> rfl
  · rfl
theorem setL_nat (h : n < xs.length) : setL xs ((n : Nat) : Int) d = some (xs.set n d) := by
  unfold setL
  rw [Mi.ixN_nat h]
  rfl
@[simp] theorem eqO_int : eqO (.int i) (.int j) = some (decide (i = j)) := by
  unfold eqO
  have h1 : eqOk (.int i) (.int j) = true := rfl
  have h2 : PyData.eqv (.int i) (.int j) = decide (i = j) := by simp only [PyData.eqv]; rw [Bool.eq_iff_iff]; simp
  rw [if_pos h1, h2]
@[simp] theorem eqO_str : eqO (.str s) (.str t) = some (decide (s = t)) := by
  unfold eqO
  have h1 : eqOk (.str s) (.str t) = true := rfl
  have h2 : PyData.eqv (.str s) (.str t) = decide (s = t) := by simp only [PyData.eqv]; rw [Bool.eq_iff_iff]; simp
  rw [if_pos h1, h2]
@[simp] theorem eqO_bool : eqO (.bool x) (.bool y) = some (decide (x = y)) := by
  unfold eqO
  have h1 : eqOk (.bool x) (.bool y) = true := rfl
  have h2 : PyData.eqv (.bool x) (.bool y) = decide (x = y) := by simp only [PyData.eqv]; rw [Bool.eq_iff_iff]; simp
  rw [if_pos h1, h2]
@[simp] theorem eqO_nn : eqO .none .none = some true := rfl
@[simp] theorem eqO_ni : eqO .none (.int i) = some false := rfl
@[simp] theorem eqO_in : eqO (.int i) .none = some false := rfl
@[simp] theorem eqO_ns : eqO .none (.str s) = some false := rfl
@[simp] theorem eqO_sn : eqO (.str s) .none = some false := rfl
@[simp] theorem eqO_is : eqO (.int i) (.str s) = some false := rfl
@[simp] theorem eqO_si : eqO (.str s) (.int i) = some false := rfl
theorem eqO_plain {k : Nat} (h : OkD k d) (h2 : OkD k e) (hk : k ≤ 64) {b : Bool} (hb : b = true ↔ d = e) : eqO d e = some b := by
  have : eqOk d e = true := by unfold eqOk; rw [h.shaped hk, h2.shaped hk]; simp
  unfold eqO
  rw [if_pos this]
  congr 1
  rw [Bool.eq_iff_iff, eqv_iff d e h.plain h2.plain, hb]
@[simp] theorem isNon_none : Mi.isNon .none = true := rfl
@[simp] theorem isNon_int : Mi.isNon (.int i) = false := rfl
@[simp] theorem isNon_str : Mi.isNon (.str s) = false := rfl
@[simp] theorem isNon_bool : Mi.isNon (.bool x) = false := rfl
@[simp] theorem isNon_list : Mi.isNon (.list xs) = false := rfl
@[simp] theorem isNon_tuple : Mi.isNon (.tuple xs) = false := rfl
@[simp] theorem lenO_list : lenO (.list xs) = some (xs.length : Int) := rfl
@[simp] theorem lenO_tuple : lenO (.tuple xs) = some (xs.length : Int) := rfl
@[simp] theorem lenO_str : lenO (.str s) = lenS s := by
  unfold lenO lenS
  show (valO (if s.length ≤ sizeLine then some (vI s.length) else none)).bind asI = _
  split <;> rfl
@[simp] theorem listO_list : listO (.list xs) = some xs := rfl
@[simp] theorem listO_tuple : listO (.tuple xs) = some xs := rfl
@[simp] theorem tupO_list : tupO (.list xs) = some xs := rfl
@[simp] theorem tupO_tuple : tupO (.tuple xs) = some xs := rfl
@[simp] theorem unp2_tup : unp2 (.tuple [a, b]) = some (a, b) := rfl
@[simp] theorem unp3_tup : unp3 (.tuple [a, b, c]) = some (a, b, c) := rfl
@[simp] theorem unp4_tup : unp4 (.tuple [a, b, c, d]) = some (a, b, c, d) := rfl
@[simp] theorem unl2_lst : unl2 [a, b] = some (a, b) := rfl
@[simp] theorem unl3_lst : unl3 [a, b, c] = some (a, b, c) := rfl
@[simp] theorem tyO_list : tyO "list" (.list xs) = some true := rfl
@[simp] theorem tyO_tuple : tyO "tuple" (.tuple xs) = some true := rfl
@[simp] theorem isiO_str : isiO "str" (.str s) = some true := rfl
@[simp] theorem isiO_int : isiO "int" (.int i) = some true := rfl
@[simp] theorem isiO_intb : isiO "bool" (.int i) = some false := rfl
theorem appL_ok (h : xs.length < sizeLine) : appL xs d = some (xs ++ [d]) := if_pos h
theorem addL_ok (h : xs.length + ys.length ≤ sizeLine) : addL xs ys = some (xs ++ ys) := if_pos h
theorem extL_ok (h : xs.length + ys.length ≤ sizeLine) : extL xs ys = some (xs ++ ys) := if_pos h
theorem rngO_ok (h : n ≤ 1000000000) : rngO (n : Int) = some (List.range n) := by
  unfold rngO
  rw [if_pos (by omega), if_pos (by omega), Int.toNat_natCast]
theorem sz_lt (h : n < 1000000) : n < sizeLine := Nat.lt_of_lt_of_le h (by decide)
theorem sz_le (h : n ≤ 1000000) : n ≤ sizeLine := Nat.le_trans h (by decide)
end
/-! comprehensions -/
theorem lcG_eq {F : β → Option (Option PyData)} (t : β → Bool) (f : β → PyData) : ∀ (xs : List β) (acc : List PyData), (∀ b ∈ xs, F b = some (if t b = true then some (f b) else none)) → acc.length + xs.length ≤ sizeLine → lcG F xs acc = some (acc ++ (xs.filter t).map f)
  | [], acc, _, _ => by simp [lcG]
  | x :: xs, acc, h, hz => by
    unfold lcG
    rw [h x List.mem_cons_self]
    rw [List.length_cons] at hz
    have h2 : ∀ b ∈ xs, F b = some (if t b = true then some (f b) else none) := fun b hb => h b (List.mem_cons_of_mem _ hb)
    cases e : t x with
    | true =>
      simp only [if_true, Option.bind_some, e]
      rw [if_pos (by omega), lcG_eq t f xs _ h2 (by simp; omega), List.filter_cons_of_pos e]
      simp
    | false =>
      simp only [Option.bind_some, e, Bool.false_eq_true, if_false]
      rw [lcG_eq t f xs acc h2 (by omega), List.filter_cons_of_neg (by simp [e])]
theorem lcO_eq {F : β → Option (Option PyData)} {xs : List β} (t : β → Bool) (f : β → PyData) (hz : xs.length ≤ sizeLine) (h : ∀ b ∈ xs, F b = some (if t b = true then some (f b) else none)) : lcO F xs = some ((xs.filter t).map f) := by
  unfold lcO
  rw [lcG_eq t f xs [] h (by simpa using hz)]
  rfl
theorem lcO_map {F : β → Option (Option PyData)} {xs : List β} (f : β → PyData) (hz : xs.length ≤ sizeLine) (h : ∀ b ∈ xs, F b = some (some (f b))) : lcO F xs = some (xs.map f) := by
  rw [lcO_eq (fun _ => true) f hz (fun b hb => by rw [h b hb]; rfl), List.filter_eq_self.mpr (fun _ _ => rfl)]
theorem lcP_ok {p : β → Bool} {q : β → PyData} {xs : List β} (h : xs.length ≤ sizeLine) : lcP p q xs = some ((xs.filter p).map q) := if_pos h
theorem mapP_ok {q : β → PyData} {xs : List β} (h : xs.length ≤ sizeLine) : mapP q xs = some (xs.map q) := if_pos h
/-- a loop without early returns, by a fold -/
theorem foldO_eq {F : σ → β → Option σ} (g : σ → β → σ) : ∀ (xs : List β) (s : σ), (∀ s, ∀ x ∈ xs, F s x = some (g s x)) → foldO F xs s = some (xs.foldl g s)
  | [], s, _ => rfl
  | x :: xs, s, h => by
    unfold foldO
    rw [h s x List.mem_cons_self]
    exact foldO_eq g xs (g s x) fun s y hy => h s y (List.mem_cons_of_mem _ hy)
/-- the same under an invariant -/
theorem foldO_inv {F : σ → β → Option σ} (g : σ → β → σ) (I : Nat → σ → Prop) : ∀ (xs : List β) (n : Nat) (s : σ), I n s → (∀ (n : Nat) s, I n s → ∀ x ∈ xs, F s x = some (g s x) ∧ I (n + 1) (g s x)) → foldO F xs s = some (xs.foldl g s) ∧ I (n + xs.length) (xs.foldl g s)
  | [], n, s, h, _ => ⟨rfl, h⟩
  | x :: xs, n, s, h, st => by
    obtain ⟨e, h'⟩ := st n s h x List.mem_cons_self
    unfold foldO
    rw [e]
    obtain ⟨e2, h2⟩ := foldO_inv g I xs (n + 1) (g s x) h' fun n s hs y hy => st n s hs y (List.mem_cons_of_mem _ hy)
    refine ⟨e2, ?_⟩
    rw [List.length_cons, show n + (xs.length + 1) = n + 1 + xs.length by omega]
    exact h2
/-- a search -/
theorem foldX_find {F : σ → β → Option (Except τ σ)} (p : β → Bool) (v : β → τ) {s : σ} : ∀ (xs : List β), (∀ x ∈ xs, ∀ s', F s' x = some (if p x = true then .error (v x) else .ok s')) → foldXO F xs s = some (match xs.find? p with | some x => .error (v x) | none => .ok s)
  | [], _ => rfl
  | x :: xs, h => by
    unfold foldXO
    rw [h x List.mem_cons_self s]
    cases e : p x with
    | true => simp [e]
    | false =>
      simp only [Bool.false_eq_true, if_false, Option.bind_some, e]
      rw [foldX_find p v xs fun y hy => h y (List.mem_cons_of_mem _ hy)]
      simp [List.find?, e]
end Pf
namespace Pf
open PySem L2 Mi
@[simp] theorem ofStr_inj {a b : String} : (PySem.Str.ofString a = PySem.Str.ofString b) ↔ a = b := by
  constructor
  · intro h
    rw [PySem.Str.ofString_eq_toList, PySem.Str.ofString_eq_toList] at h
    have h1 : (a.toList.map Char.toNat) = (b.toList.map Char.toNat) := by
      have := congrArg (fun s : PySem.Str => s.cps.toList) h
      simpa using this
    have h2 : a.toList = b.toList := by
      have inj : ∀ (x y : Char), x.toNat = y.toNat → x = y := fun x y h => Char.ext (UInt32.toNat_inj.mp h)
      revert h1
      generalize a.toList = l
      generalize b.toList = m
      intro h1
      induction l generalizing m with
      | nil => cases m with
        | nil => rfl
        | cons y m => cases h1
      | cons x l ih => cases m with
        | nil => cases h1
        | cons y m =>
          simp only [List.map_cons, List.cons.injEq] at h1
          rw [inj x y h1.1, ih m h1.2]
    exact String.toList_inj.mp h2
  · intro h; rw [h]
end Pf
namespace Pf
open PySem L2 Mi
theorem lcG_map {β : Type} {F : β → Option (Option PyData)} (f : β → PyData) (xs : List β) (acc : List PyData) (h : ∀ b ∈ xs, F b = some (some (f b))) (hz : acc.length + xs.length ≤ sizeLine) : lcG F xs acc = some (acc ++ xs.map f) := by
  rw [lcG_eq (fun _ => true) f xs acc (fun b hb => by rw [h b hb]; rfl) hz, List.filter_eq_self.mpr (fun _ _ => rfl)]
end Pf
namespace Pf
/-- as Option.bind_some, but never by computing -/
theorem bs {α β : Type} {a : α} {f : α → Option β} : (some a).bind f = f a := (rfl : (some a).bind f = f a).trans rfl
theorem asI' {i : Int} : asI (.int i) = some i := (rfl : asI (.int i) = some i).trans rfl
end Pf
namespace Pf
open PySem L2 Mi
variable {β σ τ : Type}
/-- a loop that never returns early, over mapped items, under an invariant -/
theorem foldXO_ok {γ : Type} {F : σ → γ → Option (Except τ σ)} (D : β → γ) (g : σ → β → σ) (I : Nat → σ → Prop) : ∀ (xs : List β) (n : Nat) (s : σ), I n s → (∀ (m : Nat) s, I m s → m < n + xs.length → ∀ x ∈ xs, F s (D x) = some (.ok (g s x)) ∧ I (m + 1) (g s x)) → foldXO F (xs.map D) s = some (.ok (xs.foldl g s)) ∧ I (n + xs.length) (xs.foldl g s)
  | [], n, s, h, _ => ⟨rfl, h⟩
  | x :: xs, n, s, h, st => by
    obtain ⟨e, h'⟩ := st n s h (by rw [List.length_cons]; omega) x List.mem_cons_self
    rw [List.map_cons, foldXO, e]
    obtain ⟨e2, h2⟩ := foldXO_ok D g I xs (n + 1) (g s x) h' fun m s hs hm y hy => st m s hs (by rw [List.length_cons]; omega) y (List.mem_cons_of_mem _ hy)
    refine ⟨e2, ?_⟩
    rw [List.length_cons, show n + (xs.length + 1) = n + 1 + xs.length by omega]
    exact h2
theorem foldO_ok {γ : Type} {F : σ → γ → Option σ} (D : β → γ) (g : σ → β → σ) (I : Nat → σ → Prop) : ∀ (xs : List β) (n : Nat) (s : σ), I n s → (∀ (m : Nat) s, I m s → m < n + xs.length → ∀ x ∈ xs, F s (D x) = some (g s x) ∧ I (m + 1) (g s x)) → foldO F (xs.map D) s = some (xs.foldl g s) ∧ I (n + xs.length) (xs.foldl g s)
  | [], n, s, h, _ => ⟨rfl, h⟩
  | x :: xs, n, s, h, st => by
    obtain ⟨e, h'⟩ := st n s h (by rw [List.length_cons]; omega) x List.mem_cons_self
    rw [List.map_cons, foldO, e]
    obtain ⟨e2, h2⟩ := foldO_ok D g I xs (n + 1) (g s x) h' fun m s hs hm y hy => st m s hs (by rw [List.length_cons]; omega) y (List.mem_cons_of_mem _ hy)
    refine ⟨e2, ?_⟩
    rw [List.length_cons, show n + (xs.length + 1) = n + 1 + xs.length by omega]
    exact h2
theorem foldl_filter {γ : Type} (p : β → Bool) (f : β → γ) : ∀ (xs : List β) (acc : List γ), xs.foldl (fun acc c => if p c = true then acc ++ [f c] else acc) acc = acc ++ (xs.filter p).map f
  | [], acc => by simp
  | x :: xs, acc => by
    rw [List.foldl_cons, foldl_filter p f xs]
    cases e : p x <;> simp [e]
end Pf
namespace Pf
open PySem L2 Mi
variable {σ τ : Type}
theorem foldXO_from {F : σ → Nat → Option (Except τ σ)} (g : Nat → σ) : ∀ (n k : Nat), (∀ i, k ≤ i → i < k + n → F (g i) i = some (.ok (g (i + 1)))) → foldXO F (List.range' k n) (g k) = some (.ok (g (k + n)))
  | 0, k, _ => rfl
  | n + 1, k, h => by
    rw [List.range'_succ, foldXO, h k (Nat.le_refl _) (by omega)]
    have := foldXO_from (F := F) g n (k + 1) fun i h1 h2 => h i (by omega) (by omega)
    rw [show k + (n + 1) = k + 1 + n by omega]
    exact this
/-- a loop over range(n): the state at each number -/
theorem foldXO_range {F : σ → Nat → Option (Except τ σ)} (g : Nat → σ) (n : Nat) (h : ∀ i, i < n → F (g i) i = some (.ok (g (i + 1)))) : foldXO F (List.range n) (g 0) = some (.ok (g n)) := by
  have := foldXO_from (F := F) g n 0 fun i _ hi => h i (by omega)
  rw [List.range_eq_range', this, Nat.zero_add]
theorem foldO_from {F : σ → Nat → Option σ} (g : Nat → σ) : ∀ (n k : Nat), (∀ i, k ≤ i → i < k + n → F (g i) i = some (g (i + 1))) → foldO F (List.range' k n) (g k) = some (g (k + n))
  | 0, k, _ => rfl
  | n + 1, k, h => by
    rw [List.range'_succ, foldO, h k (Nat.le_refl _) (by omega)]
    have := foldO_from (F := F) g n (k + 1) fun i h1 h2 => h i (by omega) (by omega)
    rw [show k + (n + 1) = k + 1 + n by omega]
    exact this
theorem foldO_range {F : σ → Nat → Option σ} (g : Nat → σ) (n : Nat) (h : ∀ i, i < n → F (g i) i = some (g (i + 1))) : foldO F (List.range n) (g 0) = some (g n) := by
  have := foldO_from (F := F) g n 0 fun i _ hi => h i (by omega)
  rw [List.range_eq_range', this, Nat.zero_add]
end Pf

/-! Pf4.lean -/
set_option Elab.async false
set_option linter.all false
set_option maxRecDepth 100000
/-! dicts with nested keys, as plain lists of pairs -/
namespace Pf
open PySem L2 Mi
variable {r r1 r2 r3 r4 : En} {f g h : M Rv} {x y z : Rv} {c : Bool} {kvs kvs' kv0 : List (PyData × PyData)} {d e v : PyData}
def xinO (kvs : List (PyData × PyData)) (d : PyData) : Option Bool := (keyT d).map fun k => (getN kvs k).isSome
def xixO (kvs : List (PyData × PyData)) (d : PyData) : Option PyData := (keyT d).bind fun k => getN kvs k
def xgetO (kvs : List (PyData × PyData)) (d e : PyData) : Option PyData := (keyT d).map fun k => (getN kvs k).getD e
def xputO (kvs : List (PyData × PyData)) (d v : PyData) : Option (List (PyData × PyData)) := (keyT d).bind fun k => if kvs.length < sizeLine then some (putN kvs k d v) else none
def xoneO (d v : PyData) : Option (List (PyData × PyData)) := (keyT d).map fun _ => [(d, v)]
theorem dcG_go {w : Option PyData → Option Rv} {q : Option PyData} {u : Rv} (e1 : dcOf r x = some (.n kvs)) (e2 : peek r y = some d) {k : NestedKey} (e3 : keyT d = some k) (e4 : getN kvs k = q) (e5 : w q = some u) : dcG x y w r = .ok u r := by
  unfold dcG
  rw [e1, e2]
  simp only [DC.get, e3, Option.map_some, e4, e5]
theorem xnew_go : xnewE r = .ok (.own (.ddt [])) r := rfl
theorem xone_go (h1 : f r = .ok (.val d) r1) (h2 : g r1 = .ok (.val v) r2) (e : xoneO d v = some kvs) : xoneE f g r = .ok (.own (.ddt kvs)) r2 := by
  refine (bnd_ok h1).trans ((bnd_ok h2).trans ?_)
  unfold xoneO at e
  cases hk : keyT d with
  | none => rw [hk] at e; cases e
  | some k => rw [hk] at e; injection e with e; subst e; unfold xone; simp only [hk]
theorem xin_go (h1 : f r = .ok x r1) (h2 : g r1 = .ok y r2) (p : peek r2 x = some d) (q : dcOf r2 y = some (.n kvs)) (e : xinO kvs d = some c) : xinE false f g r = .ok (.val (.bool c)) r2 := by
  refine (bnd_ok h1).trans ((bnd_ok h2).trans ?_)
  unfold xinO at e
  obtain ⟨k, hk, e⟩ := Option.map_eq_some_iff.mp e
  exact dcG_go q p hk rfl (by rw [e, Bool.false_bne])
theorem xnin_go (h1 : f r = .ok x r1) (h2 : g r1 = .ok y r2) (p : peek r2 x = some d) (q : dcOf r2 y = some (.n kvs)) (e : xinO kvs d = some c) : xinE true f g r = .ok (.val (.bool (!c))) r2 := by
  refine (bnd_ok h1).trans ((bnd_ok h2).trans ?_)
  unfold xinO at e
  obtain ⟨k, hk, e⟩ := Option.map_eq_some_iff.mp e
  exact dcG_go q p hk rfl (by rw [e, Bool.true_bne])
theorem xix_go (h1 : f r = .ok x r1) (h2 : g r1 = .ok y r2) (q : dcOf r2 x = some (.n kvs)) (p : peek r2 y = some d) (e : xixO kvs d = some v) : xixE f g r = .ok (.val v) r2 := by
  refine (bnd_ok h1).trans ((bnd_ok h2).trans ?_)
  unfold xixO at e
  obtain ⟨k, hk, e⟩ := Option.bind_eq_some_iff.mp e
  exact dcG_go q p hk e rfl
theorem xg_go (h1 : f r = .ok x r1) (q0 : dcOf r1 x = some (.n kv0)) (h2 : g r1 = .ok y r2) (q : dcOf r2 x = some (.n kvs)) (p : peek r2 y = some d) (e : xgetO kvs d .none = some v) : xgE f g r = .ok (.val v) r2 := by
  refine (bnd_ok h1).trans ?_
  simp only [q0]
  refine (bnd_ok h2).trans ?_
  unfold xgetO at e
  obtain ⟨k, hk, e⟩ := Option.map_eq_some_iff.mp e
  exact dcG_go q p hk rfl (by rw [e])
theorem xg2_go (h1 : f r = .ok x r1) (q0 : dcOf r1 x = some (.n kv0)) (h2 : g r1 = .ok y r2) (h3 : h r2 = .ok (.val d0) r3) (q : dcOf r3 x = some (.n kvs)) (p : peek r3 y = some d) (e : xgetO kvs d d0 = some v) : xg2E f g h r = .ok (.val v) r3 := by
  refine (bnd_ok h1).trans ?_
  simp only [q0]
  refine (bnd_ok h2).trans ((bnd_ok h3).trans ?_)
  unfold xgetO at e
  obtain ⟨k, hk, e⟩ := Option.map_eq_some_iff.mp e
  exact dcG_go q p hk rfl (by rw [e])
theorem xlen_go (h1 : f r = .ok x r1) (q : dcOf r1 x = some (.n kvs)) : xlenE f r = .ok (.val (.int (kvs.length : Int))) r1 := by
  refine (bnd_ok h1).trans ?_
  simp only [q]
theorem xlist_go (h1 : f r = .ok x r1) (q : dcOf r1 x = some (.n kvs)) : xlistE f r = .ok (.own (.lst (kvs.map (·.1)))) r1 := by
  refine (bnd_ok h1).trans ?_
  simp only [q]
theorem xst_go {j : Nat} {l : Lo} (h1 : f r = .ok x r1) (h2 : frz x r1 = .ok v r2) (h3 : nmE j r2 = .ok (.at l) r2) (h4 : g r2 = .ok y r4) (q : look r4 l = some (.live (.ddt kvs))) (p : peek r4 y = some d) (e : xputO kvs d v = some kvs') {r5 : En} (e2 : setLo r4 l (.live (.ddt kvs')) = r5) : xstS f j g r = .nx r5 := by
  subst e2
  refine (ofM_ok h1).trans ((ofM_ok h2).trans ((ofM_ok h3).trans ((ofM_ok h4).trans ?_)))
  unfold xputO at e
  obtain ⟨k, hk, e⟩ := Option.bind_eq_some_iff.mp e
  split at e
  · rename_i hz
    injection e with e
    subst e
    unfold xstF
    simp only [q, p, hk, hz, if_true]
  · cases e
end Pf

/-! Pf5.lean -/
set_option Elab.async false
set_option linter.all false
set_option maxRecDepth 100000
/-! frozen dicts, sorted dicts of texts -/
namespace Pf
open PySem L2 Mi
variable {r r1 r2 r3 r4 : En} {f g h : M Rv} {x y z : Rv} {c : Bool} {kvs : List (Key × PyData)} {ys : List Str}
def dctD (kvs : List (Key × PyData)) : PyData := .dict (kvs.map fun p => (keyD p.1, p.2))
theorem frz_k : frz (.own (.dct kvs)) r = .ok (dctD kvs) r := rfl
def sdO (kvs : List (Key × PyData)) : Option (List Str) := (txtKeys kvs).bind sort2
theorem sd_go (h1 : f r = .ok x r1) (p : dctOfX r1 x = some kvs) (e : sdO kvs = some ys) : sdE f r = .ok (.own (.lst (ys.map PyData.str))) r1 := by
  refine (bnd_ok h1).trans ?_
  unfold sdO at e
  simp only [p, e]
end Pf

/-! Lw71.lean -/
set_option Elab.async false
set_option linter.all false
set_option maxRecDepth 100000
namespace Lw
open PySem PySem.Spec PyProof.Rows L2 Mi
def topS (i : Nat) : Stmt := PySem.Challenge.pw_fdwires_k71_fates_of_heads.main.body.getD i (.Pass ⟨0, 0, 0, 0⟩)
/-- the names of the top that are read -/
structure Nm (K : PySem.W.Frag) (w : World) (mg : Str → Option Value) : Prop where
  b_len : mg "len" = none
  b_tuple : mg "tuple" = none
  b_range : mg "range" = none
  b_int : mg "int" = none
  b_max : mg "max" = none
  b_min : mg "min" = none
  b_sorted : mg "sorted" = none
  b_repr : mg "repr" = none
  b_isinstance : mg "isinstance" = none
  b_bool : mg "bool" = none
def m_WireError : Str → Option Bool := takeL [("InvalidNumber", true), ("InvalidCapacity", true)]
def mi_InvalidIndex_InvalidText : Str → Option Bool := takeL [("InvalidNumber", false), ("InvalidCapacity", false)]
def mi_InvalidNumber : Str → Option Bool := takeL [("InvalidNumber", true), ("InvalidCapacity", false)]
def mi_InvalidCapacity : Str → Option Bool := takeL [("InvalidNumber", false), ("InvalidCapacity", true)]
def mi_ValueError : Str → Option Bool := takeL [("InvalidNumber", true), ("InvalidCapacity", true)]
/-! _law_tank -/
abbrev s__law_tank : Stmt := topS 13
theorem sc__law_tank : FnScope ["script", "k", "cell"] ["script", "k"] (defScope s__law_tank) := ⟨rfl, rfl, rfl, by decide +kernel, rfl, by decide +kernel, by decide +kernel⟩
def b__law_tank : Stm := seqS (setS 2 (iteE (tstB (binE gLt (nmE 1) (unE gLen (nmE 0)))) (binE gIx (nmE 0) (nmE 1)) (kE (.int 0)))) <| retS (lstE (consL (binE gMax2 (kE (.int 0)) (binE gSubI (nmE 2) (binE gPow (kE (.int 10)) (kE (.int 18))))) (consL (binE gAdd (binE gAdd (binE gMul (binE gMod (nmE 2) (binE gAdd (binE gPow (kE (.int 10)) (kE (.int 36))) (kE (.int 67)))) (kE (.int 97))) (binE gMul (kE (.int 13)) (nmE 1))) (kE (.int 5))) (consL (kE (.int 0)) (nilL)))))
abbrev G__law_tank : List Ag → FR := runF 2 3 b__law_tank
theorem k__law_tank {P : Program} {w : World} {K : PySem.W.Frag} {mg : Str → Option Value} {base : Heap} {f : Addr} {fd : FuncData} (F : Fun K "_law_tank" "_law_tank" s__law_tank f fd) (N : Nm K w mg)  : FnG P w K mg base 1 f fd ["script", "k"] (spF ⟨K, P, w, none⟩ 2 3 b__law_tank) :=
  fg_of F sc__law_tank rfl rfl fun cdv A outer s H β E hr hgd tk po => sv_cons (sv_set (i := 2) sc__law_tank.nd rfl (by first | exact Or.inl rfl | exact Or.inr rfl) (ev_ite (tv_cmp op_lt (nomark _) o_cmp (ev_nm 1 (pv 1)) (ev_b1 call_len o_len (by rfl) N.b_len (by decide +kernel) (ev_nm 0 (pv 0)))) (ev_ix ix_seq (fun _ _ => rfl) o_ix (ev_nm 0 (pv 0)) (ev_nm 1 (pv 1))) (ev_int))) <| sv_one (sv_ret (ev_lst (al_cons (ev_b2 (call_max2 rfl) o_max2 (by rfl) N.b_max (by decide +kernel) (ev_int) (ev_bin op_sub o_sub (ev_nm 2 (pv 2)) (ev_bin op_powW o_pow (ev_int) (ev_int)))) (al_cons (ev_bin op_addX o_add (ev_bin op_addX o_add (ev_bin op_mulW o_mul (ev_bin op_mod o_mod (ev_nm 2 (pv 2)) (ev_bin op_addX o_add (ev_bin op_powW o_pow (ev_int) (ev_int)) (ev_int))) (ev_int)) (ev_bin op_mulW o_mul (ev_int) (ev_nm 1 (pv 1)))) (ev_int)) (al_cons (ev_int) (al_nil))))))
/-! is_integer -/
abbrev s_is_integer : Stmt := topS 7
theorem sc_is_integer : FnScope ["value"] ["value"] (defScope s_is_integer) := ⟨rfl, rfl, rfl, by decide +kernel, rfl, by decide +kernel, by decide +kernel⟩
def b_is_integer : Stm := retS (andE (unE (gIsi "int") (nmE 0)) (notE (unE (gIsi "bool") (nmE 0))))
abbrev G_is_integer : List Ag → FR := runF 1 1 b_is_integer
theorem k_is_integer {P : Program} {w : World} {K : PySem.W.Frag} {mg : Str → Option Value} {base : Heap} {f : Addr} {fd : FuncData} (F : Fun K "is_integer" "is_integer" s_is_integer f fd) (N : Nm K w mg)  : FnG P w K mg base 1 f fd ["value"] (spF ⟨K, P, w, none⟩ 1 1 b_is_integer) :=
  fg_of F sc_is_integer rfl rfl fun cdv A outer s H β E hr hgd tk po => sv_one (sv_ret (ev_and (ev_isi isi_int (by rfl) N.b_isinstance (by rfl) N.b_int (by decide +kernel) (ev_nm 0 (pv 0))) (ev_and1 (ev_not (ev_isi isi_bool (by rfl) N.b_isinstance (by rfl) N.b_bool (by decide +kernel) (ev_nm 0 (pv 0)))))))
/-! check_units -/
abbrev s_check_units : Stmt := topS 10
theorem sc_check_units : FnScope ["value"] ["value"] (defScope s_check_units) := ⟨rfl, rfl, rfl, by decide +kernel, rfl, by decide +kernel, by decide +kernel⟩
def b_check_units : Stm := ifS (orB (notB (tstT (callE G_is_integer (consR (nmE 0) (nilR))))) (tstB (binE gLt (nmE 0) (kE (.int 1))))) (raiS "InvalidNumber") (nxS)
abbrev G_check_units : List Ag → FR := runF 1 1 b_check_units
theorem k_check_units {P : Program} {w : World} {K : PySem.W.Frag} {mg : Str → Option Value} {base : Heap} {f : Addr} {fd : FuncData} (F : Fun K "check_units" "check_units" s_check_units f fd) (N : Nm K w mg) (D_is_integer : Def P w K mg base "is_integer" 1 1 1 b_is_integer) (E_InvalidNumber : ExD K mg "InvalidNumber") : FnG P w K mg base 2 f fd ["value"] (spF ⟨K, P, w, none⟩ 1 1 b_check_units) :=
  fg_of F sc_check_units rfl rfl fun cdv A outer s H β E hr hgd tk po => sv_one (sv_if ((tv_or (tv_not (tv_truth (ev_callD (D_is_integer.mono (by decide)) hr hgd tk (by rfl) (by decide) (ar_cons (ev_nm 0 (pv 0)) (ar_nil))))) (tv_or1 (tv_cmp op_lt (nomark _) o_cmp (ev_nm 0 (pv 0)) (ev_int)))).pt) (sv_one (sv_raise0 rfl tk E_InvalidNumber (by rfl))) (sv_nil))
/-! check_capacity -/
abbrev s_check_capacity : Stmt := topS 8
theorem sc_check_capacity : FnScope ["value"] ["value"] (defScope s_check_capacity) := ⟨rfl, rfl, rfl, by decide +kernel, rfl, by decide +kernel, by decide +kernel⟩
def b_check_capacity : Stm := ifS (orB (notB (tstT (callE G_is_integer (consR (nmE 0) (nilR))))) (tstB (binE gLt (nmE 0) (kE (.int 1))))) (raiS "InvalidCapacity") (nxS)
abbrev G_check_capacity : List Ag → FR := runF 1 1 b_check_capacity
theorem k_check_capacity {P : Program} {w : World} {K : PySem.W.Frag} {mg : Str → Option Value} {base : Heap} {f : Addr} {fd : FuncData} (F : Fun K "check_capacity" "check_capacity" s_check_capacity f fd) (N : Nm K w mg) (D_is_integer : Def P w K mg base "is_integer" 1 1 1 b_is_integer) (E_InvalidCapacity : ExD K mg "InvalidCapacity") : FnG P w K mg base 2 f fd ["value"] (spF ⟨K, P, w, none⟩ 1 1 b_check_capacity) :=
  fg_of F sc_check_capacity rfl rfl fun cdv A outer s H β E hr hgd tk po => sv_one (sv_if ((tv_or (tv_not (tv_truth (ev_callD (D_is_integer.mono (by decide)) hr hgd tk (by rfl) (by decide) (ar_cons (ev_nm 0 (pv 0)) (ar_nil))))) (tv_or1 (tv_cmp op_lt (nomark _) o_cmp (ev_nm 0 (pv 0)) (ev_int)))).pt) (sv_one (sv_raise0 rfl tk E_InvalidCapacity (by rfl))) (sv_nil))
/-! head_fates -/
abbrev s_head_fates : Stmt := topS 11
theorem sc_head_fates : FnScope ["written", "taken", "capacity"] ["written", "taken", "capacity"] (defScope s_head_fates) := ⟨rfl, rfl, rfl, by decide +kernel, rfl, by decide +kernel, by decide +kernel⟩
def b_head_fates : Stm := seqS (dropS (callE G_check_units (consR (nmE 0) (nilR)))) <| seqS (dropS (callE G_check_units (consR (nmE 1) (nilR)))) <| seqS (dropS (callE G_check_capacity (consR (nmE 2) (nilR)))) <| seqS (ifS (tstB (binE gGt (nmE 0) (binE gAdd (nmE 1) (nmE 2)))) (retS (tupE (consL (kE (.str "broken")) (nilL)))) (nxS)) <| retS (iteE (tstB (binE gLe (nmE 0) (nmE 1))) (tupE (consL (kE (.str "over")) (nilL))) (tupE (consL (kE (.str "broken")) (consL (kE (.str "over")) (nilL)))))
abbrev G_head_fates : List Ag → FR := runF 3 3 b_head_fates
theorem k_head_fates {P : Program} {w : World} {K : PySem.W.Frag} {mg : Str → Option Value} {base : Heap} {f : Addr} {fd : FuncData} (F : Fun K "head_fates" "head_fates" s_head_fates f fd) (N : Nm K w mg) (D_check_units : Def P w K mg base "check_units" 2 1 1 b_check_units) (D_check_capacity : Def P w K mg base "check_capacity" 2 1 1 b_check_capacity) : FnG P w K mg base 3 f fd ["written", "taken", "capacity"] (spF ⟨K, P, w, none⟩ 3 3 b_head_fates) :=
  fg_of F sc_head_fates rfl rfl fun cdv A outer s H β E hr hgd tk po => sv_cons (sv_expr (ev_callD (D_check_units.mono (by decide)) hr hgd tk (by rfl) (by decide) (ar_cons (ev_nm 0 (pv 0)) (ar_nil)))) <| sv_cons (sv_expr (ev_callD (D_check_units.mono (by decide)) hr hgd tk (by rfl) (by decide) (ar_cons (ev_nm 1 (pv 1)) (ar_nil)))) <| sv_cons (sv_expr (ev_callD (D_check_capacity.mono (by decide)) hr hgd tk (by rfl) (by decide) (ar_cons (ev_nm 2 (pv 2)) (ar_nil)))) <| sv_cons (sv_if (tv_cmp op_gt (nomark _) o_cmp (ev_nm 0 (pv 0)) (ev_bin op_addX o_add (ev_nm 1 (pv 1)) (ev_nm 2 (pv 2)))) (sv_one (sv_ret (ev_tup (al_cons (ev_str) (al_nil))))) (sv_nil)) <| sv_one (sv_ret (ev_ite (tv_cmp op_le (nomark _) o_cmp (ev_nm 0 (pv 0)) (ev_nm 1 (pv 1))) (ev_tup (al_cons (ev_str) (al_nil))) (ev_tup (al_cons (ev_str) (al_cons (ev_str) (al_nil))))))
/-! _law_drip -/
abbrev s__law_drip : Stmt := topS 14
theorem sc__law_drip : FnScope ["tank", "many", "found", "mixed"] ["tank", "many"] (defScope s__law_drip) := ⟨rfl, rfl, rfl, by decide +kernel, rfl, by decide +kernel, by decide +kernel⟩
def b__law_drip : Stm := seqS (ifS (tstB (binE gGt (binE gIx (nmE 0) (kE (.int 0))) (kE (.int 0)))) (seqS (setS 2 (binE gMod (binE gIx (nmE 0) (kE (.int 0))) (nmE 1))) <| seqS (stoS (binE gDiv (binE gIx (nmE 0) (kE (.int 0))) (nmE 1)) 0 (kE (.int 0))) <| retS (nmE 2)) (nxS)) <| seqS (stoS (binE gAdd (binE gIx (nmE 0) (kE (.int 2))) (kE (.int 1))) 0 (kE (.int 2))) <| seqS (setS 3 (binE gMod (binE gPow (binE gAdd (binE gIx (nmE 0) (kE (.int 1))) (binE gMul (kE (.int 314159269)) (binE gIx (nmE 0) (kE (.int 2))))) (kE (.int 3))) (binE gAdd (binE gPow (kE (.int 10)) (kE (.int 39))) (kE (.int 3))))) <| seqS (setS 3 (binE gMod (binE gPow (binE gAdd (nmE 3) (binE gMul (kE (.int 27182819)) (binE gIx (nmE 0) (kE (.int 2))))) (kE (.int 3))) (binE gAdd (binE gPow (kE (.int 10)) (kE (.int 37))) (kE (.int 43))))) <| retS (binE gMod (binE gDiv (nmE 3) (kE (.int 524309))) (nmE 1))
abbrev G__law_drip : List Ag → FR := runF 2 4 b__law_drip
theorem k__law_drip {P : Program} {w : World} {K : PySem.W.Frag} {mg : Str → Option Value} {base : Heap} {f : Addr} {fd : FuncData} (F : Fun K "_law_drip" "_law_drip" s__law_drip f fd) (N : Nm K w mg)  : FnG P w K mg base 1 f fd ["tank", "many"] (spF ⟨K, P, w, none⟩ 2 4 b__law_drip) :=
  fg_of F sc__law_drip rfl rfl fun cdv A outer s H β E hr hgd tk po => sv_cons (sv_if (tv_cmp op_gt (nomark _) o_cmp (ev_ix ix_seq (fun _ _ => rfl) o_ix (ev_nm 0 (pv 0)) (ev_int)) (ev_int)) (sv_cons (sv_set (i := 2) sc__law_drip.nd rfl (by first | exact Or.inl rfl | exact Or.inr rfl) (ev_bin op_mod o_mod (ev_ix ix_seq (fun _ _ => rfl) o_ix (ev_nm 0 (pv 0)) (ev_int)) (ev_nm 1 (pv 1)))) <| sv_cons (sv_sto (ev_bin op_fdivW o_div (ev_ix ix_seq (fun _ _ => rfl) o_ix (ev_nm 0 (pv 0)) (ev_int)) (ev_nm 1 (pv 1))) (pg_sub (ev_nm 0 (pv 0)) (ev_int) set_list)) <| sv_one (sv_ret (ev_nm 2 (pv 2)))) (sv_nil)) <| sv_cons (sv_sto (ev_bin op_addX o_add (ev_ix ix_seq (fun _ _ => rfl) o_ix (ev_nm 0 (pv 0)) (ev_int)) (ev_int)) (pg_sub (ev_nm 0 (pv 0)) (ev_int) set_list)) <| sv_cons (sv_set (i := 3) sc__law_drip.nd rfl (by first | exact Or.inl rfl | exact Or.inr rfl) (ev_bin op_mod o_mod (ev_bin op_powW o_pow (ev_bin op_addX o_add (ev_ix ix_seq (fun _ _ => rfl) o_ix (ev_nm 0 (pv 0)) (ev_int)) (ev_bin op_mulW o_mul (ev_int) (ev_ix ix_seq (fun _ _ => rfl) o_ix (ev_nm 0 (pv 0)) (ev_int)))) (ev_int)) (ev_bin op_addX o_add (ev_bin op_powW o_pow (ev_int) (ev_int)) (ev_int)))) <| sv_cons (sv_set (i := 3) sc__law_drip.nd rfl (by first | exact Or.inl rfl | exact Or.inr rfl) (ev_bin op_mod o_mod (ev_bin op_powW o_pow (ev_bin op_addX o_add (ev_nm 3 (pv 3)) (ev_bin op_mulW o_mul (ev_int) (ev_ix ix_seq (fun _ _ => rfl) o_ix (ev_nm 0 (pv 0)) (ev_int)))) (ev_int)) (ev_bin op_addX o_add (ev_bin op_powW o_pow (ev_int) (ev_int)) (ev_int)))) <| sv_one (sv_ret (ev_bin op_mod o_mod (ev_bin op_fdivW o_div (ev_nm 3 (pv 3)) (ev_int)) (ev_nm 1 (pv 1))))
/-! _law_told -/
abbrev s__law_told : Stmt := topS 17
theorem sc__law_told : FnScope ["one", "two", "three", "told", "e"] ["one", "two", "three"] (defScope s__law_told) := ⟨rfl, rfl, rfl, by decide +kernel, rfl, by decide +kernel, by decide +kernel⟩
def b__law_told : Stm := seqS (setS 3 (kE .none)) <| seqS (tryA 4 (setS 3 (callE G_head_fates (consR (nmE 0) (consR (nmE 1) (consR (nmE 2) (nilR)))))) m_WireError (seqS (setS 3 (binE gIx (lstE (consL (kE (.str "capacity")) (consL (kE (.str "number")) (nilL)))) (unE gIntX (isxE 4 mi_InvalidNumber)))) <| seqS (ifS (orB (tstB (binE gEq (isxE 4 mi_InvalidNumber) (isxE 4 mi_InvalidCapacity))) (notB (tstT (isxE 4 mi_ValueError)))) (setS 3 (kE (.str "odd"))) (nxS)) <| ifS (tstT (isxE 4 mi_InvalidIndex_InvalidText)) (setS 3 (kE (.str "odd"))) (nxS))) <| retS (nmE 3)
abbrev G__law_told : List Ag → FR := runF 3 5 b__law_told
theorem k__law_told {P : Program} {w : World} {K : PySem.W.Frag} {mg : Str → Option Value} {base : Heap} {f : Addr} {fd : FuncData} (F : Fun K "_law_told" "_law_told" s__law_told f fd) (N : Nm K w mg) (D_head_fates : Def P w K mg base "head_fates" 3 3 3 b_head_fates) (T_WireError : Takers K mg "WireError" m_WireError) (IB_InvalidIndex_InvalidText : IsxT K mg ["InvalidIndex", "InvalidText"] mi_InvalidIndex_InvalidText) (IB_InvalidNumber : IsxT K mg ["InvalidNumber"] mi_InvalidNumber) (IB_InvalidCapacity : IsxT K mg ["InvalidCapacity"] mi_InvalidCapacity) (IB_ValueError : IsxT K mg ["ValueError"] mi_ValueError) : FnG P w K mg base 4 f fd ["one", "two", "three"] (spF ⟨K, P, w, none⟩ 3 5 b__law_told) :=
  fg_of F sc__law_told rfl rfl fun cdv A outer s H β E hr hgd tk po => sv_cons (sv_set (i := 3) sc__law_told.nd rfl (by first | exact Or.inl rfl | exact Or.inr rfl) (ev_non)) <| sv_cons (sv_tryA (i := 4) rfl rfl sc__law_told.nd rfl rfl T_WireError (by rfl) tk (fun W1 pn xe tk1 po1 => sv_one (sv_set (i := 3) sc__law_told.nd rfl (by first | exact Or.inl rfl | exact Or.inr rfl) (ev_callD (D_head_fates.mono (by decide)) hr hgd tk1 (by rfl) (by decide) (ar_cons (ev_nm 0 (pv 0)) (ar_cons (ev_nm 1 (pv 1)) (ar_cons (ev_nm 2 (pv 2)) (ar_nil))))))) (fun a oe cls dd pn hz hf => sv_cons (sv_set (i := 3) sc__law_told.nd rfl (by first | exact Or.inl rfl | exact Or.inr rfl) (ev_ix ix_seq (fun _ _ => rfl) o_ix (ev_lst (al_cons (ev_str) (al_cons (ev_str) (al_nil)))) (ev_t1 (L2.CallR.or call_int_str call_int1) o_intX (by rfl) N.b_int (by decide +kernel) (ev_isxN (i := 4) IB_InvalidNumber (by rfl) N.b_isinstance (by rfl) hz hf (pv 4) (by decide +kernel))))) <| sv_cons (sv_if ((tv_or (tv_cmp (op_eqX hr.units) (nomark _) o_eq (ev_isxN (i := 4) IB_InvalidNumber (by rfl) N.b_isinstance (by rfl) hz hf (pv 4) (by decide +kernel)) (ev_isxN (i := 4) IB_InvalidCapacity (by rfl) N.b_isinstance (by rfl) hz hf (pv 4) (by decide +kernel))) (tv_or1 (tv_not (tv_truth (ev_isxN (i := 4) IB_ValueError (by rfl) N.b_isinstance (by rfl) hz hf (pv 4) (by decide +kernel)))))).pt) (sv_one (sv_set (i := 3) sc__law_told.nd rfl (by first | exact Or.inl rfl | exact Or.inr rfl) (ev_str))) (sv_nil)) <| sv_one (sv_if (tv_truth (ev_isxNs (i := 4) IB_InvalidIndex_InvalidText (.cons (by rfl) (by decide +kernel) (by rfl) (.cons (by rfl) (by decide +kernel) (by rfl) .nil)) (by rfl) N.b_isinstance hz hf (pv 4))) (sv_one (sv_set (i := 3) sc__law_told.nd rfl (by first | exact Or.inl rfl | exact Or.inr rfl) (ev_str))) (sv_nil)))) <| sv_one (sv_ret (ev_nm 3 (pv 3)))
/-! _law_next -/
abbrev s__law_next : Stmt := topS 15
theorem sc__law_next : FnScope ["place", "most", "goal", "size", "sent", "got", "is_kept", "found"] ["place", "most", "goal", "size"] (defScope s__law_next) := ⟨rfl, rfl, rfl, by decide +kernel, rfl, by decide +kernel, by decide +kernel⟩
def b__law_next : Stm := seqS (unpS [4, 5, 6] (nmE 0)) <| seqS (setS 7 (iteE (tstT (nmE 6)) (lstE (consL (tupE (consL (nmE 4) (consL (nmE 5) (consL (kE (.bool false)) (nilL))))) (nilL))) (lstE (nilL)))) <| seqS (ifS (andB (tstB (binE gLt (nmE 5) (nmE 2))) (tstB (binE gGt (nmE 4) (nmE 5)))) (dropS (mutE 7 uApp (consL (tupE (consL (nmE 4) (consL (binE gAdd (nmE 5) (kE (.int 1))) (consL (nmE 6) (nilL))))) (nilL)))) (nxS)) <| seqS (ifS (tstB (chE gLe gLt (kE (.int 0)) (nmE 4) (nmE 1))) (ifS (andB (tstB (binE gEq (nmE 5) (nmE 2))) (notB (tstT (nmE 6)))) (dropS (mutE 7 uApp (consL (tupE (consL (unE gNeg (kE (.int 1))) (consL (nmE 5) (consL (nmE 6) (nilL))))) (nilL)))) (ifS (tstB (binE gLt (binE gSubI (nmE 4) (nmE 5)) (nmE 3))) (dropS (mutE 7 uApp (consL (tupE (consL (binE gAdd (nmE 4) (kE (.int 1))) (consL (nmE 5) (consL (nmE 6) (nilL))))) (nilL)))) (nxS))) (nxS)) <| retS (nmE 7)
abbrev G__law_next : List Ag → FR := runF 4 8 b__law_next
theorem k__law_next {P : Program} {w : World} {K : PySem.W.Frag} {mg : Str → Option Value} {base : Heap} {f : Addr} {fd : FuncData} (F : Fun K "_law_next" "_law_next" s__law_next f fd) (N : Nm K w mg)  : FnG P w K mg base 1 f fd ["place", "most", "goal", "size"] (spF ⟨K, P, w, none⟩ 4 8 b__law_next) :=
  fg_of F sc__law_next rfl rfl fun cdv A outer s H β E hr hgd tk po => sv_cons (sv_unp (is := [4, 5, 6]) (ev_nm 0 (pv 0)) (pg_tup rfl (pgs_cons (pg_name (i := 4) sc__law_next.nd rfl (by first | exact Or.inl rfl | exact Or.inr rfl)) (pgs_cons (pg_name (i := 5) sc__law_next.nd rfl (by first | exact Or.inl rfl | exact Or.inr rfl)) (pgs_cons (pg_name (i := 6) sc__law_next.nd rfl (by first | exact Or.inl rfl | exact Or.inr rfl)) (pgs_nil)))))) <| sv_cons (sv_set (i := 7) sc__law_next.nd rfl (by first | exact Or.inl rfl | exact Or.inr rfl) (ev_ite (tv_truth (ev_nm 6 (pv 6))) (ev_lst (al_cons (ev_tup (al_cons (ev_nm 4 (pv 4)) (al_cons (ev_nm 5 (pv 5)) (al_cons (ev_bl) (al_nil))))) (al_nil))) (ev_lst (al_nil)))) <| sv_cons (sv_if ((tv_and (tv_cmp op_lt (nomark _) o_cmp (ev_nm 5 (pv 5)) (ev_nm 2 (pv 2))) (tv_and1 (tv_cmp op_gt (nomark _) o_cmp (ev_nm 4 (pv 4)) (ev_nm 5 (pv 5))))).pt) (sv_one (sv_expr (ev_mut (pe_bm PySem.F.plainAttrs_list PySem.F.slot_list_append PySem.F.type_list_append mt_append (ev_nm 7 (pv 7)) (al_cons (ev_tup (al_cons (ev_nm 4 (pv 4)) (al_cons (ev_bin op_addX o_add (ev_nm 5 (pv 5)) (ev_int)) (al_cons (ev_nm 6 (pv 6)) (al_nil))))) (al_nil))) m_app))) (sv_nil)) <| sv_cons (sv_if (tv_chain op_le op_lt o_cmp o_cmp (ev_int) (ev_nm 4 (pv 4)) (ev_nm 1 (pv 1))) (sv_one (sv_if ((tv_and (tv_cmp (op_eqX hr.units) (nomark _) o_eq (ev_nm 5 (pv 5)) (ev_nm 2 (pv 2))) (tv_and1 (tv_not (tv_truth (ev_nm 6 (pv 6)))))).pt) (sv_one (sv_expr (ev_mut (pe_bm PySem.F.plainAttrs_list PySem.F.slot_list_append PySem.F.type_list_append mt_append (ev_nm 7 (pv 7)) (al_cons (ev_tup (al_cons (ev_un un_neg o_neg (ev_int)) (al_cons (ev_nm 5 (pv 5)) (al_cons (ev_nm 6 (pv 6)) (al_nil))))) (al_nil))) m_app))) (sv_one (sv_if (tv_cmp op_lt (nomark _) o_cmp (ev_bin op_sub o_sub (ev_nm 4 (pv 4)) (ev_nm 5 (pv 5))) (ev_nm 3 (pv 3))) (sv_one (sv_expr (ev_mut (pe_bm PySem.F.plainAttrs_list PySem.F.slot_list_append PySem.F.type_list_append mt_append (ev_nm 7 (pv 7)) (al_cons (ev_tup (al_cons (ev_bin op_addX o_add (ev_nm 4 (pv 4)) (ev_int)) (al_cons (ev_nm 5 (pv 5)) (al_cons (ev_nm 6 (pv 6)) (al_nil))))) (al_nil))) m_app))) (sv_nil))))) (sv_nil)) <| sv_one (sv_ret (ev_nm 7 (pv 7)))
/-! _law_fates -/
abbrev s__law_fates : Stmt := topS 16
theorem sc__law_fates : FnScope ["most", "goal", "size", "known", "waiting", "found", "place"] ["most", "goal", "size"] (defScope s__law_fates) := ⟨rfl, rfl, rfl, by decide +kernel, rfl, by decide +kernel, by decide +kernel⟩
def b__law_fates : Stm := seqS (par3S 3 4 5 (consR (xnewE) (consR (lstE (consL (tupE (consL (kE (.int 0)) (consL (kE (.int 0)) (consL (kE (.bool true)) (nilL))))) (nilL))) (consR (dnewE) (nilR))))) <| seqS (whlN (tstB (binE gNe (nmE 4) (lstE (nilL)))) (seqS (setS 6 (mutE 4 uPop0 nilL)) <| ifS (tstB (xinE true (nmE 6) (nmE 3))) (seqS (xstS (kE (.bool true)) 3 (nmE 6)) <| seqS (dropS (mutE 4 uExt (consL (callE G__law_next (consR (nmE 6) (consR (nmE 0) (consR (nmE 1) (consR (nmE 2) (nilR)))))) (nilL)))) <| seqS (ifS (tstB (binE gLt (binE gIx (nmE 6) (kE (.int 0))) (kE (.int 0)))) (dstS (kE (.bool true)) 5 (kE (.str "broken"))) (nxS)) <| ifS (tstB (binE gEq (binE gIx (nmE 6) (kE (.int 0))) (nmE 0))) (dstS (kE (.bool true)) 5 (kE (.str "over"))) (nxS)) (nxS)) 1000) <| retS (unE gTuple (sdE (nmE 5)))
abbrev G__law_fates : List Ag → FR := runF 3 7 b__law_fates
theorem k__law_fates {P : Program} {w : World} {K : PySem.W.Frag} {mg : Str → Option Value} {base : Heap} {f : Addr} {fd : FuncData} (F : Fun K "_law_fates" "_law_fates" s__law_fates f fd) (N : Nm K w mg) (D__law_next : Def P w K mg base "_law_next" 1 4 8 b__law_next) : FnG P w K mg base 2 f fd ["most", "goal", "size"] (spF ⟨K, P, w, none⟩ 3 7 b__law_fates) :=
  fg_of F sc__law_fates rfl rfl fun cdv A outer s H β E hr hgd tk po => sv_cons (sv_par3 rfl sc__law_fates.nd rfl rfl rfl (by decide) (by decide) (by decide) rfl rfl rfl (ar_cons (ev_xnew) (ar_cons (ev_lst (al_cons (ev_tup (al_cons (ev_int) (al_cons (ev_int) (al_cons (ev_bl) (al_nil))))) (al_nil))) (ar_cons (ev_dnew) (ar_nil)))) (by rfl)) <| sv_cons (sv_while 1000 po (tv_cmp (op_neX hr.units) (nomark _) o_ne (ev_nm 4 (pv 4)) (ev_lst (al_nil))) (sv_cons (sv_set (i := 6) sc__law_fates.nd rfl (by first | exact Or.inl rfl | exact Or.inr rfl) (ev_mut0 (pe_bm0 PySem.F.plainAttrs_list PySem.F.slot_list_pop PySem.F.type_list_pop mt_pop (ev_nm 4 (pv 4))) m_pop0)) <| sv_one (sv_if (tv_xnotin (u10 hr) (ev_nm 6 (pv 6)) (ev_nm 3 (pv 3)) (by rfl)) (sv_cons (sv_xst (ev_bl) (pg_sub (ev_nm 3 (pv 3)) (ev_nm 6 (pv 6)) (set_x (u10 hr)))) <| sv_cons (sv_expr (ev_mut (pe_bm PySem.F.plainAttrs_list PySem.F.slot_list_extend PySem.F.type_list_extend mt_extX (ev_nm 4 (pv 4)) (al_cons (ev_callD (D__law_next.mono (by decide)) hr hgd tk (by rfl) (by decide) (ar_cons (ev_nm 6 (pv 6)) (ar_cons (ev_nm 0 (pv 0)) (ar_cons (ev_nm 1 (pv 1)) (ar_cons (ev_nm 2 (pv 2)) (ar_nil)))))) (al_nil))) m_ext)) <| sv_cons (sv_if (tv_cmp op_lt (nomark _) o_cmp (ev_ix ix_seq (fun _ _ => rfl) o_ix (ev_nm 6 (pv 6)) (ev_int)) (ev_int)) (sv_one (sv_dst (ev_bl) (pg_sub (ev_nm 5 (pv 5)) (ev_str) (set_dict (u1 hr))))) (sv_nil)) <| sv_one (sv_if (tv_cmp (op_eqX hr.units) (nomark _) o_eq (ev_ix ix_seq (fun _ _ => rfl) o_ix (ev_nm 6 (pv 6)) (ev_int)) (ev_nm 0 (pv 0))) (sv_one (sv_dst (ev_bl) (pg_sub (ev_nm 5 (pv 5)) (ev_str) (set_dict (u1 hr))))) (sv_nil))) (sv_nil)))) <| sv_one (sv_ret (ev_t1 call_tuple_of o_tuple (by rfl) N.b_tuple (by decide +kernel) (ev_sd rfl (by rfl) N.b_sorted (ev_nm 5 (pv 5)))))
/-! _law_right -/
abbrev s__law_right : Stmt := topS 18
theorem sc__law_right : FnScope ["tank", "goal", "size", "near", "most", "due", "odd", "bads", "told", "turn"] ["tank"] (defScope s__law_right) := ⟨rfl, rfl, rfl, by decide +kernel, rfl, by decide +kernel, by decide +kernel⟩
def b__law_right : Stm := seqS (unlS [1, 2] (lcE (rng1 (kE (.int 2))) (fun d r => some (put r 9 (.val d))) [9] (yesB) (binE gAdd (kE (.int 1)) (callE G__law_drip (consR (nmE 0) (consR (binE gIx (lstE (consL (kE (.int 4)) (consL (binE gPow (kE (.int 10)) (kE (.int 29))) (nilL)))) (callE G__law_drip (consR (nmE 0) (consR (kE (.int 2)) (nilR))))) (nilR))))))) <| seqS (setS 3 (lstE (consL (nmE 1) (consL (binE gAdd (nmE 1) (kE (.int 1))) (consL (binE gAdd (nmE 1) (nmE 2)) (consL (binE gAdd (binE gAdd (nmE 1) (nmE 2)) (kE (.int 1))) (consL (binE gMax2 (kE (.int 1)) (binE gSubI (nmE 1) (kE (.int 1)))) (consL (binE gSubI (binE gAdd (nmE 1) (nmE 2)) (kE (.int 1))) (nilL))))))))) <| seqS (setS 4 (binE gIx (binE gAdd (nmE 3) (lstE (consL (binE gAdd (kE (.int 1)) (callE G__law_drip (consR (nmE 0) (consR (binE gPow (kE (.int 10)) (kE (.int 30))) (nilR))))) (nilL)))) (callE G__law_drip (consR (nmE 0) (consR (kE (.int 7)) (nilR)))))) <| seqS (setS 5 (iteE (tstB (binE gLe (nmE 4) (nmE 1))) (tupE (consL (kE (.str "over")) (nilL))) (tupE (consL (kE (.str "broken")) (consL (kE (.str "over")) (nilL)))))) <| seqS (setS 5 (iteE (tstB (binE gGt (nmE 4) (binE gAdd (nmE 1) (nmE 2)))) (tupE (consL (kE (.str "broken")) (nilL))) (nmE 5))) <| seqS (ifS (tstB (binE gNe (unE gRepr (lstE (consL (callE G_head_fates (consR (nmE 4) (consR (nmE 1) (consR (nmE 2) (nilR))))) (consL (callKW [2, 1, 0] G_head_fates (consR (nmE 2) (consR (nmE 1) (consR (nmE 4) (nilR))))) (nilL))))) (unE gRepr (lstE (consL (nmE 5) (consL (nmE 5) (nilL))))))) (retS (kE (.bool false))) (nxS)) <| seqS (ifS (andB (tstB (binE gLt (nmE 4) (kE (.int 11)))) (tstB (binE gNe (callE G__law_fates (consR (nmE 4) (consR (nmE 1) (consR (nmE 2) (nilR))))) (nmE 5)))) (retS (kE (.bool false))) (nxS)) <| seqS (setS 6 (lstE (consL (kE (.int 0)) (consL (unE gNeg (kE (.int 1))) (consL (kE .none) (consL (kE (.bool true)) (consL (kE (.bool false)) (consL (kE (.str "1")) (consL (lstE (consL (kE (.int 1)) (nilL))) (consL (tupE (consL (kE (.int 1)) (nilL))) (consL (dnewE) (consL (unE gNeg (binE gPow (kE (.int 10)) (kE (.int 30)))) (nilL))))))))))))) <| seqS (setS 7 (lcE (rng1 (kE (.int 3))) (fun d r => some (put r 9 (.val d))) [9] (yesB) (binE gIx (nmE 6) (callE G__law_drip (consR (nmE 0) (consR (kE (.int 10)) (nilR))))))) <| seqS (setS 8 (lstE (consL (callE G__law_told (consR (binE gIx (nmE 7) (kE (.int 0))) (consR (binE gIx (nmE 7) (kE (.int 1))) (consR (binE gIx (nmE 7) (kE (.int 2))) (nilR))))) (consL (callE G__law_told (consR (binE gIx (nmE 7) (kE (.int 0))) (consR (nmE 1) (consR (binE gIx (nmE 7) (kE (.int 2))) (nilR))))) (consL (callE G__law_told (consR (nmE 4) (consR (binE gIx (nmE 7) (kE (.int 1))) (consR (binE gIx (nmE 7) (kE (.int 2))) (nilR))))) (nilL)))))) <| retS (binE gEq (binE gAdd (nmE 8) (lstE (consL (callE G__law_told (consR (nmE 4) (consR (nmE 1) (consR (binE gIx (nmE 7) (kE (.int 2))) (nilR))))) (nilL)))) (binE gAdd (repE (lstE (consL (kE (.str "number")) (nilL))) (kE (.int 3))) (lstE (consL (kE (.str "capacity")) (nilL)))))
abbrev G__law_right : List Ag → FR := runF 1 10 b__law_right
theorem k__law_right {P : Program} {w : World} {K : PySem.W.Frag} {mg : Str → Option Value} {base : Heap} {f : Addr} {fd : FuncData} (F : Fun K "_law_right" "_law_right" s__law_right f fd) (N : Nm K w mg) (D__law_drip : Def P w K mg base "_law_drip" 1 2 4 b__law_drip) (D__law_told : Def P w K mg base "_law_told" 4 3 5 b__law_told) (D__law_fates : Def P w K mg base "_law_fates" 2 3 7 b__law_fates) (D_head_fates : Def P w K mg base "head_fates" 3 3 3 b_head_fates) (DK_head_fates_capacity_taken_written : DefK P w K mg base "head_fates" 3 3 3 b_head_fates ["capacity", "taken", "written"] [2, 1, 0]) : FnG P w K mg base 5 f fd ["tank"] (spF ⟨K, P, w, none⟩ 1 10 b__law_right) :=
  fg_of F sc__law_right rfl rfl fun cdv A outer s H β E hr hgd tk po => sv_cons (sv_unl (is := [1, 2]) (ev_lc (own := [("turn", 9)]) (T := [9]) rfl rfl sc__law_right.nd (iv_rng1 (by rfl) N.b_range (ev_int)) (blkOk_by (own := [("turn", 9)]) (N := ["tank", "goal", "size", "near", "most", "due", "odd", "bads", "told", "turn"]) (sc := defScope s__law_right) (by decide +kernel)) (fun _ _ _ _ _ => pg_name (i := 9) sc__law_right.nd rfl (by first | exact Or.inl rfl | exact Or.inr rfl)) (fun _ _ _ _ _ => ts_nil) (fun _ _ _ _ _ => ev_bin op_addX o_add (ev_int) (ev_callD (D__law_drip.mono (by decide)) hr hgd takes0 (by rfl) (by decide) (ar_cons (ev_nm 0 (pv 0)) (ar_cons (ev_ix ix_seq (fun _ _ => rfl) o_ix (ev_lst (al_cons (ev_int) (al_cons (ev_bin op_powW o_pow (ev_int) (ev_int)) (al_nil)))) (ev_callD (D__law_drip.mono (by decide)) hr hgd takes0 (by rfl) (by decide) (ar_cons (ev_nm 0 (pv 0)) (ar_cons (ev_int) (ar_nil))))) (ar_nil))))) (tg_name 9)) (pg_unl rfl (pgs_cons (pg_name (i := 1) sc__law_right.nd rfl (by first | exact Or.inl rfl | exact Or.inr rfl)) (pgs_cons (pg_name (i := 2) sc__law_right.nd rfl (by first | exact Or.inl rfl | exact Or.inr rfl)) (pgs_nil))))) <| sv_cons (sv_set (i := 3) sc__law_right.nd rfl (by first | exact Or.inl rfl | exact Or.inr rfl) (ev_lst (al_cons (ev_nm 1 (pv 1)) (al_cons (ev_bin op_addX o_add (ev_nm 1 (pv 1)) (ev_int)) (al_cons (ev_bin op_addX o_add (ev_nm 1 (pv 1)) (ev_nm 2 (pv 2))) (al_cons (ev_bin op_addX o_add (ev_bin op_addX o_add (ev_nm 1 (pv 1)) (ev_nm 2 (pv 2))) (ev_int)) (al_cons (ev_b2 (call_max2 rfl) o_max2 (by rfl) N.b_max (by decide +kernel) (ev_int) (ev_bin op_sub o_sub (ev_nm 1 (pv 1)) (ev_int))) (al_cons (ev_bin op_sub o_sub (ev_bin op_addX o_add (ev_nm 1 (pv 1)) (ev_nm 2 (pv 2))) (ev_int)) (al_nil))))))))) <| sv_cons (sv_set (i := 4) sc__law_right.nd rfl (by first | exact Or.inl rfl | exact Or.inr rfl) (ev_ix ix_seq (fun _ _ => rfl) o_ix (ev_bin op_addX o_add (ev_nm 3 (pv 3)) (ev_lst (al_cons (ev_bin op_addX o_add (ev_int) (ev_callD (D__law_drip.mono (by decide)) hr hgd tk (by rfl) (by decide) (ar_cons (ev_nm 0 (pv 0)) (ar_cons (ev_bin op_powW o_pow (ev_int) (ev_int)) (ar_nil))))) (al_nil)))) (ev_callD (D__law_drip.mono (by decide)) hr hgd tk (by rfl) (by decide) (ar_cons (ev_nm 0 (pv 0)) (ar_cons (ev_int) (ar_nil)))))) <| sv_cons (sv_set (i := 5) sc__law_right.nd rfl (by first | exact Or.inl rfl | exact Or.inr rfl) (ev_ite (tv_cmp op_le (nomark _) o_cmp (ev_nm 4 (pv 4)) (ev_nm 1 (pv 1))) (ev_tup (al_cons (ev_str) (al_nil))) (ev_tup (al_cons (ev_str) (al_cons (ev_str) (al_nil)))))) <| sv_cons (sv_set (i := 5) sc__law_right.nd rfl (by first | exact Or.inl rfl | exact Or.inr rfl) (ev_ite (tv_cmp op_gt (nomark _) o_cmp (ev_nm 4 (pv 4)) (ev_bin op_addX o_add (ev_nm 1 (pv 1)) (ev_nm 2 (pv 2)))) (ev_tup (al_cons (ev_str) (al_nil))) (ev_nm 5 (pv 5)))) <| sv_cons (sv_if (tv_cmp (op_neX hr.units) (nomark _) o_ne (ev_b1 (call_reprD hgd hr.units) o_repr (by rfl) N.b_repr (by decide +kernel) (ev_lst (al_cons (ev_callD (D_head_fates.mono (by decide)) hr hgd tk (by rfl) (by decide) (ar_cons (ev_nm 4 (pv 4)) (ar_cons (ev_nm 1 (pv 1)) (ar_cons (ev_nm 2 (pv 2)) (ar_nil))))) (al_cons (ev_callKW (DK_head_fates_capacity_taken_written.mono (by decide)) hr hgd tk (by rfl) (by decide) (by decide) (by decide) rfl (kr_cons (ev_nm 2 (pv 2)) (kr_cons (ev_nm 1 (pv 1)) (kr_cons (ev_nm 4 (pv 4)) (kr_nil))))) (al_nil))))) (ev_b1 (call_reprD hgd hr.units) o_repr (by rfl) N.b_repr (by decide +kernel) (ev_lst (al_cons (ev_nm 5 (pv 5)) (al_cons (ev_nm 5 (pv 5)) (al_nil)))))) (sv_one (sv_ret (ev_bl))) (sv_nil)) <| sv_cons (sv_if ((tv_and (tv_cmp op_lt (nomark _) o_cmp (ev_nm 4 (pv 4)) (ev_int)) (tv_and1 (tv_cmp (op_neX hr.units) (nomark _) o_ne (ev_callD (D__law_fates.mono (by decide)) hr hgd tk (by rfl) (by decide) (ar_cons (ev_nm 4 (pv 4)) (ar_cons (ev_nm 1 (pv 1)) (ar_cons (ev_nm 2 (pv 2)) (ar_nil))))) (ev_nm 5 (pv 5))))).pt) (sv_one (sv_ret (ev_bl))) (sv_nil)) <| sv_cons (sv_set (i := 6) sc__law_right.nd rfl (by first | exact Or.inl rfl | exact Or.inr rfl) (ev_lst (al_cons (ev_int) (al_cons (ev_un un_neg o_neg (ev_int)) (al_cons (ev_non) (al_cons (ev_bl) (al_cons (ev_bl) (al_cons (ev_str) (al_cons (ev_lst (al_cons (ev_int) (al_nil))) (al_cons (ev_tup (al_cons (ev_int) (al_nil))) (al_cons (ev_dnew) (al_cons (ev_un un_neg o_neg (ev_bin op_powW o_pow (ev_int) (ev_int))) (al_nil))))))))))))) <| sv_cons (sv_setLc (i := 7) (own := [("turn", 9)]) (T := [9]) rfl rfl sc__law_right.nd rfl rfl (sw_true rfl rfl rfl (by decide +kernel)) (iv_rng1 (by rfl) N.b_range (ev_int)) (blkOk_by (own := [("turn", 9)]) (N := ["tank", "goal", "size", "near", "most", "due", "odd", "bads", "told", "turn"]) (sc := defScope s__law_right) (by decide +kernel)) (fun _ _ _ _ _ => pg_name (i := 9) sc__law_right.nd rfl (by first | exact Or.inl rfl | exact Or.inr rfl)) (fun _ _ _ _ _ => ts_nil) (fun _ _ _ _ _ => ev_ix ix_seq (fun _ _ => rfl) o_ix (ev_nm 6 (pv 6)) (ev_callD (D__law_drip.mono (by decide)) hr hgd takes0 (by rfl) (by decide) (ar_cons (ev_nm 0 (pv 0)) (ar_cons (ev_int) (ar_nil))))) (tg_name 9)) <| sv_cons (sv_set (i := 8) sc__law_right.nd rfl (by first | exact Or.inl rfl | exact Or.inr rfl) (ev_lst (al_cons (ev_callD (D__law_told.mono (by decide)) hr hgd tk (by rfl) (by decide) (ar_cons (ev_ix ix_seq (fun _ _ => rfl) o_ix (ev_nm 7 (pv 7)) (ev_int)) (ar_cons (ev_ix ix_seq (fun _ _ => rfl) o_ix (ev_nm 7 (pv 7)) (ev_int)) (ar_cons (ev_ix ix_seq (fun _ _ => rfl) o_ix (ev_nm 7 (pv 7)) (ev_int)) (ar_nil))))) (al_cons (ev_callD (D__law_told.mono (by decide)) hr hgd tk (by rfl) (by decide) (ar_cons (ev_ix ix_seq (fun _ _ => rfl) o_ix (ev_nm 7 (pv 7)) (ev_int)) (ar_cons (ev_nm 1 (pv 1)) (ar_cons (ev_ix ix_seq (fun _ _ => rfl) o_ix (ev_nm 7 (pv 7)) (ev_int)) (ar_nil))))) (al_cons (ev_callD (D__law_told.mono (by decide)) hr hgd tk (by rfl) (by decide) (ar_cons (ev_nm 4 (pv 4)) (ar_cons (ev_ix ix_seq (fun _ _ => rfl) o_ix (ev_nm 7 (pv 7)) (ev_int)) (ar_cons (ev_ix ix_seq (fun _ _ => rfl) o_ix (ev_nm 7 (pv 7)) (ev_int)) (ar_nil))))) (al_nil)))))) <| sv_one (sv_ret (ev_cmp (op_eqX hr.units) (nomark _) o_eq (ev_bin op_addX o_add (ev_nm 8 (pv 8)) (ev_lst (al_cons (ev_callD (D__law_told.mono (by decide)) hr hgd tk (by rfl) (by decide) (ar_cons (ev_nm 4 (pv 4)) (ar_cons (ev_nm 1 (pv 1)) (ar_cons (ev_ix ix_seq (fun _ _ => rfl) o_ix (ev_nm 7 (pv 7)) (ev_int)) (ar_nil))))) (al_nil)))) (ev_bin op_addX o_add (ev_rep (ev_lst (al_cons (ev_str) (al_nil))) (ev_int)) (ev_lst (al_cons (ev_str) (al_nil))))))
/-! law -/
abbrev s_law : Stmt := topS 19
theorem sc_law : FnScope ["script", "k", "tank", "turn", "most", "told"] ["script"] (defScope s_law) := ⟨rfl, rfl, rfl, by decide +kernel, rfl, by decide +kernel, by decide +kernel⟩
def b_law : Stm := seqS (forS (rng1 (binE gMax2 (kE (.int 1)) (binE gMin2 (kE (.int 8)) (unE gLen (nmE 0))))) (fun d r => some (put r 1 (.val d))) (seqS (setS 2 (callE G__law_tank (consR (nmE 0) (consR (nmE 1) (nilR))))) <| forS (rng1 (kE (.int 6))) (fun d r => some (put r 3 (.val d))) (ifS (notB (tstT (callE G__law_right (consR (nmE 2) (nilR))))) (retS (kE (.bool false))) (nxS)))) <| seqS (setS 4 (binE gPow (kE (.int 10)) (kE (.int 30)))) <| seqS (setS 5 (lstE (consL (callE G_head_fates (consR (nmE 4) (consR (nmE 4) (consR (nmE 4) (nilR))))) (consL (callE G_head_fates (consR (nmE 4) (consR (kE (.int 1)) (consR (binE gSubI (nmE 4) (kE (.int 1))) (nilR))))) (consL (callE G_head_fates (consR (nmE 4) (consR (kE (.int 1)) (consR (binE gSubI (nmE 4) (kE (.int 2))) (nilR))))) (nilL)))))) <| retS (binE gEq (binE gAdd (nmE 5) (lstE (consL (callE G_head_fates (consR (kE (.int 1)) (consR (kE (.int 1)) (consR (kE (.int 1)) (nilR))))) (nilL)))) (lstE (consL (tupE (consL (kE (.str "over")) (nilL))) (consL (tupE (consL (kE (.str "broken")) (consL (kE (.str "over")) (nilL)))) (consL (tupE (consL (kE (.str "broken")) (nilL))) (consL (tupE (consL (kE (.str "over")) (nilL))) (nilL)))))))
abbrev G_law : List Ag → FR := runF 1 6 b_law
theorem k_law {P : Program} {w : World} {K : PySem.W.Frag} {mg : Str → Option Value} {base : Heap} {f : Addr} {fd : FuncData} (F : Fun K "law" "law" s_law f fd) (N : Nm K w mg) (D__law_tank : Def P w K mg base "_law_tank" 1 2 3 b__law_tank) (D_head_fates : Def P w K mg base "head_fates" 3 3 3 b_head_fates) (D__law_right : Def P w K mg base "_law_right" 5 1 10 b__law_right) : FnG P w K mg base 6 f fd ["script"] (spF ⟨K, P, w, none⟩ 1 6 b_law) :=
  fg_of F sc_law rfl rfl fun cdv A outer s H β E hr hgd tk po => sv_cons (sv_for po rfl (iv_rng1 (by rfl) N.b_range (ev_b2 (call_max2 rfl) o_max2 (by rfl) N.b_max (by decide +kernel) (ev_int) (ev_b2 (call_min2 rfl) o_min2 (by rfl) N.b_min (by decide +kernel) (ev_int) (ev_b1 call_len o_len (by rfl) N.b_len (by decide +kernel) (ev_nm 0 (pv 0)))))) (pg_name (i := 1) sc_law.nd rfl (by first | exact Or.inl rfl | exact Or.inr rfl)) (tg_name 1) (sv_cons (sv_set (i := 2) sc_law.nd rfl (by first | exact Or.inl rfl | exact Or.inr rfl) (ev_callD (D__law_tank.mono (by decide)) hr hgd tk (by rfl) (by decide) (ar_cons (ev_nm 0 (pv 0)) (ar_cons (ev_nm 1 (pv 1)) (ar_nil))))) <| sv_one (sv_for po rfl (iv_rng1 (by rfl) N.b_range (ev_int)) (pg_name (i := 3) sc_law.nd rfl (by first | exact Or.inl rfl | exact Or.inr rfl)) (tg_name 3) (sv_one (sv_if (tv_not (tv_truth (ev_callD (D__law_right.mono (by decide)) hr hgd tk (by rfl) (by decide) (ar_cons (ev_nm 2 (pv 2)) (ar_nil))))) (sv_one (sv_ret (ev_bl))) (sv_nil)))))) <| sv_cons (sv_set (i := 4) sc_law.nd rfl (by first | exact Or.inl rfl | exact Or.inr rfl) (ev_bin op_powW o_pow (ev_int) (ev_int))) <| sv_cons (sv_set (i := 5) sc_law.nd rfl (by first | exact Or.inl rfl | exact Or.inr rfl) (ev_lst (al_cons (ev_callD (D_head_fates.mono (by decide)) hr hgd tk (by rfl) (by decide) (ar_cons (ev_nm 4 (pv 4)) (ar_cons (ev_nm 4 (pv 4)) (ar_cons (ev_nm 4 (pv 4)) (ar_nil))))) (al_cons (ev_callD (D_head_fates.mono (by decide)) hr hgd tk (by rfl) (by decide) (ar_cons (ev_nm 4 (pv 4)) (ar_cons (ev_int) (ar_cons (ev_bin op_sub o_sub (ev_nm 4 (pv 4)) (ev_int)) (ar_nil))))) (al_cons (ev_callD (D_head_fates.mono (by decide)) hr hgd tk (by rfl) (by decide) (ar_cons (ev_nm 4 (pv 4)) (ar_cons (ev_int) (ar_cons (ev_bin op_sub o_sub (ev_nm 4 (pv 4)) (ev_int)) (ar_nil))))) (al_nil)))))) <| sv_one (sv_ret (ev_cmp (op_eqX hr.units) (nomark _) o_eq (ev_bin op_addX o_add (ev_nm 5 (pv 5)) (ev_lst (al_cons (ev_callD (D_head_fates.mono (by decide)) hr hgd tk (by rfl) (by decide) (ar_cons (ev_int) (ar_cons (ev_int) (ar_cons (ev_int) (ar_nil))))) (al_nil)))) (ev_lst (al_cons (ev_tup (al_cons (ev_str) (al_nil))) (al_cons (ev_tup (al_cons (ev_str) (al_cons (ev_str) (al_nil)))) (al_cons (ev_tup (al_cons (ev_str) (al_nil))) (al_cons (ev_tup (al_cons (ev_str) (al_nil))) (al_nil))))))))
end Lw

/-! Pl71.lean -/
set_option Elab.async false
set_option linter.all false
set_option maxRecDepth 100000
set_option maxHeartbeats 4000000
namespace Lw
open PySem L2 Mi Pf
def p__law_tank (a_script : List PyData) (a_k : Int) : Option (List PyData) :=
((if (decide (a_k < (a_script.length : Int))) = true then (ixL a_script a_k).bind fun z7 =>
    some z7 else some (.int 0))).bind fun w8 =>
    (asI w8).bind fun z9 =>
    (asI w8).bind fun z10 =>
    (mulI (z10 % (1000000000000000000000000000000000000 + 67)) 97).bind fun z11 =>
    (mulI 13 a_k).bind fun z12 =>
    some [.int (max 0 (z9 - 1000000000000000000)), .int ((z11 + z12) + 5), .int 0]
theorem run__law_tank_vv (a_script : List PyData) (a_k : Int) : Ok (p__law_tank a_script a_k) fun t => G__law_tank [.val (.list a_script), .val (.int a_k)] = .ret (.own (.lst t)) [] := by
  unfold p__law_tank
  refine ok_def (r0 := ⟨[some (.val (.list a_script)), some (.val (.int a_k)), none], []⟩) rfl rfl ?_
  delta b__law_tank
  refine Ok.bind (P := fun (w8 : PyData) => ∃ r', (iteE (tstB (binE gLt (nmE 1) (unE gLen (nmE 0)))) (binE gIx (nmE 0) (nmE 1)) (kE (.int 0))) ⟨[some (.val (.list a_script)), some (.val (.int a_k)), none], []⟩ = .ok (.val (w8)) r' ∧ (fun (s_ : (Unit)) (r_ : En) => r_ = ⟨[some (.val (.list a_script)), some (.val (.int a_k)), none], []⟩) () r') ?_ fun w8 ⟨r', hw8, hr⟩ => ?_
  · refine Ok.ite (fun hc => ?_) fun hc => ?_
    · refine Ok.bnd fun z7 hz7 => ?_
      exact Ok.some ⟨_, (iteT_go (tst_eq (tB_go (bin_go' (nm_val rfl) (un_go' (nm_val rfl) rfl (len_L rfl)) rfl rfl (lt_I rfl rfl)) rfl) hc) (bin_go' (nm_val rfl) (nm_val rfl) rfl rfl (ix_L rfl rfl hz7))), rfl⟩
    · exact Ok.some ⟨_, (iteF_go (tst_eq (tB_go (bin_go' (nm_val rfl) (un_go' (nm_val rfl) rfl (len_L rfl)) rfl rfl (lt_I rfl rfl)) rfl) hc) k_go), rfl⟩
  subst hr
  refine t_seq ⟨[some (.val (.list a_script)), some (.val (.int a_k)), some (.val (w8))], []⟩ (set_go hw8 rfl) ?_
  refine Ok.bnd fun z9 hz9 => ?_
  refine Ok.bnd fun z10 hz10 => ?_
  refine Ok.bnd fun z11 hz11 => ?_
  refine Ok.bnd fun z12 hz12 => ?_
  exact Ok.some (fi_ret (lst_go (consL_go (bin_go' k_go (bin_go' (nm_val rfl) (bin_go' k_go k_go rfl rfl (pow_I (k := 1000000000000000000) rfl rfl (by decide +kernel))) rfl rfl (sub_I hz9 rfl)) rfl rfl (max_I rfl rfl)) frz_v (consL_go (bin_go' (bin_go' (bin_go' (bin_go' (nm_val rfl) (bin_go' (bin_go' k_go k_go rfl rfl (pow_I (k := 1000000000000000000000000000000000000) rfl rfl (by decide +kernel))) k_go rfl rfl (add_I rfl rfl)) rfl rfl (mod_k hz10 rfl (by decide +kernel))) k_go rfl rfl (mul_I rfl rfl hz11)) (bin_go' k_go (nm_val rfl) rfl rfl (mul_I rfl rfl hz12)) rfl rfl (add_I rfl rfl)) k_go rfl rfl (add_I rfl rfl)) frz_v (consL_go k_go frz_v nilL_go))) (sz_ok rfl)) rfl)
def p__law_drip (a_tank : List PyData) (a_many : Int) : Option (Int × List PyData) :=
(ixL a_tank 0).bind fun z26 =>
    (asI z26).bind fun z27 =>
    (if (decide (0 < z27)) = true then
    (ixL a_tank 0).bind fun z28 =>
    (asI z28).bind fun z29 =>
    (modI z29 a_many).bind fun z30 =>
    (ixL a_tank 0).bind fun z31 =>
    (asI z31).bind fun z32 =>
    (divI z32 a_many).bind fun z33 =>
    (setL a_tank 0 (.int z33)).bind fun z34 =>
    some (z30, z34)
    else
    (ixL a_tank 2).bind fun z36 =>
    (asI z36).bind fun z37 =>
    (setL a_tank 2 (.int (z37 + 1))).bind fun z38 =>
    (ixL z38 1).bind fun z40 =>
    (ixL z38 2).bind fun z41 =>
    (asI z41).bind fun z42 =>
    (mulI 314159269 z42).bind fun z43 =>
    (asI z40).bind fun z44 =>
    (powI (z44 + z43) 3).bind fun z45 =>
    (ixL z38 2).bind fun z46 =>
    (asI z46).bind fun z47 =>
    (mulI 27182819 z47).bind fun z48 =>
    (powI ((z45 % (1000000000000000000000000000000000000000 + 3)) + z48) 3).bind fun z49 =>
    (modI ((z49 % (10000000000000000000000000000000000000 + 43)) / 524309) a_many).bind fun z50 =>
    some (z50, z38))
theorem run__law_drip_rv (a_tank : List PyData) (a_many : Int) : Ok (p__law_drip a_tank a_many) fun t => G__law_drip [.ref (.lst a_tank), .val (.int a_many)] = .ret (.val (.int t.1)) [.live (.lst t.2)] := by
  unfold p__law_drip
  refine ok_def (r0 := ⟨[some (.bor 0), some (.val (.int a_many)), none, none], [.live (.lst a_tank)]⟩) rfl rfl ?_
  delta b__law_drip
  refine Ok.bnd fun z26 hz26 => ?_
  refine Ok.bnd fun z27 hz27 => ?_
  refine ok_ifRn (tB_go (bin_go' (bin_go' (nm_bor rfl) k_go rfl rfl (ix_L rfl rfl hz26)) k_go rfl rfl (gt_I hz27 rfl)) rfl) (fun hc => ?_) fun hc => ?_
  · refine Ok.bnd fun z28 hz28 => ?_
    refine Ok.bnd fun z29 hz29 => ?_
    refine Ok.bnd fun z30 hz30 => ?_
    refine t_seq ⟨[some (.bor 0), some (.val (.int a_many)), some (.val (.int z30)), none], [.live (.lst a_tank)]⟩ (set_go (bin_go' (bin_go' (nm_bor rfl) k_go rfl rfl (ix_L rfl rfl hz28)) (nm_val rfl) rfl rfl (mod_I hz29 rfl hz30)) rfl) ?_
    refine Ok.bnd fun z31 hz31 => ?_
    refine Ok.bnd fun z32 hz32 => ?_
    refine Ok.bnd fun z33 hz33 => ?_
    refine Ok.bnd fun z34 hz34 => ?_
    obtain ⟨n35, hn35, hz34⟩ := setL_eq hz34
    refine t_seq ⟨[some (.bor 0), some (.val (.int a_many)), some (.val (.int z30)), none], [.live (.lst z34)]⟩ (sto_goB (bin_go' (bin_go' (nm_bor rfl) k_go rfl rfl (ix_L rfl rfl hz31)) (nm_val rfl) rfl rfl (div_I hz32 rfl hz33)) frz_v rfl k_go rfl rfl hn35 hz34 rfl) ?_
    exact Ok.some (fi_ret (nm_val rfl) rfl)
  · refine Ok.bnd fun z36 hz36 => ?_
    refine Ok.bnd fun z37 hz37 => ?_
    refine Ok.bnd fun z38 hz38 => ?_
    obtain ⟨n39, hn39, hz38⟩ := setL_eq hz38
    refine t_seq ⟨[some (.bor 0), some (.val (.int a_many)), none, none], [.live (.lst z38)]⟩ (sto_goB (bin_go' (bin_go' (nm_bor rfl) k_go rfl rfl (ix_L rfl rfl hz36)) k_go rfl rfl (add_I hz37 rfl)) frz_v rfl k_go rfl rfl hn39 hz38 rfl) ?_
    refine Ok.bnd fun z40 hz40 => ?_
    refine Ok.bnd fun z41 hz41 => ?_
    refine Ok.bnd fun z42 hz42 => ?_
    refine Ok.bnd fun z43 hz43 => ?_
    refine Ok.bnd fun z44 hz44 => ?_
    refine Ok.bnd fun z45 hz45 => ?_
    refine t_seq ⟨[some (.bor 0), some (.val (.int a_many)), none, some (.val (.int (z45 % (1000000000000000000000000000000000000000 + 3))))], [.live (.lst z38)]⟩ (set_go (bin_go' (bin_go' (bin_go' (bin_go' (nm_bor rfl) k_go rfl rfl (ix_L rfl rfl hz40)) (bin_go' k_go (bin_go' (nm_bor rfl) k_go rfl rfl (ix_L rfl rfl hz41)) rfl rfl (mul_I rfl hz42 hz43)) rfl rfl (add_I hz44 rfl)) k_go rfl rfl (pow_I rfl rfl hz45)) (bin_go' (bin_go' k_go k_go rfl rfl (pow_I (k := 1000000000000000000000000000000000000000) rfl rfl (by decide +kernel))) k_go rfl rfl (add_I rfl rfl)) rfl rfl (mod_k rfl rfl (by decide +kernel))) rfl) ?_
    refine Ok.bnd fun z46 hz46 => ?_
    refine Ok.bnd fun z47 hz47 => ?_
    refine Ok.bnd fun z48 hz48 => ?_
    refine Ok.bnd fun z49 hz49 => ?_
    refine t_seq ⟨[some (.bor 0), some (.val (.int a_many)), none, some (.val (.int (z49 % (10000000000000000000000000000000000000 + 43))))], [.live (.lst z38)]⟩ (set_go (bin_go' (bin_go' (bin_go' (nm_val rfl) (bin_go' k_go (bin_go' (nm_bor rfl) k_go rfl rfl (ix_L rfl rfl hz46)) rfl rfl (mul_I rfl hz47 hz48)) rfl rfl (add_I rfl rfl)) k_go rfl rfl (pow_I rfl rfl hz49)) (bin_go' (bin_go' k_go k_go rfl rfl (pow_I (k := 10000000000000000000000000000000000000) rfl rfl (by decide +kernel))) k_go rfl rfl (add_I rfl rfl)) rfl rfl (mod_k rfl rfl (by decide +kernel))) rfl) ?_
    refine Ok.bnd fun z50 hz50 => ?_
    exact Ok.some (fi_ret (bin_go' (bin_go' (nm_val rfl) k_go rfl rfl (div_k rfl rfl (by decide +kernel))) (nm_val rfl) rfl rfl (mod_I rfl rfl hz50)) rfl)
def p_is_integer (a_value : PyData) : Option (Bool) :=
(isiO "int" a_value).bind fun z4 =>
    ((if z4 = true then (isiO "bool" a_value).bind fun z5 =>
    some (!z5) else some false)).bind fun c6 =>
    some c6
theorem run_is_integer_v (a_value : PyData) : Ok (p_is_integer a_value) fun t => G_is_integer [.val (a_value)] = .ret (.val (.bool t)) [] := by
  unfold p_is_integer
  refine ok_def (r0 := ⟨[some (.val (a_value))], []⟩) rfl rfl ?_
  delta b_is_integer
  refine Ok.bnd fun z4 hz4 => ?_
  refine Ok.bind (P := fun (c6 : Bool) => (andE (unE (gIsi "int") (nmE 0)) (notE (unE (gIsi "bool") (nmE 0)))) ⟨[some (.val (a_value))], []⟩ = .ok (.val (.bool c6)) ⟨[some (.val (a_value))], []⟩) ?_ fun c6 hc6 => ?_
  · refine Ok.ite (fun hc => ?_) fun hc => ?_
    · refine Ok.bnd fun z5 hz5 => ?_
      exact Ok.some (andET_go (un_go' (nm_val rfl) rfl (isi_D hz4)) rfl hc (notE_go (un_go' (nm_val rfl) rfl (isi_D hz5)) rfl) rfl)
    · exact Ok.some (andEF_go (un_go' (nm_val rfl) rfl (isi_D hz4)) rfl hc)
  exact Ok.some (fi_ret hc6 rfl)
def p_check_units (a_value : PyData) : Option (Unit) :=
(p_is_integer a_value).bind fun y4 =>
    ((if (!y4) = true then some true else (asI a_value).bind fun z5 =>
    some (decide (z5 < 1)))).bind fun c6 =>
    (if c6 = true then
    none
    else
    some ())
theorem run_check_units_v (a_value : PyData) : Ok (p_check_units a_value) fun t => G_check_units [.val (a_value)] = .ret (.val .none) [] := by
  unfold p_check_units
  refine ok_def (r0 := ⟨[some (.val (a_value))], []⟩) rfl rfl ?_
  delta b_check_units
  refine Ok.bind (run_is_integer_v a_value) fun y4 hy4 => ?_
  refine Ok.bind (P := fun (c6 : Bool) => (orB (notB (tstT (callE G_is_integer (consR (nmE 0) (nilR))))) (tstB (binE gLt (nmE 0) (kE (.int 1))))) ⟨[some (.val (a_value))], []⟩ = .ok c6 ⟨[some (.val (a_value))], []⟩) ?_ fun c6 hc6 => ?_
  · refine Ok.ite (fun hc => ?_) fun hc => ?_
    · exact Ok.some (orT_go (not_go (tT_go (call_goE (consR_go (nm_val rfl) nilR_go) (ags_val ags_nil) rfl hy4 rfl rfl) rfl truth_b)) hc)
    · refine Ok.bnd fun z5 hz5 => ?_
      exact Ok.some (orF_go (not_go (tT_go (call_goE (consR_go (nm_val rfl) nilR_go) (ags_val ags_nil) rfl hy4 rfl rfl) rfl truth_b)) hc (tB_go (bin_go' (nm_val rfl) k_go rfl rfl (lt_I hz5 rfl)) rfl))
  refine t_if hc6 (fun hc => ?_) fun hc => ?_
  · exact Ok.none
  · exact Ok.some (fi_end nx_go rfl)
def p_check_capacity (a_value : PyData) : Option (Unit) :=
(p_is_integer a_value).bind fun y4 =>
    ((if (!y4) = true then some true else (asI a_value).bind fun z5 =>
    some (decide (z5 < 1)))).bind fun c6 =>
    (if c6 = true then
    none
    else
    some ())
theorem run_check_capacity_v (a_value : PyData) : Ok (p_check_capacity a_value) fun t => G_check_capacity [.val (a_value)] = .ret (.val .none) [] := by
  unfold p_check_capacity
  refine ok_def (r0 := ⟨[some (.val (a_value))], []⟩) rfl rfl ?_
  delta b_check_capacity
  refine Ok.bind (run_is_integer_v a_value) fun y4 hy4 => ?_
  refine Ok.bind (P := fun (c6 : Bool) => (orB (notB (tstT (callE G_is_integer (consR (nmE 0) (nilR))))) (tstB (binE gLt (nmE 0) (kE (.int 1))))) ⟨[some (.val (a_value))], []⟩ = .ok c6 ⟨[some (.val (a_value))], []⟩) ?_ fun c6 hc6 => ?_
  · refine Ok.ite (fun hc => ?_) fun hc => ?_
    · exact Ok.some (orT_go (not_go (tT_go (call_goE (consR_go (nm_val rfl) nilR_go) (ags_val ags_nil) rfl hy4 rfl rfl) rfl truth_b)) hc)
    · refine Ok.bnd fun z5 hz5 => ?_
      exact Ok.some (orF_go (not_go (tT_go (call_goE (consR_go (nm_val rfl) nilR_go) (ags_val ags_nil) rfl hy4 rfl rfl) rfl truth_b)) hc (tB_go (bin_go' (nm_val rfl) k_go rfl rfl (lt_I hz5 rfl)) rfl))
  refine t_if hc6 (fun hc => ?_) fun hc => ?_
  · exact Ok.none
  · exact Ok.some (fi_end nx_go rfl)
def p_head_fates (a_written : PyData) (a_taken : PyData) (a_capacity : PyData) : Option (List PyData) :=
(p_check_units a_written).bind fun y9 =>
    (p_check_units a_taken).bind fun y10 =>
    (p_check_capacity a_capacity).bind fun y11 =>
    (asI a_taken).bind fun z12 =>
    (asI a_capacity).bind fun z13 =>
    (asI a_written).bind fun z14 =>
    (if (decide (z12 + z13 < z14)) = true then
    some [.str ("broken")]
    else
    (asI a_written).bind fun z15 =>
    (asI a_taken).bind fun z16 =>
    some (if (decide (z15 ≤ z16)) = true then [.str ("over")] else [.str ("broken"), .str ("over")]))
theorem run_head_fates_vvv (a_written : PyData) (a_taken : PyData) (a_capacity : PyData) : Ok (p_head_fates a_written a_taken a_capacity) fun t => G_head_fates [.val (a_written), .val (a_taken), .val (a_capacity)] = .ret (.val (.tuple t)) [] := by
  unfold p_head_fates
  refine ok_def (r0 := ⟨[some (.val (a_written)), some (.val (a_taken)), some (.val (a_capacity))], []⟩) rfl rfl ?_
  delta b_head_fates
  refine Ok.bind (run_check_units_v a_written) fun y9 hy9 => ?_
  refine t_seq ⟨[some (.val (a_written)), some (.val (a_taken)), some (.val (a_capacity))], []⟩ (drop_go (call_goE (consR_go (nm_val rfl) nilR_go) (ags_val ags_nil) rfl hy9 rfl rfl)) ?_
  refine Ok.bind (run_check_units_v a_taken) fun y10 hy10 => ?_
  refine t_seq ⟨[some (.val (a_written)), some (.val (a_taken)), some (.val (a_capacity))], []⟩ (drop_go (call_goE (consR_go (nm_val rfl) nilR_go) (ags_val ags_nil) rfl hy10 rfl rfl)) ?_
  refine Ok.bind (run_check_capacity_v a_capacity) fun y11 hy11 => ?_
  refine t_seq ⟨[some (.val (a_written)), some (.val (a_taken)), some (.val (a_capacity))], []⟩ (drop_go (call_goE (consR_go (nm_val rfl) nilR_go) (ags_val ags_nil) rfl hy11 rfl rfl)) ?_
  refine Ok.bnd fun z12 hz12 => ?_
  refine Ok.bnd fun z13 hz13 => ?_
  refine Ok.bnd fun z14 hz14 => ?_
  refine ok_ifRn (tB_go (bin_go' (nm_val rfl) (bin_go' (nm_val rfl) (nm_val rfl) rfl rfl (add_I hz12 hz13)) rfl rfl (gt_I hz14 rfl)) rfl) (fun hc => ?_) fun hc => ?_
  · exact Ok.some (fi_ret (tup_go (consL_go k_go frz_v nilL_go) (sz_ok rfl)) rfl)
  · refine Ok.bnd fun z15 hz15 => ?_
    refine Ok.bnd fun z16 hz16 => ?_
    exact Ok.some (fi_ret (ite_inj PyData.tuple (tB_go (bin_go' (nm_val rfl) (nm_val rfl) rfl rfl (le_I hz15 hz16)) rfl) (fun _ => (tup_go (consL_go k_go frz_v nilL_go) (sz_ok rfl))) fun _ => (tup_go (consL_go k_go frz_v (consL_go k_go frz_v nilL_go)) (sz_ok rfl))) rfl)
def p__law_next (a_place : PyData) (a_most : Int) (a_goal : Int) (a_size : Int) : Option (List PyData) :=
(unp3 a_place).bind fun z30 =>
    (truO z30.2.2).bind fun z31 =>
    (asI z30.2.1).bind fun z32 =>
    ((if (decide (z32 < a_goal)) = true then (asI z30.1).bind fun z33 =>
    (asI z30.2.1).bind fun z34 =>
    some (decide (z34 < z33)) else some false)).bind fun c35 =>
    ((if c35 = true then
    (asI z30.2.1).bind fun z38 =>
    (appL (if z31 = true then [.tuple [z30.1, z30.2.1, .bool false]] else []) (.tuple [z30.1, .int (z38 + 1), z30.2.2])).bind fun z39 =>
    some z39
    else
    some (if z31 = true then [.tuple [z30.1, z30.2.1, .bool false]] else []))).bind fun s40 =>
    (asI z30.1).bind fun z41 =>
    ((if ((decide (0 ≤ z41)) && (decide (z41 < a_most))) = true then
    (eqO z30.2.1 (.int a_goal)).bind fun z50 =>
    ((if z50 = true then (truO z30.2.2).bind fun z51 =>
    some (!z51) else some false)).bind fun c52 =>
    (if c52 = true then
    (appL s40 (.tuple [.int (-1), z30.2.1, z30.2.2])).bind fun z53 =>
    some z53
    else
    (asI z30.1).bind fun z54 =>
    (asI z30.2.1).bind fun z55 =>
    (if (decide (z54 - z55 < a_size)) = true then
    (asI z30.1).bind fun z56 =>
    (appL s40 (.tuple [.int (z56 + 1), z30.2.1, z30.2.2])).bind fun z57 =>
    some z57
    else
    some s40))
    else
    some s40)).bind fun s58 =>
    some s58
theorem run__law_next_vvvv (a_place : PyData) (a_most : Int) (a_goal : Int) (a_size : Int) : Ok (p__law_next a_place a_most a_goal a_size) fun t => G__law_next [.val (a_place), .val (.int a_most), .val (.int a_goal), .val (.int a_size)] = .ret (.own (.lst t)) [] := by
  unfold p__law_next
  refine ok_def (r0 := ⟨[some (.val (a_place)), some (.val (.int a_most)), some (.val (.int a_goal)), some (.val (.int a_size)), none, none, none, none], []⟩) rfl rfl ?_
  delta b__law_next
  refine Ok.bnd fun z30 hz30 => ?_
  refine t_seq ⟨[some (.val (a_place)), some (.val (.int a_most)), some (.val (.int a_goal)), some (.val (.int a_size)), some (.val (z30.1)), some (.val (z30.2.1)), some (.val (z30.2.2)), none], []⟩ (unp_go (x := .val (a_place)) (r1 := ⟨[some (.val (a_place)), some (.val (.int a_most)), some (.val (.int a_goal)), some (.val (.int a_size)), none, none, none, none], []⟩) (nm_val rfl) (congrArg some (unp3_eq hz30)) rfl) ?_
  refine Ok.bnd fun z31 hz31 => ?_
  refine t_seq ⟨[some (.val (a_place)), some (.val (.int a_most)), some (.val (.int a_goal)), some (.val (.int a_size)), some (.val (z30.1)), some (.val (z30.2.1)), some (.val (z30.2.2)), some (.own (.lst (if z31 = true then [.tuple [z30.1, z30.2.1, .bool false]] else [])))], []⟩ (set_go (ite_own (tT_go (nm_val rfl) rfl hz31) (fun _ => (lst_go (consL_go (tup_go (consL_go (nm_val rfl) frz_v (consL_go (nm_val rfl) frz_v (consL_go k_go frz_v nilL_go))) (sz_ok rfl)) frz_v nilL_go) (sz_ok rfl))) fun _ => (lst_go nilL_go (sz_ok rfl))) rfl) ?_
  refine Ok.bnd fun z32 hz32 => ?_
  refine Ok.bind (P := fun (c35 : Bool) => (andB (tstB (binE gLt (nmE 5) (nmE 2))) (tstB (binE gGt (nmE 4) (nmE 5)))) ⟨[some (.val (a_place)), some (.val (.int a_most)), some (.val (.int a_goal)), some (.val (.int a_size)), some (.val (z30.1)), some (.val (z30.2.1)), some (.val (z30.2.2)), some (.own (.lst (if z31 = true then [.tuple [z30.1, z30.2.1, .bool false]] else [])))], []⟩ = .ok c35 ⟨[some (.val (a_place)), some (.val (.int a_most)), some (.val (.int a_goal)), some (.val (.int a_size)), some (.val (z30.1)), some (.val (z30.2.1)), some (.val (z30.2.2)), some (.own (.lst (if z31 = true then [.tuple [z30.1, z30.2.1, .bool false]] else [])))], []⟩) ?_ fun c35 hc35 => ?_
  · refine Ok.ite (fun hc => ?_) fun hc => ?_
    · refine Ok.bnd fun z33 hz33 => ?_
      refine Ok.bnd fun z34 hz34 => ?_
      exact Ok.some (andT_go (tB_go (bin_go' (nm_val rfl) (nm_val rfl) rfl rfl (lt_I hz32 rfl)) rfl) hc (tB_go (bin_go' (nm_val rfl) (nm_val rfl) rfl rfl (gt_I hz33 hz34)) rfl))
    · exact Ok.some (andF_go (tB_go (bin_go' (nm_val rfl) (nm_val rfl) rfl rfl (lt_I hz32 rfl)) rfl) hc)
  refine t_step (Sh := fun (s_ : (List PyData)) (r_ : En) => r_ = ⟨[some (.val (a_place)), some (.val (.int a_most)), some (.val (.int a_goal)), some (.val (.int a_size)), some (.val (z30.1)), some (.val (z30.2.1)), some (.val (z30.2.2)), some (.own (.lst s_))], []⟩) ?_ ?_
  · refine n_if hc35 (fun hc => ?_) fun hc => ?_
    · refine Ok.bnd fun z38 hz38 => ?_
      refine Ok.bnd fun z39 hz39 => ?_
      exact Ok.some (Nx.of (drop_go (mut_goE (nm_own rfl) rfl (consL_go (tup_go (consL_go (nm_val rfl) frz_v (consL_go (bin_go' (nm_val rfl) k_go rfl rfl (add_I hz38 rfl)) frz_v (consL_go (nm_val rfl) frz_v nilL_go))) (sz_ok rfl)) frz_v nilL_go) rfl (app_L hz39) rfl)) rfl)
    · exact Ok.some (Nx.of nx_go rfl)
  · rintro s40 r_ hr
    subst hr
    refine Ok.bnd fun z41 hz41 => ?_
    refine t_step (Sh := fun (s_ : (List PyData)) (r_ : En) => r_ = ⟨[some (.val (a_place)), some (.val (.int a_most)), some (.val (.int a_goal)), some (.val (.int a_size)), some (.val (z30.1)), some (.val (z30.2.1)), some (.val (z30.2.2)), some (.own (.lst s_))], []⟩) ?_ ?_
    · refine n_if (tB_go (ch_go k_go (nm_val rfl) rfl rfl (le_I rfl hz41) (nm_val rfl) rfl (lt_I hz41 rfl)) rfl) (fun hc => ?_) fun hc => ?_
      · refine Ok.bnd fun z50 hz50 => ?_
        refine Ok.bind (P := fun (c52 : Bool) => (andB (tstB (binE gEq (nmE 5) (nmE 2))) (notB (tstT (nmE 6)))) ⟨[some (.val (a_place)), some (.val (.int a_most)), some (.val (.int a_goal)), some (.val (.int a_size)), some (.val (z30.1)), some (.val (z30.2.1)), some (.val (z30.2.2)), some (.own (.lst s40))], []⟩ = .ok c52 ⟨[some (.val (a_place)), some (.val (.int a_most)), some (.val (.int a_goal)), some (.val (.int a_size)), some (.val (z30.1)), some (.val (z30.2.1)), some (.val (z30.2.2)), some (.own (.lst s40))], []⟩) ?_ fun c52 hc52 => ?_
        · refine Ok.ite (fun hc => ?_) fun hc => ?_
          · refine Ok.bnd fun z51 hz51 => ?_
            exact Ok.some (andT_go (tB_go (bin_go' (nm_val rfl) (nm_val rfl) rfl rfl (eq_D hz50)) rfl) hc (not_go (tT_go (nm_val rfl) rfl hz51)))
          · exact Ok.some (andF_go (tB_go (bin_go' (nm_val rfl) (nm_val rfl) rfl rfl (eq_D hz50)) rfl) hc)
        refine n_if hc52 (fun hc => ?_) fun hc => ?_
        · refine Ok.bnd fun z53 hz53 => ?_
          exact Ok.some (Nx.of (drop_go (mut_goE (nm_own rfl) rfl (consL_go (tup_go (consL_go (un_go' k_go rfl (neg_I rfl)) frz_v (consL_go (nm_val rfl) frz_v (consL_go (nm_val rfl) frz_v nilL_go))) (sz_ok rfl)) frz_v nilL_go) rfl (app_L hz53) rfl)) rfl)
        · refine Ok.bnd fun z54 hz54 => ?_
          refine Ok.bnd fun z55 hz55 => ?_
          refine n_if (tB_go (bin_go' (bin_go' (nm_val rfl) (nm_val rfl) rfl rfl (sub_I hz54 hz55)) (nm_val rfl) rfl rfl (lt_I rfl rfl)) rfl) (fun hc => ?_) fun hc => ?_
          · refine Ok.bnd fun z56 hz56 => ?_
            refine Ok.bnd fun z57 hz57 => ?_
            exact Ok.some (Nx.of (drop_go (mut_goE (nm_own rfl) rfl (consL_go (tup_go (consL_go (bin_go' (nm_val rfl) k_go rfl rfl (add_I hz56 rfl)) frz_v (consL_go (nm_val rfl) frz_v (consL_go (nm_val rfl) frz_v nilL_go))) (sz_ok rfl)) frz_v nilL_go) rfl (app_L hz57) rfl)) rfl)
          · exact Ok.some (Nx.of nx_go rfl)
      · exact Ok.some (Nx.of nx_go rfl)
    · rintro s58 r_ hr
      subst hr
      exact Ok.some (fi_ret (nm_own rfl) rfl)
def p__law_fates (a_most : Int) (a_goal : Int) (a_size : Int) : Option (List PyData) :=
(whlO (fun (s69 : (List (PyData × PyData) × List PyData × List (Key × PyData))) => (eqO (.list s69.2.1) (.list [])).bind fun z71 =>
    some (!z71)) (fun (s69 : (List (PyData × PyData) × List PyData × List (Key × PyData))) =>
    (pop0L s69.2.1).bind fun z86 =>
    (xinO s69.1 z86.1).bind fun z87 =>
    (if (!z87) = true then
    (xputO s69.1 z86.1 (.bool true)).bind fun z88 =>
    (p__law_next z86.1 a_most a_goal a_size).bind fun y89 =>
    (extL z86.2 y89).bind fun z90 =>
    (ixO z86.1 (.int 0)).bind fun z91 =>
    (asI z91).bind fun z92 =>
    ((if (decide (z92 < 0)) = true then
    (dputO s69.2.2 (.str ("broken")) (.bool true)).bind fun z94 =>
    some z94
    else
    some s69.2.2)).bind fun s95 =>
    (ixO z86.1 (.int 0)).bind fun z96 =>
    (eqO z96 (.int a_most)).bind fun z97 =>
    (if z97 = true then
    (dputO s95 (.str ("over")) (.bool true)).bind fun z98 =>
    some (z88, z90, z98)
    else
    some (z88, z90, s95))
    else
    some (s69.1, z86.2, s69.2.2))) 1000 ([], [.tuple [.int 0, .int 0, .bool true]], [])).bind fun s99 =>
    (sdO s99.2.2).bind fun z100 =>
    some (z100.map PyData.str)
theorem run__law_fates_vvv (a_most : Int) (a_goal : Int) (a_size : Int) : Ok (p__law_fates a_most a_goal a_size) fun t => G__law_fates [.val (.int a_most), .val (.int a_goal), .val (.int a_size)] = .ret (.val (.tuple t)) [] := by
  unfold p__law_fates
  refine ok_def (r0 := ⟨[some (.val (.int a_most)), some (.val (.int a_goal)), some (.val (.int a_size)), none, none, none, none], []⟩) rfl rfl ?_
  delta b__law_fates
  refine t_seq ⟨[some (.val (.int a_most)), some (.val (.int a_goal)), some (.val (.int a_size)), some (.own (.ddt [])), some (.own (.lst [.tuple [.int 0, .int 0, .bool true]])), some (.own (.dct [])), none], []⟩ (par3_go (consR_go xnew_go (consR_go (lst_go (consL_go (tup_go (consL_go k_go frz_v (consL_go k_go frz_v (consL_go k_go frz_v nilL_go))) (sz_ok rfl)) frz_v nilL_go) (sz_ok rfl)) (consR_go dnew_go nilR_go))) rfl rfl rfl rfl) ?_
  refine t_step (Sh := fun (s_ : (List (PyData × PyData) × List PyData × List (Key × PyData))) (r_ : En) => ∃ u68 : Option Sl, r_ = ⟨[some (.val (.int a_most)), some (.val (.int a_goal)), some (.val (.int a_size)), some (.own (.ddt s_.1)), some (.own (.lst s_.2.1)), some (.own (.dct s_.2.2)), u68], []⟩) ?_ ?_
  · refine nx_whl (Sh := fun (s_ : (List (PyData × PyData) × List PyData × List (Key × PyData))) (r_ : En) => ∃ u68 : Option Sl, r_ = ⟨[some (.val (.int a_most)), some (.val (.int a_goal)), some (.val (.int a_size)), some (.own (.ddt s_.1)), some (.own (.lst s_.2.1)), some (.own (.dct s_.2.2)), u68], []⟩) ?_ ?_ 1000 _ _ ⟨_, rfl⟩
    · rintro s69 r_ ⟨u68, hr⟩
      subst hr
      refine Ok.bnd fun z71 hz71 => ?_
      exact Ok.some (tB_go (bin_go' (nm_own rfl) (lst_go nilL_go (sz_ok rfl)) rfl rfl (ne_D hz71)) rfl)
    · rintro s69 r_ ⟨u68, hr⟩
      subst hr
      refine Ok.bnd fun z86 hz86 => ?_
      refine n_seq ⟨[some (.val (.int a_most)), some (.val (.int a_goal)), some (.val (.int a_size)), some (.own (.ddt s69.1)), some (.own (.lst z86.2)), some (.own (.dct s69.2.2)), some (.val (z86.1))], []⟩ (set_go (mut_goE (nm_own rfl) rfl nilL_go rfl (pop0_L hz86) rfl) rfl) ?_
      refine Ok.bnd fun z87 hz87 => ?_
      refine n_if (tB_go (xnin_go (nm_val rfl) (nm_own rfl) rfl rfl hz87) rfl) (fun hc => ?_) fun hc => ?_
      · refine Ok.bnd fun z88 hz88 => ?_
        refine n_seq ⟨[some (.val (.int a_most)), some (.val (.int a_goal)), some (.val (.int a_size)), some (.own (.ddt z88)), some (.own (.lst z86.2)), some (.own (.dct s69.2.2)), some (.val (z86.1))], []⟩ (xst_go k_go frz_v (nm_own rfl) (nm_val rfl) rfl rfl hz88 rfl) ?_
        refine Ok.bind (run__law_next_vvvv z86.1 a_most a_goal a_size) fun y89 hy89 => ?_
        refine Ok.bnd fun z90 hz90 => ?_
        refine n_seq ⟨[some (.val (.int a_most)), some (.val (.int a_goal)), some (.val (.int a_size)), some (.own (.ddt z88)), some (.own (.lst z90)), some (.own (.dct s69.2.2)), some (.val (z86.1))], []⟩ (drop_go (mut_goE (nm_own rfl) rfl (consL_go (call_goE (consR_go (nm_val rfl) (consR_go (nm_val rfl) (consR_go (nm_val rfl) (consR_go (nm_val rfl) nilR_go)))) (ags_val (ags_val (ags_val (ags_val ags_nil)))) rfl hy89 rfl rfl) frz_o nilL_go) rfl (ext_L rfl hz90) rfl)) ?_
        refine Ok.bnd fun z91 hz91 => ?_
        refine Ok.bnd fun z92 hz92 => ?_
        refine n_step (Sh := fun (s_ : (List (Key × PyData))) (r_ : En) => r_ = ⟨[some (.val (.int a_most)), some (.val (.int a_goal)), some (.val (.int a_size)), some (.own (.ddt z88)), some (.own (.lst z90)), some (.own (.dct s_)), some (.val (z86.1))], []⟩) ?_ ?_
        · refine n_if (tB_go (bin_go' (bin_go' (nm_val rfl) k_go rfl rfl (ix_D hz91)) k_go rfl rfl (lt_I hz92 rfl)) rfl) (fun hc => ?_) fun hc => ?_
          · refine Ok.bnd fun z94 hz94 => ?_
            exact Ok.some (Nx.of (dst_go k_go frz_v (nm_own rfl) k_go rfl rfl hz94 rfl) rfl)
          · exact Ok.some (Nx.of nx_go rfl)
        · rintro s95 r_ hr
          subst hr
          refine Ok.bnd fun z96 hz96 => ?_
          refine Ok.bnd fun z97 hz97 => ?_
          refine n_if (tB_go (bin_go' (bin_go' (nm_val rfl) k_go rfl rfl (ix_D hz96)) (nm_val rfl) rfl rfl (eq_D hz97)) rfl) (fun hc => ?_) fun hc => ?_
          · refine Ok.bnd fun z98 hz98 => ?_
            exact Ok.some (Nx.of (dst_go k_go frz_v (nm_own rfl) k_go rfl rfl hz98 rfl) ⟨_, rfl⟩)
          · exact Ok.some (Nx.of nx_go ⟨_, rfl⟩)
      · exact Ok.some (Nx.of nx_go ⟨_, rfl⟩)
  · rintro s99 r_ ⟨u68, hr⟩
    subst hr
    refine Ok.bnd fun z100 hz100 => ?_
    exact Ok.some (fi_ret (un_go' (sd_go (nm_own rfl) rfl hz100) rfl (tuple_L rfl)) rfl)
/-! _law_told by hand: the errors of head_fates -/
theorem callE_ex {G : List Ag → FR} {f : M (List Rv)} {z : Exc} {xs : List Rv} {ags : List Ag} {ls : List Lo} {os : List Bo} {r r1 r2 : En} (h1 : f r = .ok xs r1) (h2 : agsOf r1 xs = some (ags, ls)) (h3 : noDup ls = true) (h4 : G ags = .ex z os) (h5 : os.length = ls.length) (e2 : back ls os r1 = r2) : callE G f r = .ex z r2 := by
  subst e2
  refine (bnd_ok h1).trans ?_
  unfold callF
  rw [h2]
  simp only [h3, if_true, h4, h5]
theorem drop_ex {f : M Rv} {z : Exc} {r r1 : En} (h : f r = .ex z r1) : dropS f r = .ex z r1 := by unfold dropS ofM; rw [h]
theorem set_ex {i : Nat} {f : M Rv} {z : Exc} {r r1 : En} (h : f r = .ex z r1) : setS i f r = .ex z r1 := by unfold setS ofM; rw [h]
theorem seq_ex {s t : Stm} {z : Exc} {r r1 : En} (h : s r = .ex z r1) : seqS s t r = .ex z r1 := by unfold seqS; rw [h]
theorem seq_nx' {s t : Stm} {r r1 : En} {o : Out} (h : s r = .nx r1) (h2 : t r1 = o) : seqS s t r = o := by unfold seqS; rw [h]; exact h2
theorem run_ex {np n : Nat} {bd : Stm} {ags : List Ag} {r0 r1 : En} {z : Exc} (h : ags.length = np) (e : entry n ags = r0) (h2 : bd r0 = .ex z r1) : runF np n bd ags = .ex z r1.os := by
  unfold runF; rw [if_pos h, e, h2]; rfl
def goodI : PyData → Bool
  | .int i => decide (1 ≤ i)
  | _ => false
def isIntB : PyData → Bool
  | .int _ => true
  | _ => false
theorem isInt_run {v : PyData} (h : (tyN v).isSome = true) : G_is_integer [.val v] = .ret (.val (.bool (isIntB v))) [] := by
  refine run_is_integer_v v _ ?_
  have key : ∀ m, tyN v = some m → m ≠ "int" → m ≠ "bool" → p_is_integer v = some false := fun m e h1 h2 => by
    unfold p_is_integer isiO
    rw [e]
    simp [isN, h1, h2]
  cases v with
  | int i => rfl
  | bool b => rfl
  | none => exact key "NoneType" rfl (by decide) (by decide)
  | str x => exact key "str" rfl (by decide) (by decide)
  | list x => exact key "list" rfl (by decide) (by decide)
  | tuple x => exact key "tuple" rfl (by decide) (by decide)
  | dict kvs =>
    have e : tyN (.dict kvs) = some "dict" := by
      unfold tyN at h ⊢
      split at h <;> first | cases h | skip
      all_goals rename_i q
      all_goals first | rfl | cases q
      all_goals simp_all
    exact key "dict" e (by decide) (by decide)
theorem tst_int {v : PyData} (h : (tyN v).isSome = true) : (orB (notB (tstT (callE G_is_integer (consR (nmE 0) (nilR))))) (tstB (binE gLt (nmE 0) (kE (.int 1))))) ⟨[some (.val v)], []⟩ = .ok (!goodI v) ⟨[some (.val v)], []⟩ := by
  have hy := isInt_run h
  cases v with
  | int i =>
    refine (orF_go (not_go (tT_go (call_goE (consR_go (nm_val rfl) nilR_go) (ags_val ags_nil) rfl hy rfl rfl) rfl truth_b)) rfl (tB_go (bin_go' (nm_val rfl) k_go rfl rfl (lt_I rfl rfl)) rfl)).trans ?_
    have e : decide (i < 1) = !goodI (.int i) := by
      show decide (i < 1) = !decide (1 ≤ i)
      rw [Bool.eq_iff_iff]; simp
    rw [e]
    rfl
  | none => exact orT_go (not_go (tT_go (call_goE (consR_go (nm_val rfl) nilR_go) (ags_val ags_nil) rfl hy rfl rfl) rfl truth_b)) rfl
  | bool b => exact orT_go (not_go (tT_go (call_goE (consR_go (nm_val rfl) nilR_go) (ags_val ags_nil) rfl hy rfl rfl) rfl truth_b)) rfl
  | str b => exact orT_go (not_go (tT_go (call_goE (consR_go (nm_val rfl) nilR_go) (ags_val ags_nil) rfl hy rfl rfl) rfl truth_b)) rfl
  | list b => exact orT_go (not_go (tT_go (call_goE (consR_go (nm_val rfl) nilR_go) (ags_val ags_nil) rfl hy rfl rfl) rfl truth_b)) rfl
  | tuple b => exact orT_go (not_go (tT_go (call_goE (consR_go (nm_val rfl) nilR_go) (ags_val ags_nil) rfl hy rfl rfl) rfl truth_b)) rfl
  | dict b => exact orT_go (not_go (tT_go (call_goE (consR_go (nm_val rfl) nilR_go) (ags_val ags_nil) rfl hy rfl rfl) rfl truth_b)) rfl
theorem units_ex {v : PyData} (h : (tyN v).isSome = true) (g : goodI v = false) : G_check_units [.val v] = .ex ⟨"InvalidNumber", []⟩ [] := by
  refine run_ex (r0 := ⟨[some (.val v)], []⟩) (r1 := ⟨[some (.val v)], []⟩) rfl rfl ?_
  delta b_check_units
  have e := tst_int h
  rw [g] at e
  exact if_T e
theorem cap_ex {v : PyData} (h : (tyN v).isSome = true) (g : goodI v = false) : G_check_capacity [.val v] = .ex ⟨"InvalidCapacity", []⟩ [] := by
  refine run_ex (r0 := ⟨[some (.val v)], []⟩) (r1 := ⟨[some (.val v)], []⟩) rfl rfl ?_
  delta b_check_capacity
  have e := tst_int h
  rw [g] at e
  exact if_T e
theorem good_int {v : PyData} (g : goodI v = true) : ∃ i : Int, v = .int i ∧ 1 ≤ i := by
  cases v with
  | int i => exact ⟨i, rfl, of_decide_eq_true g⟩
  | _ => cases g
theorem units_ok {v : PyData} (g : goodI v = true) : G_check_units [.val v] = .ret (.val .none) [] := by
  obtain ⟨i, rfl, h⟩ := good_int g
  refine run_check_units_v (.int i) () ?_
  have e : p_is_integer (.int i) = some true := rfl
  unfold p_check_units
  rw [e]
  have : ¬ i < 1 := by omega
  simp [asI, this]
def headX (a b : PyData) : Exc := if goodI a = true ∧ goodI b = true then ⟨"InvalidCapacity", []⟩ else ⟨"InvalidNumber", []⟩
theorem head_ex {a b c : PyData} (ha : (tyN a).isSome = true) (hb : (tyN b).isSome = true) (hc : (tyN c).isSome = true) (g : goodI c = false) : G_head_fates [.val a, .val b, .val c] = .ex (headX a b) [] := by
  refine run_ex (r0 := ⟨[some (.val a), some (.val b), some (.val c)], []⟩) (r1 := ⟨[some (.val a), some (.val b), some (.val c)], []⟩) rfl rfl ?_
  delta b_head_fates
  unfold headX
  cases ga : goodI a with
  | false =>
    rw [if_neg (by simp)]
    exact seq_ex (drop_ex (callE_ex (consR_go (nm_val rfl) nilR_go) (ags_val ags_nil) rfl (units_ex ha ga) rfl rfl))
  | true =>
    refine seq_nx' (drop_go (call_goE (consR_go (nm_val rfl) nilR_go) (ags_val ags_nil) rfl (units_ok ga) rfl rfl)) ?_
    cases gb : goodI b with
    | false =>
      rw [if_neg (by simp)]
      exact seq_ex (drop_ex (callE_ex (consR_go (nm_val rfl) nilR_go) (ags_val ags_nil) rfl (units_ex hb gb) rfl rfl))
    | true =>
      rw [if_pos ⟨rfl, rfl⟩]
      refine seq_nx' (drop_go (call_goE (consR_go (nm_val rfl) nilR_go) (ags_val ags_nil) rfl (units_ok gb) rfl rfl)) ?_
      exact seq_ex (drop_ex (callE_ex (consR_go (nm_val rfl) nilR_go) (ags_val ags_nil) rfl (cap_ex hc g) rfl rfl))
def toldS (a b : PyData) : Str := if goodI a = true ∧ goodI b = true then "capacity" else "number"
def p__law_told (a_one a_two a_three : PyData) : Option PyData := if ((tyN a_one).isSome && (tyN a_two).isSome && (tyN a_three).isSome && !goodI a_three) = true then some (.str (toldS a_one a_two)) else none
theorem run__law_told_vvv (a_one a_two a_three : PyData) : Ok (p__law_told a_one a_two a_three) fun t => G__law_told [.val a_one, .val a_two, .val a_three] = .ret (.val t) [] := by
  unfold p__law_told
  refine Ok.ite (fun hc => ?_) fun _ => Ok.none
  simp only [Bool.and_eq_true, Bool.not_eq_true'] at hc
  obtain ⟨⟨⟨ha, hb⟩, hc⟩, g⟩ := hc
  refine ok_def (r0 := ⟨[some (.val a_one), some (.val a_two), some (.val a_three), none, none], []⟩) rfl rfl (Ok.some ?_)
  delta b__law_told
  have hx := head_ex ha hb hc g
  have e1 : ∀ s t : Stm, seqS (setS 3 (kE .none)) (seqS s t) ⟨[some (.val a_one), some (.val a_two), some (.val a_three), none, none], []⟩ = seqS s t ⟨[some (.val a_one), some (.val a_two), some (.val a_three), some (.val .none), none], []⟩ := fun s t => rfl
  rw [e1]
  have e2 : ∀ su : Stm, tryA 4 (setS 3 (callE G_head_fates (consR (nmE 0) (consR (nmE 1) (consR (nmE 2) (nilR)))))) m_WireError su ⟨[some (.val a_one), some (.val a_two), some (.val a_three), some (.val .none), none], []⟩ = endA 4 (su ⟨[some (.val a_one), some (.val a_two), some (.val a_three), some (.val .none), some (.cau (headX a_one a_two))], []⟩) := fun su => by
    unfold tryA
    rw [set_ex (callE_ex (r2 := ⟨[some (.val a_one), some (.val a_two), some (.val a_three), some (.val .none), none], []⟩) (consR_go (nm_val rfl) (consR_go (nm_val rfl) (consR_go (nm_val rfl) nilR_go))) (ags_val (ags_val (ags_val ags_nil))) rfl hx rfl rfl)]
    have e3 : m_WireError (headX a_one a_two).cls = some true := by unfold headX; split <;> rfl
    simp only [e3]
    rfl
  have e4 : ∀ s t : Stm, ∀ r : En, seqS s t r = match s r with
    | .nx r1 => t r1
    | o => o := fun _ _ _ => rfl
  rw [e4, e2]
  by_cases q : goodI a_one = true ∧ goodI a_two = true
  · rw [show headX a_one a_two = ⟨"InvalidCapacity", []⟩ from if_pos q, show toldS a_one a_two = "capacity" from if_pos q]
    exact ⟨rfl, fun q => by cases q⟩
  · rw [show headX a_one a_two = ⟨"InvalidNumber", []⟩ from if_neg q, show toldS a_one a_two = "number" from if_neg q]
    exact ⟨rfl, fun q => by cases q⟩

def p__law_right (a_tank : List PyData) : Option (Bool × List PyData) :=
(lcS (fun (s87 : (List PyData)) (x88 : Nat) => (p__law_drip s87 2).bind fun y89 =>
    (ixL [.int 4, .int 100000000000000000000000000000] y89.1).bind fun z90 =>
    (asI z90).bind fun z91 =>
    (p__law_drip y89.2 z91).bind fun y92 =>
    some (some (.int (1 + y92.1)), y92.2)) (List.range 2) [] a_tank).bind fun z93 =>
    (unl2 z93.1).bind fun z94 =>
    (asI z94.1).bind fun z95 =>
    (asI z94.1).bind fun z96 =>
    (asI z94.2).bind fun z97 =>
    (asI z94.1).bind fun z98 =>
    (asI z94.2).bind fun z99 =>
    (asI z94.1).bind fun z100 =>
    (asI z94.1).bind fun z101 =>
    (asI z94.2).bind fun z102 =>
    (p__law_drip z93.2 1000000000000000000000000000000).bind fun y103 =>
    (addL [z94.1, .int (z95 + 1), .int (z96 + z97), .int ((z98 + z99) + 1), .int (max 1 (z100 - 1)), .int ((z101 + z102) - 1)] [.int (1 + y103.1)]).bind fun z104 =>
    (p__law_drip y103.2 7).bind fun y105 =>
    (ixL z104 y105.1).bind fun z106 =>
    (asI z106).bind fun z107 =>
    (asI z94.1).bind fun z108 =>
    (asI z94.1).bind fun z109 =>
    (asI z94.2).bind fun z110 =>
    (asI z106).bind fun z111 =>
    (p_head_fates z106 z94.1 z94.2).bind fun y112 =>
    (p_head_fates z106 z94.1 z94.2).bind fun y113 =>
    (reprO (.list [.tuple y112, .tuple y113])).bind fun z114 =>
    (reprO (.list [.tuple (if (decide (z109 + z110 < z111)) = true then [.str ("broken")] else if (decide (z107 ≤ z108)) = true then [.str ("over")] else [.str ("broken"), .str ("over")]), .tuple (if (decide (z109 + z110 < z111)) = true then [.str ("broken")] else if (decide (z107 ≤ z108)) = true then [.str ("over")] else [.str ("broken"), .str ("over")])])).bind fun z115 =>
    (if (!decide (z114 = z115)) = true then
    some (false, y105.2)
    else
    (asI z106).bind fun z116 =>
    ((if (decide (z116 < 11)) = true then (asI z106).bind fun z117 =>
    (asI z94.1).bind fun z118 =>
    (asI z94.2).bind fun z119 =>
    (p__law_fates z117 z118 z119).bind fun y120 =>
    (eqO (.tuple y120) (.tuple (if (decide (z109 + z110 < z111)) = true then [.str ("broken")] else if (decide (z107 ≤ z108)) = true then [.str ("over")] else [.str ("broken"), .str ("over")]))).bind fun z121 =>
    some (!z121) else some false)).bind fun c122 =>
    (if c122 = true then
    some (false, y105.2)
    else
    (lcS (fun (s130 : (List PyData)) (x131 : Nat) => (p__law_drip s130 10).bind fun y132 =>
    (ixL [.int 0, .int (-1), .none, .bool true, .bool false, .str ("1"), .list [.int 1], .tuple [.int 1], dctD [], .int (-1000000000000000000000000000000)] y132.1).bind fun z133 =>
    some (some (z133), y132.2)) (List.range 3) [] y105.2).bind fun z134 =>
    (ixL z134.1 0).bind fun z135 =>
    (ixL z134.1 1).bind fun z136 =>
    (ixL z134.1 2).bind fun z137 =>
    (p__law_told z135 z136 z137).bind fun y138 =>
    (ixL z134.1 0).bind fun z139 =>
    (ixL z134.1 2).bind fun z140 =>
    (p__law_told z139 z94.1 z140).bind fun y141 =>
    (ixL z134.1 1).bind fun z142 =>
    (ixL z134.1 2).bind fun z143 =>
    (p__law_told z106 z142 z143).bind fun y144 =>
    (ixL z134.1 2).bind fun z145 =>
    (p__law_told z106 z94.1 z145).bind fun y146 =>
    (addL [y138, y141, y144] [y146]).bind fun z147 =>
    (repL [.str ("number")] 3).bind fun z148 =>
    (addL z148 [.str ("capacity")]).bind fun z149 =>
    (eqO (.list z147) (.list z149)).bind fun z150 =>
    some (z150, z134.2)))
theorem run__law_right_r (a_tank : List PyData) : Ok (p__law_right a_tank) fun t => G__law_right [.ref (.lst a_tank)] = .ret (.val (.bool t.1)) [.live (.lst t.2)] := by
  unfold p__law_right
  refine ok_def (r0 := ⟨[some (.bor 0), none, none, none, none, none, none, none, none, none], [.live (.lst a_tank)]⟩) rfl rfl ?_
  delta b__law_right
  refine Ok.bind (P := fun o_ => (lcE (rng1 (kE (.int 2))) (fun d r => some (put r 9 (.val d))) [9] (yesB) (binE gAdd (kE (.int 1)) (callE G__law_drip (consR (nmE 0) (consR (binE gIx (lstE (consL (kE (.int 4)) (consL (binE gPow (kE (.int 10)) (kE (.int 29))) (nilL)))) (callE G__law_drip (consR (nmE 0) (consR (kE (.int 2)) (nilR))))) (nilR)))))) ⟨[some (.bor 0), none, none, none, none, none, none, none, none, none], [.live (.lst a_tank)]⟩ = .ok (.own (.lst o_.1)) ⟨[some (.bor 0), none, none, none, none, none, none, none, none, none], [.live (.lst o_.2)]⟩) (ok_lcS (F := fun (s87 : (List PyData)) (x88 : Nat) => (p__law_drip s87 2).bind fun y89 =>
    (ixL [.int 4, .int 100000000000000000000000000000] y89.1).bind fun z90 =>
    (asI z90).bind fun z91 =>
    (p__law_drip y89.2 z91).bind fun y92 =>
    some (some (.int (1 + y92.1)), y92.2)) (Sh := fun (s_ : (List PyData)) (r_ : En) => r_ = ⟨[some (.bor 0), none, none, none, none, none, none, none, none, none], [.live (.lst s_)]⟩) (Rs := fun s_ => ⟨[some (.bor 0), none, none, none, none, none, none, none, none, none], [.live (.lst s_)]⟩) (its_rng k_go rfl (by decide +kernel) (by decide +kernel)) rfl rfl (fun s_ r_ hr => by subst hr; rfl) (fun s_ r_ hr => by subst hr; exact trivial) ?_) fun z93 hz93 => ?_
  · rintro s87 x88 r_ hr
    subst hr
    refine Ok.bind (run__law_drip_rv s87 2) fun y89 hy89 => ?_
    refine Ok.bnd fun z90 hz90 => ?_
    refine Ok.bnd fun z91 hz91 => ?_
    refine Ok.bind (run__law_drip_rv y89.2 z91) fun y92 hy92 => ?_
    exact Ok.some (lcu_yes rfl yes_go (bin_go' k_go (call_goE (consR_go (nm_bor rfl) (consR_go (bin_go' (lst_go (consL_go k_go frz_v (consL_go (bin_go' k_go k_go rfl rfl (pow_I (k := 100000000000000000000000000000) rfl rfl (by decide +kernel))) frz_v nilL_go)) (sz_ok rfl)) (call_goE (consR_go (nm_bor rfl) (consR_go k_go nilR_go)) (ags_at rfl (ags_val ags_nil)) rfl hy89 rfl rfl) rfl rfl (ix_L rfl rfl hz90)) nilR_go)) (ags_at rfl (ags_val ags_nil)) rfl (by rw [asI_eq hz91]; exact hy92) rfl rfl) rfl rfl (add_I rfl rfl)) frz_v rfl)
  refine Ok.bnd fun z94 hz94 => ?_
  refine t_seq ⟨[some (.bor 0), some (.val (z94.1)), some (.val (z94.2)), none, none, none, none, none, none, none], [.live (.lst z93.2)]⟩ (unl_go (x := .own (.lst z93.1)) (r1 := ⟨[some (.bor 0), none, none, none, none, none, none, none, none, none], [.live (.lst z93.2)]⟩) hz93 (congrArg (fun l => some (PyData.list l)) (unl2_eq hz94)) frz_o rfl) ?_
  refine Ok.bnd fun z95 hz95 => ?_
  refine Ok.bnd fun z96 hz96 => ?_
  refine Ok.bnd fun z97 hz97 => ?_
  refine Ok.bnd fun z98 hz98 => ?_
  refine Ok.bnd fun z99 hz99 => ?_
  refine Ok.bnd fun z100 hz100 => ?_
  refine Ok.bnd fun z101 hz101 => ?_
  refine Ok.bnd fun z102 hz102 => ?_
  refine t_seq ⟨[some (.bor 0), some (.val (z94.1)), some (.val (z94.2)), some (.own (.lst [z94.1, .int (z95 + 1), .int (z96 + z97), .int ((z98 + z99) + 1), .int (max 1 (z100 - 1)), .int ((z101 + z102) - 1)])), none, none, none, none, none, none], [.live (.lst z93.2)]⟩ (set_go (lst_go (consL_go (nm_val rfl) frz_v (consL_go (bin_go' (nm_val rfl) k_go rfl rfl (add_I hz95 rfl)) frz_v (consL_go (bin_go' (nm_val rfl) (nm_val rfl) rfl rfl (add_I hz96 hz97)) frz_v (consL_go (bin_go' (bin_go' (nm_val rfl) (nm_val rfl) rfl rfl (add_I hz98 hz99)) k_go rfl rfl (add_I rfl rfl)) frz_v (consL_go (bin_go' k_go (bin_go' (nm_val rfl) k_go rfl rfl (sub_I hz100 rfl)) rfl rfl (max_I rfl rfl)) frz_v (consL_go (bin_go' (bin_go' (nm_val rfl) (nm_val rfl) rfl rfl (add_I hz101 hz102)) k_go rfl rfl (sub_I rfl rfl)) frz_v nilL_go)))))) (sz_ok rfl)) rfl) ?_
  refine Ok.bind (run__law_drip_rv z93.2 1000000000000000000000000000000) fun y103 hy103 => ?_
  refine Ok.bnd fun z104 hz104 => ?_
  refine Ok.bind (run__law_drip_rv y103.2 7) fun y105 hy105 => ?_
  refine Ok.bnd fun z106 hz106 => ?_
  refine t_seq ⟨[some (.bor 0), some (.val (z94.1)), some (.val (z94.2)), some (.own (.lst [z94.1, .int (z95 + 1), .int (z96 + z97), .int ((z98 + z99) + 1), .int (max 1 (z100 - 1)), .int ((z101 + z102) - 1)])), some (.val (z106)), none, none, none, none, none], [.live (.lst y105.2)]⟩ (set_go (bin_go' (bin_go' (nm_own rfl) (lst_go (consL_go (bin_go' k_go (call_goE (consR_go (nm_bor rfl) (consR_go (bin_go' k_go k_go rfl rfl (pow_I (k := 1000000000000000000000000000000) rfl rfl (by decide +kernel))) nilR_go)) (ags_at rfl (ags_val ags_nil)) rfl hy103 rfl rfl) rfl rfl (add_I rfl rfl)) frz_v nilL_go) (sz_ok rfl)) rfl rfl (add_L rfl rfl hz104)) (call_goE (consR_go (nm_bor rfl) (consR_go k_go nilR_go)) (ags_at rfl (ags_val ags_nil)) rfl hy105 rfl rfl) rfl rfl (ix_L rfl rfl hz106)) rfl) ?_
  refine Ok.bnd fun z107 hz107 => ?_
  refine Ok.bnd fun z108 hz108 => ?_
  refine t_seq ⟨[some (.bor 0), some (.val (z94.1)), some (.val (z94.2)), some (.own (.lst [z94.1, .int (z95 + 1), .int (z96 + z97), .int ((z98 + z99) + 1), .int (max 1 (z100 - 1)), .int ((z101 + z102) - 1)])), some (.val (z106)), some (.val (.tuple (if (decide (z107 ≤ z108)) = true then [.str ("over")] else [.str ("broken"), .str ("over")]))), none, none, none, none], [.live (.lst y105.2)]⟩ (set_go (ite_inj PyData.tuple (tB_go (bin_go' (nm_val rfl) (nm_val rfl) rfl rfl (le_I hz107 hz108)) rfl) (fun _ => (tup_go (consL_go k_go frz_v nilL_go) (sz_ok rfl))) fun _ => (tup_go (consL_go k_go frz_v (consL_go k_go frz_v nilL_go)) (sz_ok rfl))) rfl) ?_
  refine Ok.bnd fun z109 hz109 => ?_
  refine Ok.bnd fun z110 hz110 => ?_
  refine Ok.bnd fun z111 hz111 => ?_
  refine t_seq ⟨[some (.bor 0), some (.val (z94.1)), some (.val (z94.2)), some (.own (.lst [z94.1, .int (z95 + 1), .int (z96 + z97), .int ((z98 + z99) + 1), .int (max 1 (z100 - 1)), .int ((z101 + z102) - 1)])), some (.val (z106)), some (.val (.tuple (if (decide (z109 + z110 < z111)) = true then [.str ("broken")] else if (decide (z107 ≤ z108)) = true then [.str ("over")] else [.str ("broken"), .str ("over")]))), none, none, none, none], [.live (.lst y105.2)]⟩ (set_go (ite_inj PyData.tuple (tB_go (bin_go' (nm_val rfl) (bin_go' (nm_val rfl) (nm_val rfl) rfl rfl (add_I hz109 hz110)) rfl rfl (gt_I hz111 rfl)) rfl) (fun _ => (tup_go (consL_go k_go frz_v nilL_go) (sz_ok rfl))) fun _ => (nm_val rfl)) rfl) ?_
  refine Ok.bind (run_head_fates_vvv z106 z94.1 z94.2) fun y112 hy112 => ?_
  refine Ok.bind (run_head_fates_vvv z106 z94.1 z94.2) fun y113 hy113 => ?_
  refine Ok.bnd fun z114 hz114 => ?_
  refine Ok.bnd fun z115 hz115 => ?_
  refine ok_ifRn (tB_go (bin_go' (un_go' (lst_go (consL_go (call_goE (consR_go (nm_val rfl) (consR_go (nm_val rfl) (consR_go (nm_val rfl) nilR_go))) (ags_val (ags_val (ags_val ags_nil))) rfl hy112 rfl rfl) frz_v (consL_go (kw_go (consR_go (nm_val rfl) (consR_go (nm_val rfl) (consR_go (nm_val rfl) nilR_go))) rfl rfl (ags_val (ags_val (ags_val ags_nil))) rfl hy113 rfl rfl) frz_v nilL_go)) (sz_ok rfl)) rfl (repr_D hz114)) (un_go' (lst_go (consL_go (nm_val rfl) frz_v (consL_go (nm_val rfl) frz_v nilL_go)) (sz_ok rfl)) rfl (repr_D hz115)) rfl rfl (ne_S rfl rfl)) rfl) (fun hc => ?_) fun hc => ?_
  · exact Ok.some (fi_ret k_go rfl)
  · refine Ok.bnd fun z116 hz116 => ?_
    refine Ok.bind (P := fun (c122 : Bool) => (andB (tstB (binE gLt (nmE 4) (kE (.int 11)))) (tstB (binE gNe (callE G__law_fates (consR (nmE 4) (consR (nmE 1) (consR (nmE 2) (nilR))))) (nmE 5)))) ⟨[some (.bor 0), some (.val (z94.1)), some (.val (z94.2)), some (.own (.lst [z94.1, .int (z95 + 1), .int (z96 + z97), .int ((z98 + z99) + 1), .int (max 1 (z100 - 1)), .int ((z101 + z102) - 1)])), some (.val (z106)), some (.val (.tuple (if (decide (z109 + z110 < z111)) = true then [.str ("broken")] else if (decide (z107 ≤ z108)) = true then [.str ("over")] else [.str ("broken"), .str ("over")]))), none, none, none, none], [.live (.lst y105.2)]⟩ = .ok c122 ⟨[some (.bor 0), some (.val (z94.1)), some (.val (z94.2)), some (.own (.lst [z94.1, .int (z95 + 1), .int (z96 + z97), .int ((z98 + z99) + 1), .int (max 1 (z100 - 1)), .int ((z101 + z102) - 1)])), some (.val (z106)), some (.val (.tuple (if (decide (z109 + z110 < z111)) = true then [.str ("broken")] else if (decide (z107 ≤ z108)) = true then [.str ("over")] else [.str ("broken"), .str ("over")]))), none, none, none, none], [.live (.lst y105.2)]⟩) ?_ fun c122 hc122 => ?_
    · refine Ok.ite (fun hc => ?_) fun hc => ?_
      · refine Ok.bnd fun z117 hz117 => ?_
        refine Ok.bnd fun z118 hz118 => ?_
        refine Ok.bnd fun z119 hz119 => ?_
        refine Ok.bind (run__law_fates_vvv z117 z118 z119) fun y120 hy120 => ?_
        refine Ok.bnd fun z121 hz121 => ?_
        exact Ok.some (andT_go (tB_go (bin_go' (nm_val rfl) k_go rfl rfl (lt_I hz116 rfl)) rfl) hc (tB_go (bin_go' (call_goE (consR_go (nm_val rfl) (consR_go (nm_val rfl) (consR_go (nm_val rfl) nilR_go))) (ags_val (ags_val (ags_val ags_nil))) rfl (by rw [asI_eq hz117, asI_eq hz118, asI_eq hz119]; exact hy120) rfl rfl) (nm_val rfl) rfl rfl (ne_D hz121)) rfl))
      · exact Ok.some (andF_go (tB_go (bin_go' (nm_val rfl) k_go rfl rfl (lt_I hz116 rfl)) rfl) hc)
    refine ok_ifRn hc122 (fun hc => ?_) fun hc => ?_
    · exact Ok.some (fi_ret k_go rfl)
    · refine t_seq ⟨[some (.bor 0), some (.val (z94.1)), some (.val (z94.2)), some (.own (.lst [z94.1, .int (z95 + 1), .int (z96 + z97), .int ((z98 + z99) + 1), .int (max 1 (z100 - 1)), .int ((z101 + z102) - 1)])), some (.val (z106)), some (.val (.tuple (if (decide (z109 + z110 < z111)) = true then [.str ("broken")] else if (decide (z107 ≤ z108)) = true then [.str ("over")] else [.str ("broken"), .str ("over")]))), some (.own (.lst [.int 0, .int (-1), .none, .bool true, .bool false, .str ("1"), .list [.int 1], .tuple [.int 1], dctD [], .int (-1000000000000000000000000000000)])), none, none, none], [.live (.lst y105.2)]⟩ (set_go (lst_go (consL_go k_go frz_v (consL_go (un_go' k_go rfl (neg_I rfl)) frz_v (consL_go k_go frz_v (consL_go k_go frz_v (consL_go k_go frz_v (consL_go k_go frz_v (consL_go (lst_go (consL_go k_go frz_v nilL_go) (sz_ok rfl)) frz_o (consL_go (tup_go (consL_go k_go frz_v nilL_go) (sz_ok rfl)) frz_v (consL_go dnew_go frz_k (consL_go (un_go' (bin_go' k_go k_go rfl rfl (pow_I (k := 1000000000000000000000000000000) rfl rfl (by decide +kernel))) rfl (neg_I rfl)) frz_v nilL_go)))))))))) (sz_ok rfl)) rfl) ?_
      refine Ok.bind (P := fun o_ => (lcE (rng1 (kE (.int 3))) (fun d r => some (put r 9 (.val d))) [9] (yesB) (binE gIx (nmE 6) (callE G__law_drip (consR (nmE 0) (consR (kE (.int 10)) (nilR)))))) ⟨[some (.bor 0), some (.val (z94.1)), some (.val (z94.2)), some (.own (.lst [z94.1, .int (z95 + 1), .int (z96 + z97), .int ((z98 + z99) + 1), .int (max 1 (z100 - 1)), .int ((z101 + z102) - 1)])), some (.val (z106)), some (.val (.tuple (if (decide (z109 + z110 < z111)) = true then [.str ("broken")] else if (decide (z107 ≤ z108)) = true then [.str ("over")] else [.str ("broken"), .str ("over")]))), some (.own (.lst [.int 0, .int (-1), .none, .bool true, .bool false, .str ("1"), .list [.int 1], .tuple [.int 1], dctD [], .int (-1000000000000000000000000000000)])), none, none, none], [.live (.lst y105.2)]⟩ = .ok (.own (.lst o_.1)) ⟨[some (.bor 0), some (.val (z94.1)), some (.val (z94.2)), some (.own (.lst [z94.1, .int (z95 + 1), .int (z96 + z97), .int ((z98 + z99) + 1), .int (max 1 (z100 - 1)), .int ((z101 + z102) - 1)])), some (.val (z106)), some (.val (.tuple (if (decide (z109 + z110 < z111)) = true then [.str ("broken")] else if (decide (z107 ≤ z108)) = true then [.str ("over")] else [.str ("broken"), .str ("over")]))), some (.own (.lst [.int 0, .int (-1), .none, .bool true, .bool false, .str ("1"), .list [.int 1], .tuple [.int 1], dctD [], .int (-1000000000000000000000000000000)])), none, none, none], [.live (.lst o_.2)]⟩) (ok_lcS (F := fun (s130 : (List PyData)) (x131 : Nat) => (p__law_drip s130 10).bind fun y132 =>
    (ixL [.int 0, .int (-1), .none, .bool true, .bool false, .str ("1"), .list [.int 1], .tuple [.int 1], dctD [], .int (-1000000000000000000000000000000)] y132.1).bind fun z133 =>
    some (some (z133), y132.2)) (Sh := fun (s_ : (List PyData)) (r_ : En) => r_ = ⟨[some (.bor 0), some (.val (z94.1)), some (.val (z94.2)), some (.own (.lst [z94.1, .int (z95 + 1), .int (z96 + z97), .int ((z98 + z99) + 1), .int (max 1 (z100 - 1)), .int ((z101 + z102) - 1)])), some (.val (z106)), some (.val (.tuple (if (decide (z109 + z110 < z111)) = true then [.str ("broken")] else if (decide (z107 ≤ z108)) = true then [.str ("over")] else [.str ("broken"), .str ("over")]))), some (.own (.lst [.int 0, .int (-1), .none, .bool true, .bool false, .str ("1"), .list [.int 1], .tuple [.int 1], dctD [], .int (-1000000000000000000000000000000)])), none, none, none], [.live (.lst s_)]⟩) (Rs := fun s_ => ⟨[some (.bor 0), some (.val (z94.1)), some (.val (z94.2)), some (.own (.lst [z94.1, .int (z95 + 1), .int (z96 + z97), .int ((z98 + z99) + 1), .int (max 1 (z100 - 1)), .int ((z101 + z102) - 1)])), some (.val (z106)), some (.val (.tuple (if (decide (z109 + z110 < z111)) = true then [.str ("broken")] else if (decide (z107 ≤ z108)) = true then [.str ("over")] else [.str ("broken"), .str ("over")]))), some (.own (.lst [.int 0, .int (-1), .none, .bool true, .bool false, .str ("1"), .list [.int 1], .tuple [.int 1], dctD [], .int (-1000000000000000000000000000000)])), none, none, none], [.live (.lst s_)]⟩) (its_rng k_go rfl (by decide +kernel) (by decide +kernel)) rfl rfl (fun s_ r_ hr => by subst hr; rfl) (fun s_ r_ hr => by subst hr; exact trivial) ?_) fun z134 hz134 => ?_
      · rintro s130 x131 r_ hr
        subst hr
        refine Ok.bind (run__law_drip_rv s130 10) fun y132 hy132 => ?_
        refine Ok.bnd fun z133 hz133 => ?_
        exact Ok.some (lcu_yes rfl yes_go (bin_go' (nm_own rfl) (call_goE (consR_go (nm_bor rfl) (consR_go k_go nilR_go)) (ags_at rfl (ags_val ags_nil)) rfl hy132 rfl rfl) rfl rfl (ix_L rfl rfl hz133)) frz_v rfl)
      refine t_seq ⟨[some (.bor 0), some (.val (z94.1)), some (.val (z94.2)), some (.own (.lst [z94.1, .int (z95 + 1), .int (z96 + z97), .int ((z98 + z99) + 1), .int (max 1 (z100 - 1)), .int ((z101 + z102) - 1)])), some (.val (z106)), some (.val (.tuple (if (decide (z109 + z110 < z111)) = true then [.str ("broken")] else if (decide (z107 ≤ z108)) = true then [.str ("over")] else [.str ("broken"), .str ("over")]))), some (.own (.lst [.int 0, .int (-1), .none, .bool true, .bool false, .str ("1"), .list [.int 1], .tuple [.int 1], dctD [], .int (-1000000000000000000000000000000)])), some (.own (.lst z134.1)), none, none], [.live (.lst z134.2)]⟩ (set_go hz134 rfl) ?_
      refine Ok.bnd fun z135 hz135 => ?_
      refine Ok.bnd fun z136 hz136 => ?_
      refine Ok.bnd fun z137 hz137 => ?_
      refine Ok.bind (run__law_told_vvv z135 z136 z137) fun y138 hy138 => ?_
      refine Ok.bnd fun z139 hz139 => ?_
      refine Ok.bnd fun z140 hz140 => ?_
      refine Ok.bind (run__law_told_vvv z139 z94.1 z140) fun y141 hy141 => ?_
      refine Ok.bnd fun z142 hz142 => ?_
      refine Ok.bnd fun z143 hz143 => ?_
      refine Ok.bind (run__law_told_vvv z106 z142 z143) fun y144 hy144 => ?_
      refine t_seq ⟨[some (.bor 0), some (.val (z94.1)), some (.val (z94.2)), some (.own (.lst [z94.1, .int (z95 + 1), .int (z96 + z97), .int ((z98 + z99) + 1), .int (max 1 (z100 - 1)), .int ((z101 + z102) - 1)])), some (.val (z106)), some (.val (.tuple (if (decide (z109 + z110 < z111)) = true then [.str ("broken")] else if (decide (z107 ≤ z108)) = true then [.str ("over")] else [.str ("broken"), .str ("over")]))), some (.own (.lst [.int 0, .int (-1), .none, .bool true, .bool false, .str ("1"), .list [.int 1], .tuple [.int 1], dctD [], .int (-1000000000000000000000000000000)])), some (.own (.lst z134.1)), some (.own (.lst [y138, y141, y144])), none], [.live (.lst z134.2)]⟩ (set_go (lst_go (consL_go (call_goE (consR_go (bin_go' (nm_own rfl) k_go rfl rfl (ix_L rfl rfl hz135)) (consR_go (bin_go' (nm_own rfl) k_go rfl rfl (ix_L rfl rfl hz136)) (consR_go (bin_go' (nm_own rfl) k_go rfl rfl (ix_L rfl rfl hz137)) nilR_go))) (ags_val (ags_val (ags_val ags_nil))) rfl hy138 rfl rfl) frz_v (consL_go (call_goE (consR_go (bin_go' (nm_own rfl) k_go rfl rfl (ix_L rfl rfl hz139)) (consR_go (nm_val rfl) (consR_go (bin_go' (nm_own rfl) k_go rfl rfl (ix_L rfl rfl hz140)) nilR_go))) (ags_val (ags_val (ags_val ags_nil))) rfl hy141 rfl rfl) frz_v (consL_go (call_goE (consR_go (nm_val rfl) (consR_go (bin_go' (nm_own rfl) k_go rfl rfl (ix_L rfl rfl hz142)) (consR_go (bin_go' (nm_own rfl) k_go rfl rfl (ix_L rfl rfl hz143)) nilR_go))) (ags_val (ags_val (ags_val ags_nil))) rfl hy144 rfl rfl) frz_v nilL_go))) (sz_ok rfl)) rfl) ?_
      refine Ok.bnd fun z145 hz145 => ?_
      refine Ok.bind (run__law_told_vvv z106 z94.1 z145) fun y146 hy146 => ?_
      refine Ok.bnd fun z147 hz147 => ?_
      refine Ok.bnd fun z148 hz148 => ?_
      refine Ok.bnd fun z149 hz149 => ?_
      refine Ok.bnd fun z150 hz150 => ?_
      exact Ok.some (fi_ret (bin_go' (bin_go' (nm_own rfl) (lst_go (consL_go (call_goE (consR_go (nm_val rfl) (consR_go (nm_val rfl) (consR_go (bin_go' (nm_own rfl) k_go rfl rfl (ix_L rfl rfl hz145)) nilR_go))) (ags_val (ags_val (ags_val ags_nil))) rfl hy146 rfl rfl) frz_v nilL_go) (sz_ok rfl)) rfl rfl (add_L rfl rfl hz147)) (bin_go' (rep_L (lst_go (consL_go k_go frz_v nilL_go) (sz_ok rfl)) k_go rfl hz148) (lst_go (consL_go k_go frz_v nilL_go) (sz_ok rfl)) rfl rfl (add_L rfl rfl hz149)) rfl rfl (eq_D hz150)) rfl)
def p_law (a_script : List PyData) : Option (Bool) :=
(rngO (max 1 (min 8 (a_script.length : Int)))).bind fun z58 =>
    (foldXO (fun (s79 : (Unit)) (x80 : Nat) =>
    (p__law_tank a_script (x80 : Int)).bind fun y96 =>
    (foldXO (fun (s102 : (List PyData)) (x103 : Nat) =>
    (p__law_right s102).bind fun y106 =>
    (if (!y106.1) = true then
    some (.error false)
    else
    some (.ok y106.2))) (List.range 6) y96).bind fun e_ => exM e_ fun s107 =>
    some (.ok ())) z58 ()).bind fun e_ => exO e_ fun s108 =>
    (p_head_fates (.int 1000000000000000000000000000000) (.int 1000000000000000000000000000000) (.int 1000000000000000000000000000000)).bind fun y109 =>
    (p_head_fates (.int 1000000000000000000000000000000) (.int 1) (.int (1000000000000000000000000000000 - 1))).bind fun y110 =>
    (p_head_fates (.int 1000000000000000000000000000000) (.int 1) (.int (1000000000000000000000000000000 - 2))).bind fun y111 =>
    (p_head_fates (.int 1) (.int 1) (.int 1)).bind fun y112 =>
    (addL [.tuple y109, .tuple y110, .tuple y111] [.tuple y112]).bind fun z113 =>
    (eqO (.list z113) (.list [.tuple [.str ("over")], .tuple [.str ("broken"), .str ("over")], .tuple [.str ("broken")], .tuple [.str ("over")]])).bind fun z114 =>
    some z114
theorem run_law_v (a_script : List PyData) : Ok (p_law a_script) fun t => G_law [.val (.list a_script)] = .ret (.val (.bool t)) [] := by
  unfold p_law
  refine ok_def (r0 := ⟨[some (.val (.list a_script)), none, none, none, none, none], []⟩) rfl rfl ?_
  delta b_law
  refine Ok.bnd fun z58 hz58 => ?_
  refine ok_mix (Sh := fun (s_ : (Unit)) (r_ : En) => ∃ u76 u77 u78 : Option Sl, r_ = ⟨[some (.val (.list a_script)), u76, u77, u78, none, none], []⟩) ?_ ?_
  · refine mx_for (Sh := fun (s_ : (Unit)) (r_ : En) => ∃ u76 u77 u78 : Option Sl, r_ = ⟨[some (.val (.list a_script)), u76, u77, u78, none, none], []⟩) (its_rngO (bin_go' k_go (bin_go' k_go (un_go' (nm_val rfl) rfl (len_L rfl)) rfl rfl (min_I rfl rfl)) rfl rfl (max_I rfl rfl)) rfl hz58) (fun s_ r_ ⟨u76, u77, u78, hr⟩ => by subst hr; exact trivial) ⟨_, _, _, rfl⟩ ?_
    rintro s79 x80 r_ ⟨u76, u77, u78, hr⟩
    subst hr
    refine Ok.mono (fun s_ h_ => ⟨⟨[some (.val (.list a_script)), some (.val (.int (x80 : Int))), u77, u78, none, none], []⟩, rfl, h_⟩) ?_
    refine Ok.bind (run__law_tank_vv a_script (x80 : Int)) fun y96 hy96 => ?_
    refine m_seq ⟨[some (.val (.list a_script)), some (.val (.int (x80 : Int))), some (.own (.lst y96)), u78, none, none], []⟩ (set_go (call_goE (consR_go (nm_val rfl) (consR_go (nm_val rfl) nilR_go)) (ags_val (ags_val ags_nil)) rfl hy96 rfl rfl) rfl) ?_
    refine ok_mixML (Sh := fun (s_ : (List PyData)) (r_ : En) => ∃ u101 : Option Sl, r_ = ⟨[some (.val (.list a_script)), some (.val (.int (x80 : Int))), some (.own (.lst s_)), u101, none, none], []⟩) ?_ ?_
    · refine mx_for (Sh := fun (s_ : (List PyData)) (r_ : En) => ∃ u101 : Option Sl, r_ = ⟨[some (.val (.list a_script)), some (.val (.int (x80 : Int))), some (.own (.lst s_)), u101, none, none], []⟩) (its_rng k_go rfl (by decide +kernel) (by decide +kernel)) (fun s_ r_ ⟨u101, hr⟩ => by subst hr; exact trivial) ⟨_, rfl⟩ ?_
      rintro s102 x103 r_ ⟨u101, hr⟩
      subst hr
      refine Ok.mono (fun s_ h_ => ⟨⟨[some (.val (.list a_script)), some (.val (.int (x80 : Int))), some (.own (.lst s102)), some (.val (.int (x103 : Int))), none, none], []⟩, rfl, h_⟩) ?_
      refine Ok.bind (run__law_right_r s102) fun y106 hy106 => ?_
      refine m_if (not_go (tT_go (call_goE (consR_go (nm_own rfl) nilR_go) (ags_at rfl ags_nil) rfl hy106 rfl rfl) rfl truth_b)) (fun hc => ?_) fun hc => ?_
      · exact Ok.some (fi_ret k_go rfl)
      · exact Ok.some (Nx.of nx_go ⟨_, rfl⟩)
    · rintro s107 r_ ⟨u101, hr⟩
      subst hr
      exact Ok.some (Nx.of rfl ⟨_, _, _, rfl⟩)
  · rintro s108 r_ ⟨u76, u77, u78, hr⟩
    subst hr
    refine t_seq ⟨[some (.val (.list a_script)), u76, u77, u78, some (.val (.int 1000000000000000000000000000000)), none], []⟩ (set_go (bin_go' k_go k_go rfl rfl (pow_I (k := 1000000000000000000000000000000) rfl rfl (by decide +kernel))) rfl) ?_
    refine Ok.bind (run_head_fates_vvv (.int 1000000000000000000000000000000) (.int 1000000000000000000000000000000) (.int 1000000000000000000000000000000)) fun y109 hy109 => ?_
    refine Ok.bind (run_head_fates_vvv (.int 1000000000000000000000000000000) (.int 1) (.int (1000000000000000000000000000000 - 1))) fun y110 hy110 => ?_
    refine Ok.bind (run_head_fates_vvv (.int 1000000000000000000000000000000) (.int 1) (.int (1000000000000000000000000000000 - 2))) fun y111 hy111 => ?_
    refine t_seq ⟨[some (.val (.list a_script)), u76, u77, u78, some (.val (.int 1000000000000000000000000000000)), some (.own (.lst [.tuple y109, .tuple y110, .tuple y111]))], []⟩ (set_go (lst_go (consL_go (call_goE (consR_go (nm_val rfl) (consR_go (nm_val rfl) (consR_go (nm_val rfl) nilR_go))) (ags_val (ags_val (ags_val ags_nil))) rfl hy109 rfl rfl) frz_v (consL_go (call_goE (consR_go (nm_val rfl) (consR_go k_go (consR_go (bin_go' (nm_val rfl) k_go rfl rfl (sub_I rfl rfl)) nilR_go))) (ags_val (ags_val (ags_val ags_nil))) rfl hy110 rfl rfl) frz_v (consL_go (call_goE (consR_go (nm_val rfl) (consR_go k_go (consR_go (bin_go' (nm_val rfl) k_go rfl rfl (sub_I rfl rfl)) nilR_go))) (ags_val (ags_val (ags_val ags_nil))) rfl hy111 rfl rfl) frz_v nilL_go))) (sz_ok rfl)) rfl) ?_
    refine Ok.bind (run_head_fates_vvv (.int 1) (.int 1) (.int 1)) fun y112 hy112 => ?_
    refine Ok.bnd fun z113 hz113 => ?_
    refine Ok.bnd fun z114 hz114 => ?_
    exact Ok.some (fi_ret (bin_go' (bin_go' (nm_own rfl) (lst_go (consL_go (call_goE (consR_go k_go (consR_go k_go (consR_go k_go nilR_go))) (ags_val (ags_val (ags_val ags_nil))) rfl hy112 rfl rfl) frz_v nilL_go) (sz_ok rfl)) rfl rfl (add_L rfl rfl hz113)) (lst_go (consL_go (tup_go (consL_go k_go frz_v nilL_go) (sz_ok rfl)) frz_v (consL_go (tup_go (consL_go k_go frz_v (consL_go k_go frz_v nilL_go)) (sz_ok rfl)) frz_v (consL_go (tup_go (consL_go k_go frz_v nilL_go) (sz_ok rfl)) frz_v (consL_go (tup_go (consL_go k_go frz_v nilL_go) (sz_ok rfl)) frz_v nilL_go)))) (sz_ok rfl)) rfl rfl (eq_D hz114)) rfl)
end Lw

/-! S1.lean -/
set_option Elab.async false
set_option linter.all false
set_option maxRecDepth 100000
/-! the search of places -/
namespace Lw
open PySem L2 Mi Pf
abbrev Pl := Int × Int × Bool
def pD (p : Pl) : PyData := .tuple [.int p.1, .int p.2.1, .bool p.2.2]
def nxt (m g z : Int) (p : Pl) : List Pl :=
  (if p.2.2 = true then [(p.1, p.2.1, false)] else []) ++ (if p.2.1 < g ∧ p.2.1 < p.1 then [(p.1, p.2.1 + 1, p.2.2)] else []) ++
    (if 0 ≤ p.1 ∧ p.1 < m then (if p.2.1 = g ∧ p.2.2 = false then [(-1, p.2.1, p.2.2)] else if p.1 - p.2.1 < z then [(p.1 + 1, p.2.1, p.2.2)] else []) else [])
theorem appL_ok {xs : List PyData} {d : PyData} (h : xs.length < 1000) : appL xs d = some (xs ++ [d]) := if_pos (sz_lt (by omega))
theorem eqO_int (i j : Int) : eqO (.int i) (.int j) = some (decide (i = j)) := eqO_plain (k := 0) (.int i) (.int j) (by omega) (by simp)
theorem next_run (m g z : Int) (p : Pl) : p__law_next (pD p) m g z = some ((nxt m g z p).map pD) := by
  obtain ⟨s, t, k⟩ := p
  have e1 : truO (.bool k) = some k := rfl
  unfold p__law_next pD
  have e0 : unp3 (.tuple [.int s, .int t, .bool k]) = some (.int s, .int t, .bool k) := rfl
  rw [e0, bs]
  simp only [e1, bs, asI, eqO_int]
  unfold nxt
  by_cases h1 : t < g
  · by_cases h2 : t < s
    · by_cases h3 : 0 ≤ s
      · by_cases h4 : s < m
        · cases k
          · by_cases h5 : t = g
            · omega
            · by_cases h6 : s - t < z <;> simp [h1, h2, h3, h4, h5, h6, bs, appL_ok, pD]
          · by_cases h6 : s - t < z <;> simp [h1, h2, h3, h4, h6, bs, appL_ok, pD]
        · cases k <;> simp [h1, h2, h3, h4, bs, appL_ok, pD]
      · cases k <;> simp [h1, h2, h3, bs, appL_ok, pD]
    · by_cases h3 : 0 ≤ s
      · by_cases h4 : s < m
        · cases k
          · by_cases h5 : t = g
            · omega
            · by_cases h6 : s - t < z <;> simp [h1, h2, h3, h4, h5, h6, bs, appL_ok, pD]
          · by_cases h6 : s - t < z <;> simp [h1, h2, h3, h4, h6, bs, appL_ok, pD]
        · cases k <;> simp [h1, h2, h3, h4, bs, appL_ok, pD]
      · cases k <;> simp [h1, h2, h3, bs, appL_ok, pD]
  · by_cases h3 : 0 ≤ s
    · by_cases h4 : s < m
      · cases k
        · by_cases h5 : t = g
          · subst h5; simp [h3, h4, bs, appL_ok, pD]
          · by_cases h6 : s - t < z <;> simp [h1, h3, h4, h5, h6, bs, appL_ok, pD]
        · by_cases h6 : s - t < z <;> simp [h1, h3, h4, h6, bs, appL_ok, pD]
      · cases k <;> simp [h1, h3, h4, bs, appL_ok, pD]
    · cases k <;> simp [h1, h3, bs, appL_ok, pD]
/-! the table of known places -/
def pK (p : Pl) : NestedKey := .tup [.num p.1, .num p.2.1, .num (if p.2.2 = true then 1 else 0)]
theorem keyT_pD (p : Pl) : keyT (pD p) = some (pK p) := rfl
theorem pK_inj {p q : Pl} (h : pK p = pK q) : p = q := by
  obtain ⟨a, b, c⟩ := p
  obtain ⟨a', b', c'⟩ := q
  unfold pK at h
  simp only [NestedKey.tup.injEq, List.cons.injEq, NestedKey.num.injEq, and_true] at h
  obtain ⟨rfl, rfl, h⟩ := h
  cases c <;> cases c' <;> first | rfl | (simp at h)
def kD (ps : List Pl) : List (PyData × PyData) := ps.map fun p => (pD p, .bool true)
theorem getN_kD (p : Pl) : ∀ ps : List Pl, (getN (kD ps) (pK p)).isSome = decide (p ∈ ps)
  | [] => rfl
  | q :: ps => by
    have ih := getN_kD p ps
    unfold getN kD at ih ⊢
    rw [List.map_cons, List.find?_cons]
    by_cases h : q = p
    · subst h
      simp [keyT_pD]
    · have : ¬ (keyT (pD q) = some (pK p)) := fun e => h (by rw [keyT_pD] at e; exact pK_inj (Option.some.inj e))
      simp only [this, decide_false]
      rw [ih]
      have : (p ∈ q :: ps) = (p ∈ ps) := by
        simp [Ne.symm h]
      simp [Ne.symm h]
theorem xin_kD (ps : List Pl) (p : Pl) : xinO (kD ps) (pD p) = some (decide (p ∈ ps)) := by
  unfold xinO
  rw [keyT_pD, Option.map_some, getN_kD]
theorem xput_kD {ps : List Pl} {p : Pl} (h : p ∉ ps) (hz : ps.length < 1000) : xputO (kD ps) (pD p) (.bool true) = some (kD (ps ++ [p])) := by
  unfold xputO
  rw [keyT_pD, Option.bind_some, if_pos (sz_lt (by unfold kD; rw [List.length_map]; omega))]
  unfold putN
  rw [getN_kD, if_neg (by simpa using h)]
  simp [kD]
/-! the words that are found -/
def fD (fl : List Str) : List (Key × PyData) := fl.map fun x => (.inr x, .bool true)
theorem dput_fD {fl : List Str} {x : Str} (hz : fl.length < 1000) : dputO (fD fl) (.str x) (.bool true) = some (fD (if x ∈ fl then fl else fl ++ [x])) := by
  unfold dputO
  have e : keyOf (.str x) = some (.inr x) := rfl
  rw [e, Option.bind_some, if_pos (sz_lt (by unfold fD; rw [List.length_map]; omega))]
  unfold putD
  have e2 : ((fD fl).any fun kv => decide (kv.1 = (.inr x : Key))) = decide (x ∈ fl) := by
    unfold fD
    rw [List.any_map, Bool.eq_iff_iff]
    simp only [List.any_eq_true, Function.comp, decide_eq_true_eq, Sum.inr.injEq]
    constructor
    · rintro ⟨y, hy, rfl⟩; exact hy
    · exact fun h => ⟨x, h, rfl⟩
  rw [e2]
  by_cases h : x ∈ fl
  · rw [if_pos (by simpa using h), if_pos h]
    congr 1
    unfold fD
    rw [List.map_map]
    apply List.map_congr_left
    intro y _
    simp only [Function.comp]
    split
    · rename_i q; rw [q]
    · rfl
  · rw [if_neg (by simpa using h), if_neg h]
    simp [fD]
/-! good places -/
def Good (m g z : Int) (p : Pl) : Prop := (p.1 = -1 ∧ p.2.1 = g ∧ g < m) ∨ (0 ≤ p.1 ∧ p.1 ≤ m ∧ 0 ≤ p.2.1 ∧ p.2.1 ≤ p.1 ∧ p.2.1 ≤ g ∧ p.1 - p.2.1 ≤ z)
theorem good_next {m g z : Int} {p q : Pl} (h : Good m g z p) (hq : q ∈ nxt m g z p) : Good m g z q := by
  unfold nxt at hq
  unfold Good at h ⊢
  simp only [List.mem_append] at hq
  rcases hq with (hq | hq) | hq
  · split at hq
    · simp only [List.mem_singleton] at hq; subst hq; exact h
    · cases hq
  · split at hq
    · simp only [List.mem_singleton] at hq; subst hq; simp only; omega
    · cases hq
  · split at hq
    · split at hq
      · rename_i q1 q2
        have q3 := q2.1
        simp only [List.mem_singleton] at hq; subst hq
        exact .inl ⟨rfl, q3, by omega⟩
      · split at hq
        · simp only [List.mem_singleton] at hq; subst hq; simp only; omega
        · cases hq
    · cases hq
def allPl : List Pl := (List.range 11).flatMap fun s : Nat => (List.range (s + 1)).flatMap fun t : Nat => [((s : Int), (t : Int), true), ((s : Int), (t : Int), false)]
theorem good_in {m g z : Int} (hm : m ≤ 10) {p : Pl} (h : Good m g z p) : p ∈ (-1, g, true) :: (-1, g, false) :: allPl := by
  obtain ⟨s, t, k⟩ := p
  rcases h with ⟨h1, h2, h3⟩ | ⟨h1, h2, h3, h4, h5, h6⟩
  · simp only at h1 h2
    subst h1 h2
    cases k <;> simp
  · simp only at h1 h2 h3 h4 h5 h6
    refine List.mem_cons_of_mem _ (List.mem_cons_of_mem _ ?_)
    unfold allPl
    refine List.mem_flatMap.mpr ⟨s.toNat, List.mem_range.mpr (by omega), List.mem_flatMap.mpr ⟨t.toNat, List.mem_range.mpr (by omega), ?_⟩⟩
    rw [Int.toNat_of_nonneg h1, Int.toNat_of_nonneg h3]
    cases k <;> simp
theorem nodup_len {α : Type} [DecidableEq α] : ∀ {ps L : List α}, ps.Nodup → (∀ p ∈ ps, p ∈ L) → ps.length ≤ L.length
  | [], _, _, _ => Nat.zero_le _
  | p :: ps, L, nd, h => by
    have nd := List.nodup_cons.mp nd
    have hp := h p List.mem_cons_self
    have := nodup_len (ps := ps) (L := L.erase p) nd.2 fun q hq => by
      have : q ≠ p := fun e => nd.1 (e ▸ hq)
      exact (List.mem_erase_of_ne this).mpr (h q (List.mem_cons_of_mem _ hq))
    rw [List.length_erase_of_mem hp] at this
    have := List.length_pos_of_mem hp
    simp only [List.length_cons]
    omega
theorem good_len {m g z : Int} (hm : m ≤ 10) {ps : List Pl} (nd : ps.Nodup) (h : ∀ p ∈ ps, Good m g z p) : ps.length ≤ 134 := by
  have := nodup_len nd fun p hp => good_in hm (h p hp)
  have e : allPl.length = 132 := by decide +kernel
  simp only [List.length_cons, e] at this
  omega
end Lw

/-! S2.lean -/
set_option Elab.async false
set_option linter.all false
set_option maxRecDepth 100000
namespace Lw
open PySem L2 Mi Pf
abbrev sB : Str := "broken"
abbrev sO : Str := "over"
def flForms : List (List Str) := [[], [sB], [sO], [sB, sO], [sO, sB]]
structure SInv (m g z : Int) (ps ws : List Pl) (fl : List Str) : Prop where
  nd : ps.Nodup
  gp : ∀ p ∈ ps, Good m g z p
  gw : ∀ p ∈ ws, Good m g z p
  cl : ∀ p ∈ ps, ∀ q ∈ nxt m g z p, q ∈ ps ∨ q ∈ ws
  st : (0, 0, true) ∈ ps ∨ (0, 0, true) ∈ ws
  ff : fl ∈ flForms
  fb : sB ∈ fl ↔ ∃ p ∈ ps, p.1 < 0
  fo : sO ∈ fl ↔ ∃ p ∈ ps, p.1 = m
def encS (ps ws : List Pl) (fl : List Str) : List (PyData × PyData) × List PyData × List (Key × PyData) := (kD ps, ws.map pD, fD fl)
def SI (m g z : Int) (n : Nat) (s : List (PyData × PyData) × List PyData × List (Key × PyData)) : Prop := ∃ ps ws fl, s = encS ps ws fl ∧ SInv m g z ps ws fl ∧ 4 * (134 - ps.length) + ws.length ≤ n ∧ n ≤ 537
theorem nxt_len (m g z : Int) (p : Pl) : (nxt m g z p).length ≤ 3 := by
  unfold nxt
  simp only [List.length_append]
  split <;> split <;> split <;> (try split) <;> (try split) <;> simp
theorem fl_broken {fl : List Str} (h : fl ∈ flForms) : (if sB ∈ fl then fl else fl ++ [sB]) ∈ flForms := by
  unfold flForms at h
  simp only [List.mem_cons, List.not_mem_nil, or_false] at h
  rcases h with rfl | rfl | rfl | rfl | rfl <;> decide
theorem fl_over {fl : List Str} (h : fl ∈ flForms) : (if sO ∈ fl then fl else fl ++ [sO]) ∈ flForms := by
  unfold flForms at h
  simp only [List.mem_cons, List.not_mem_nil, or_false] at h
  rcases h with rfl | rfl | rfl | rfl | rfl <;> decide
theorem fl_len {fl : List Str} (h : fl ∈ flForms) : fl.length < 1000 := by
  unfold flForms at h
  simp only [List.mem_cons, List.not_mem_nil, or_false] at h
  rcases h with rfl | rfl | rfl | rfl | rfl <;> decide
def put1 (fl : List Str) (x : Str) : List Str := if x ∈ fl then fl else fl ++ [x]
theorem mem_put1 {fl : List Str} {x y : Str} : y ∈ put1 fl x ↔ y ∈ fl ∨ y = x := by
  unfold put1
  split
  · constructor
    · exact .inl
    · rintro (h | rfl)
      · exact h
      · assumption
  · simp
/-- one place done -/
theorem step_known {m g z : Int} {ps w : List Pl} {p : Pl} {fl : List Str} (h : SInv m g z ps (w ++ [p]) fl) (hp : p ∈ ps) : SInv m g z ps w fl where
  nd := h.nd
  gp := h.gp
  gw := fun q hq => h.gw q (List.mem_append_left _ hq)
  cl := fun a ha q hq => by
    rcases h.cl a ha q hq with h | h
    · exact .inl h
    · rcases List.mem_append.mp h with h | h
      · exact .inr h
      · simp only [List.mem_singleton] at h; subst h; exact .inl hp
  st := by
    rcases h.st with h | h
    · exact .inl h
    · rcases List.mem_append.mp h with h | h
      · exact .inr h
      · simp only [List.mem_singleton] at h; subst h; exact .inl hp
  ff := h.ff
  fb := h.fb
  fo := h.fo
def flStep (m : Int) (p : Pl) (fl : List Str) : List Str := if p.1 = m then put1 (if p.1 < 0 then put1 fl sB else fl) sO else if p.1 < 0 then put1 fl sB else fl
theorem step_new' {m g z : Int} {ps w : List Pl} {p : Pl} {fl : List Str} (h : SInv m g z ps (w ++ [p]) fl) (hp : p ∉ ps) : SInv m g z (ps ++ [p]) (w ++ nxt m g z p) (flStep m p fl) where
  nd := List.nodup_append.mpr ⟨h.nd, by simp, fun a ha b hb e => hp (by simp only [List.mem_singleton] at hb; subst hb; subst e; exact ha)⟩
  gp := fun q hq => by
    rcases List.mem_append.mp hq with hq | hq
    · exact h.gp q hq
    · simp only [List.mem_singleton] at hq; subst hq; exact h.gw q (by simp)
  gw := fun q hq => by
    rcases List.mem_append.mp hq with hq | hq
    · exact h.gw q (List.mem_append_left _ hq)
    · exact good_next (h.gw p (by simp)) hq
  cl := fun a ha q hq => by
    rcases List.mem_append.mp ha with ha | ha
    · rcases h.cl a ha q hq with h | h
      · exact .inl (List.mem_append_left _ h)
      · rcases List.mem_append.mp h with h | h
        · exact .inr (List.mem_append_left _ h)
        · exact .inl (List.mem_append_right _ h)
    · simp only [List.mem_singleton] at ha; subst ha; exact .inr (List.mem_append_right _ hq)
  st := by
    rcases h.st with h | h
    · exact .inl (List.mem_append_left _ h)
    · rcases List.mem_append.mp h with h | h
      · exact .inr (List.mem_append_left _ h)
      · exact .inl (List.mem_append_right _ h)
  ff := by
    unfold flStep
    split
    · split
      · exact fl_over (fl_broken h.ff)
      · exact fl_over h.ff
    · split
      · exact fl_broken h.ff
      · exact h.ff
  fb := by
    have e : sB ∈ flStep m p fl ↔ sB ∈ fl ∨ p.1 < 0 := by
      unfold flStep
      split
      · rw [mem_put1]
        split
        · rename_i q; rw [mem_put1]; simp [q]
        · rename_i q; simp [q]
      · split
        · rename_i q; rw [mem_put1]; simp [q]
        · rename_i q; simp [q]
    rw [e, h.fb]
    constructor
    · rintro (⟨q, h1, h2⟩ | h1)
      · exact ⟨q, List.mem_append_left _ h1, h2⟩
      · exact ⟨p, by simp, h1⟩
    · rintro ⟨q, h1, h2⟩
      rcases List.mem_append.mp h1 with h1 | h1
      · exact .inl ⟨q, h1, h2⟩
      · simp only [List.mem_singleton] at h1; subst h1; exact .inr h2
  fo := by
    have e : sO ∈ flStep m p fl ↔ sO ∈ fl ∨ p.1 = m := by
      unfold flStep
      split
      · rename_i q
        rw [mem_put1]
        simp [q]
      · rename_i q
        split
        · rw [mem_put1]
          simp only [q, or_false]
          constructor
          · rintro (h | h)
            · exact h
            · exact absurd h (by decide)
          · exact .inl
        · simp [q]
    rw [e, h.fo]
    constructor
    · rintro (⟨q, h1, h2⟩ | h1)
      · exact ⟨q, List.mem_append_left _ h1, h2⟩
      · exact ⟨p, by simp, h1⟩
    · rintro ⟨q, h1, h2⟩
      rcases List.mem_append.mp h1 with h1 | h1
      · exact .inl ⟨q, h1, h2⟩
      · simp only [List.mem_singleton] at h1; subst h1; exact .inr h2
/-! the end: nothing waits -/
theorem reach_over {m g z : Int} {ps : List Pl} {fl : List Str} (hm : 1 ≤ m) (hg : 1 ≤ g) (hz : 1 ≤ z) (h : SInv m g z ps [] fl) (hgz : m ≤ g + z) : ∃ p ∈ ps, p.1 = m := by
  have cl : ∀ p ∈ ps, ∀ q ∈ nxt m g z p, q ∈ ps := fun p hp q hq => (h.cl p hp q hq).elim id fun x => by cases x
  have key : ∀ n : Nat, (n : Int) ≤ m → ((n : Int), max 0 ((n : Int) - z), true) ∈ ps := fun n => by
    induction n with
    | zero =>
      intro _
      have : max 0 (((0 : Nat) : Int) - z) = 0 := by omega
      rw [this]
      exact h.st.elim id fun x => by cases x
    | succ n ih =>
      intro hn
      have h0 := ih (by omega)
      by_cases hc : (n : Int) - z < 0
      · have e : max 0 ((n : Int) - z) = 0 := by omega
        have e2 : max 0 (((n + 1 : Nat) : Int) - z) = 0 := by omega
        rw [e] at h0
        rw [e2]
        refine cl _ h0 _ ?_
        unfold nxt
        refine List.mem_append_right _ ?_
        simp only [Bool.true_eq_false, and_false, if_false]
        rw [if_pos ⟨by omega, by omega⟩, if_pos (by omega)]
        simp
      · have e : max 0 ((n : Int) - z) = (n : Int) - z := by omega
        have e2 : max 0 (((n + 1 : Nat) : Int) - z) = (n : Int) - z + 1 := by omega
        rw [e] at h0
        rw [e2]
        have h1 : ((n : Int), (n : Int) - z + 1, true) ∈ ps := by
          refine cl _ h0 _ ?_
          unfold nxt
          refine List.mem_append_left _ (List.mem_append_right _ ?_)
          simp only
          rw [if_pos ⟨by omega, by omega⟩]
          simp
        refine cl _ h1 _ ?_
        unfold nxt
        refine List.mem_append_right _ ?_
        simp only [Bool.true_eq_false, and_false, if_false]
        rw [if_pos ⟨by omega, by omega⟩, if_pos (by omega)]
        simp
  have := key m.toNat (by omega)
  exact ⟨_, this, by simp only; omega⟩
theorem reach_broken {m g z : Int} {ps : List Pl} {fl : List Str} (hm : 1 ≤ m) (hg : 1 ≤ g) (hz : 1 ≤ z) (h : SInv m g z ps [] fl) (hgm : g < m) : ∃ p ∈ ps, p.1 < 0 := by
  have cl : ∀ p ∈ ps, ∀ q ∈ nxt m g z p, q ∈ ps := fun p hp q hq => (h.cl p hp q hq).elim id fun x => by cases x
  have key : ∀ n : Nat, (n : Int) ≤ g → ((n : Int), (n : Int), true) ∈ ps := fun n => by
    induction n with
    | zero => intro _; exact h.st.elim id fun x => by cases x
    | succ n ih =>
      intro hn
      have h0 := ih (by omega)
      have h1 : (((n + 1 : Nat) : Int), (n : Int), true) ∈ ps := by
        refine cl _ h0 _ ?_
        unfold nxt
        refine List.mem_append_right _ ?_
        simp only [Bool.true_eq_false, and_false, if_false]
        rw [if_pos ⟨by omega, by omega⟩, if_pos (by omega)]
        simp
      refine cl _ h1 _ ?_
      unfold nxt
      refine List.mem_append_left _ (List.mem_append_right _ ?_)
      simp only
      rw [if_pos ⟨by omega, by omega⟩]
      simp
  have h0 := key g.toNat (by omega)
  rw [Int.toNat_of_nonneg (by omega)] at h0
  have h1 : (g, g, false) ∈ ps := by
    refine cl _ h0 _ ?_
    unfold nxt
    exact List.mem_append_left _ (List.mem_append_left _ (by simp))
  refine ⟨(-1, g, false), cl _ h1 _ ?_, show (-1 : Int) < 0 by decide⟩
  unfold nxt
  refine List.mem_append_right _ ?_
  simp only
  rw [if_pos ⟨by omega, by omega⟩]
  simp
def dueL (w t c : Int) : List PyData := if t + c < w then [.str sB] else if w ≤ t then [.str sO] else [.str sB, .str sO]
theorem end_due {m g z : Int} {ps : List Pl} {fl : List Str} (hm : 1 ≤ m) (hg : 1 ≤ g) (hz : 1 ≤ z) (h : SInv m g z ps [] fl) : (sdO (fD fl)).bind (fun z100 => some (z100.map PyData.str)) = some (dueL m g z) := by
  have ho : sO ∈ fl ↔ m ≤ g + z := by
    rw [h.fo]
    refine ⟨fun ⟨p, hp, e⟩ => ?_, reach_over hm hg hz h⟩
    rcases h.gp p hp with q | q
    · omega
    · omega
  have hb : sB ∈ fl ↔ g < m := by
    rw [h.fb]
    refine ⟨fun ⟨p, hp, e⟩ => ?_, reach_broken hm hg hz h⟩
    rcases h.gp p hp with q | q
    · exact q.2.2
    · omega
  have ff := h.ff
  unfold flForms at ff
  simp only [List.mem_cons, List.not_mem_nil, or_false] at ff
  unfold dueL
  rcases ff with rfl | rfl | rfl | rfl | rfl
  · have q1 : ¬ m ≤ g + z := fun q => by have := ho.mpr q; cases this
    have q2 : ¬ g < m := fun q => by have := hb.mpr q; cases this
    omega
  · have q1 : ¬ m ≤ g + z := fun q => by have := ho.mpr q; revert this; decide
    rw [if_pos (by omega)]
    rfl
  · have q1 := ho.mp (by decide)
    have q2 : ¬ g < m := fun q => by have := hb.mpr q; revert this; decide
    rw [if_neg (by omega), if_pos (by omega)]
    rfl
  · have q1 := ho.mp (by decide)
    have q2 := hb.mp (by decide)
    rw [if_neg (by omega), if_neg (by omega)]
    rfl
  · have q1 := ho.mp (by decide)
    have q2 := hb.mp (by decide)
    rw [if_neg (by omega), if_neg (by omega)]
    rfl
theorem concat_cases {α : Type} (l : List α) : l = [] ∨ ∃ w p, l = w ++ [p] := by
  rcases List.eq_nil_or_concat l with h | ⟨w, p, h⟩
  · exact .inl h
  · exact .inr ⟨w, p, by rw [h, List.concat_eq_append]⟩
theorem pop0_concat (w : List PyData) (p : PyData) : pop0L (w ++ [p]) = some (p, w) := by
  unfold pop0L
  simp
theorem lay_pD : ∀ ws : List Pl, PyData.canLayAll0 (ws.map pD) = true ∧ PyData.depthAll (ws.map pD) ≤ 2
  | [] => ⟨by simp [PyData.canLayAll0], by simp [PyData.depthAll]⟩
  | p :: ws => by
    obtain ⟨h1, h2⟩ := lay_pD ws
    constructor
    · simp only [List.map_cons, PyData.canLayAll0, h1, Bool.and_true]
      simp [pD, PyData.canLay0, PyData.canLayAll0]
    · simp only [List.map_cons, PyData.depthAll]
      refine Nat.max_le.mpr ⟨?_, h2⟩
      simp [pD, PyData.depth, PyData.depthAll]
theorem dec_isE (ws : List Pl) : eqO (.list (ws.map pD)) (.list []) = some (decide (ws = [])) := by
  obtain ⟨h1, h2⟩ := lay_pD ws
  have s1 : SeqAt.shaped (.list (ws.map pD)) = true := by
    unfold SeqAt.shaped
    rw [Bool.and_eq_true]
    refine ⟨by simpa [PyData.canLay0] using h1, decide_eq_true ?_⟩
    simp only [PyData.depth]
    omega
  unfold eqO
  rw [if_pos (by unfold eqOk; rw [s1]; rfl)]
  cases ws with
  | nil => rfl
  | cons p ws => simp [PyData.eqv, PyData.eqvAll]
theorem fates_run {m g z : Int} (hm : 1 ≤ m) (hm2 : m ≤ 10) (hg : 1 ≤ g) (hz : 1 ≤ z) : p__law_fates m g z = some (dueL m g z) := by
  refine Ev.eq ?_
  unfold p__law_fates
  refine Ev.bind (P := fun s => ∃ ps fl, s = encS ps [] fl ∧ SInv m g z ps [] fl) ?_ fun s hs => ?_
  · have h0 : SI m g z 537 ([], [.tuple [.int 0, .int 0, .bool true]], []) := ⟨[], [(0, 0, true)], [], rfl, ⟨by simp, (by intro p hp; cases hp), (by
      intro p hp
      simp only [List.mem_singleton] at hp
      subst hp
      exact .inr ⟨by simp, by simp only; omega, by simp, by simp, by simp only; omega, by simp only; omega⟩), (by intro p hp; cases hp), .inr (by simp), (by decide), (by simp), (by simp)⟩, by simp, by omega⟩
    refine (Ev.whl (I := SI m g z) 1000 _ 537 h0 (by omega) fun n s hI => ?_).mono fun s ⟨n, hI, ht⟩ => ?_
    · obtain ⟨ps, ws, fl, rfl, inv, hn, hn5⟩ := hI
      unfold encS
      simp only
      rw [dec_isE, bs]
      refine Ev.some fun hc => ?_
      rcases concat_cases ws with rfl | ⟨w, p, rfl⟩
      · simp at hc
      have hl : (w ++ [p]).length = w.length + 1 := by simp
      rw [hl] at hn
      refine ⟨by omega, ?_⟩
      rw [List.map_append, List.map_singleton, pop0_concat, bs, xin_kD, bs]
      have glen := good_len hm2 inv.nd inv.gp
      by_cases hp : p ∈ ps
      · rw [show (!decide (p ∈ ps)) = false by simp [hp]]
        simp only [Bool.false_eq_true, if_false]
        exact Ev.some ⟨ps, w, fl, rfl, step_known inv hp, by omega, by omega⟩
      · rw [show (!decide (p ∈ ps)) = true by simp [hp]]
        simp only [if_true]
        have inv2 := step_new' inv hp
        have glen2 := good_len hm2 inv2.nd inv2.gp
        rw [List.length_append, List.length_singleton] at glen2
        rw [xput_kD hp (by omega), bs, next_run, bs]
        have wl : (w.map pD).length + ((nxt m g z p).map pD).length ≤ sizeLine := by
          have := nxt_len m g z p
          rw [List.length_map, List.length_map]
          exact Nat.le_of_lt (sz_lt (by omega))
        rw [show extL (w.map pD) ((nxt m g z p).map pD) = some (w.map pD ++ (nxt m g z p).map pD) from if_pos wl, bs]
        have ei : ixO (pD p) (.int 0) = some (.int p.1) := rfl
        rw [ei, bs, asI, bs]
        have e1 : ((if (decide (p.1 < 0)) = true then (dputO (fD fl) (.str sB) (.bool true)).bind fun z94 => some z94 else some (fD fl))) = some (fD (if p.1 < 0 then put1 fl sB else fl)) := by
          by_cases q : p.1 < 0
          · rw [if_pos (by simpa using q), dput_fD (fl_len inv.ff), bs, if_pos q]; rfl
          · rw [if_neg (by simpa using q), if_neg q]
        have e1' := e1
        simp only [decide_eq_true_eq] at e1' ⊢
        rw [e1', bs, bs, eqO_int, bs]
        have ffb : (if p.1 < 0 then put1 fl sB else fl) ∈ flForms := by
          split
          · exact fl_broken inv.ff
          · exact inv.ff
        have fin : SI m g z (n - 1) (kD (ps ++ [p]), w.map pD ++ (nxt m g z p).map pD, fD (flStep m p fl)) := ⟨ps ++ [p], w ++ nxt m g z p, flStep m p fl, by unfold encS; rw [List.map_append], inv2, by
          have := nxt_len m g z p
          rw [List.length_append, List.length_append, List.length_singleton]
          omega, by omega⟩
        by_cases q : p.1 = m
        · rw [if_pos (decide_eq_true q), dput_fD (fl_len ffb), bs]
          refine Ev.some ?_
          have : flStep m p fl = put1 (if p.1 < 0 then put1 fl sB else fl) sO := if_pos q
          rw [this] at fin
          exact fin
        · rw [if_neg (by simpa using q)]
          refine Ev.some ?_
          have : flStep m p fl = if p.1 < 0 then put1 fl sB else fl := if_neg q
          rw [this] at fin
          exact fin
    · obtain ⟨ps, ws, fl, rfl, inv, hn, hn5⟩ := hI
      unfold encS at ht
      simp only at ht
      rw [dec_isE, bs] at ht
      have : ws = [] := by
        have := Option.some.inj ht
        simpa using this
      subst this
      exact ⟨ps, fl, rfl, inv⟩
  · obtain ⟨ps, fl, rfl, inv⟩ := hs
    exact Ev.of (end_due hm hg hz inv) rfl
end Lw

/-! S3.lean -/
set_option Elab.async false
set_option linter.all false
set_option maxRecDepth 100000
namespace Lw
open PySem L2 Mi Pf
/-- the tank -/
structure Tk (n : Nat) (l : List PyData) : Prop where
  ex : ∃ a b c : Int, l = [.int a, .int b, .int c] ∧ 0 ≤ a ∧ 0 ≤ b ∧ b < 2 ^ 210 ∧ 0 ≤ c ∧ c ≤ n
theorem Tk.mono {n m : Nat} {l : List PyData} (h : Tk n l) (hm : n ≤ m) : Tk m l := by
  obtain ⟨a, b, c, e, h1, h2, h3, h4, h5⟩ := h.ex
  exact ⟨a, b, c, e, h1, h2, h3, h4, by omega⟩
theorem log_lt3 {x : Int} (h0 : 0 ≤ x) (h : x < 2 ^ 300) : x.natAbs.log2 < 301 := by
  have : x.natAbs < 2 ^ 301 := by omega
  by_cases h1 : x.natAbs = 0
  · rw [h1]; decide
  · exact (Nat.log2_lt h1).mpr this
theorem mulI_ok3 {i j : Int} (hi : 0 ≤ i) (hi2 : i < 2 ^ 300) (hj : 0 ≤ j) (hj2 : j < 2 ^ 300) : mulI i j = some (i * j) := if_pos (by have := log_lt3 hi hi2; have := log_lt3 hj hj2; omega)
theorem modI_ok3 {i j : Int} (h : 0 < j) : modI i j = some (i % j) := if_pos h
theorem divI_ok3 {i j : Int} (h : 0 < j) (h2 : j < 2 ^ 300) : divI i j = some (i / j) := if_pos ⟨h, by have := log_lt3 (by omega) h2; omega⟩
theorem powI_ok3 {i : Int} (hi : 0 ≤ i) (hi2 : i < 2 ^ 300) : powI i 3 = some (i ^ (3 : Int).toNat) := if_pos ⟨by decide, by have := log_lt3 hi hi2; omega⟩
theorem asI' (i : Int) : asI (.int i) = some i := rfl
theorem drip {n : Nat} {l : List PyData} {m : Int} (h : Tk n l) (hn : n < 1000000) (hm : 0 < m) (hm2 : m < 2 ^ 200) : Ev (p__law_drip l m) fun t => (0 ≤ t.1 ∧ t.1 < m) ∧ Tk (n + 1) t.2 := by
  obtain ⟨a, b, c, rfl, ha, hb, hb2, hc, hc2⟩ := h.ex
  unfold p__law_drip
  rw [ixL_0, bs, asI', bs]
  refine Ev.ite (fun hp => ?_) fun hp => ?_
  · rw [bs, asI', bs, modI_ok3 hm, bs, bs, asI', bs, divI_ok3 hm (by omega), bs]
    have e3 : setL [.int a, .int b, .int c] 0 (.int (a / m)) = some [.int (a / m), .int b, .int c] := rfl
    rw [e3, bs]
    exact Ev.some ⟨⟨Int.emod_nonneg _ (by omega), Int.emod_lt_of_pos _ hm⟩, a / m, b, c, rfl, Int.ediv_nonneg ha (by omega), hb, hb2, hc, by omega⟩
  · rw [ixL_2, bs, asI', bs]
    have e3 : setL [.int a, .int b, .int c] 2 (.int (c + 1)) = some [.int a, .int b, .int (c + 1)] := rfl
    rw [e3, bs, ixL_1, bs, ixL_2, bs, asI', bs, mulI_ok3 (by decide) (by decide) (by omega) (by omega), bs, asI', bs, powI_ok3 (by omega) (by omega), bs, bs, asI', bs, mulI_ok3 (by decide) (by decide) (by omega) (by omega), bs]
    generalize (b + 314159269 * (c + 1)) ^ (3 : Int).toNat = z
    have b3 : 0 ≤ z % (1000000000000000000000000000000000000000 + 3) := Int.emod_nonneg _ (by decide)
    have b4 : z % (1000000000000000000000000000000000000000 + 3) < 1000000000000000000000000000000000000000 + 3 := Int.emod_lt_of_pos _ (by decide)
    rw [powI_ok3 (by omega) (by omega), bs, modI_ok3 hm, bs]
    exact Ev.some ⟨⟨Int.emod_nonneg _ (by omega), Int.emod_lt_of_pos _ hm⟩, a, b, c + 1, rfl, ha, hb, hb2, by omega, by omega⟩
theorem tank (ns : List Int) {k : Nat} (hk : k < 64) : Ev (p__law_tank (ns.map PyData.int) (k : Int)) (Tk 0) := by
  unfold p__law_tank
  refine Ev.bind (P := fun d => ∃ i : Int, d = .int i) ?_ fun d hd => ?_
  · rw [List.length_map]
    refine Ev.ite (fun hc => ?_) fun _ => Ev.some ⟨0, rfl⟩
    have hc : k < ns.length := by simpa using hc
    rw [ixL_nat, List.getElem?_map, List.getElem?_eq_getElem hc]
    exact Ev.some ⟨_, rfl⟩
  · obtain ⟨i, rfl⟩ := hd
    rw [asI', bs, bs]
    have b3 : 0 ≤ i % (1000000000000000000000000000000000000 + 67) := Int.emod_nonneg _ (by decide)
    have b4 : i % (1000000000000000000000000000000000000 + 67) < 1000000000000000000000000000000000000 + 67 := Int.emod_lt_of_pos _ (by decide)
    rw [mulI_ok3 b3 (by omega) (by decide) (by decide), bs, mulI_ok3 (by decide) (by decide) (by omega) (by omega), bs]
    exact Ev.some ⟨_, _, _, rfl, by omega, by omega, by omega, by omega, by omega⟩
theorem units_some {i : Int} (h : 1 ≤ i) : p_check_units (.int i) = some () := by
  unfold p_check_units
  have e : p_is_integer (.int i) = some true := rfl
  have : ¬ i < 1 := by omega
  rw [e]
  simp [asI, this]
theorem cap_some {i : Int} (h : 1 ≤ i) : p_check_capacity (.int i) = some () := by
  unfold p_check_capacity
  have e : p_is_integer (.int i) = some true := rfl
  have : ¬ i < 1 := by omega
  rw [e]
  simp [asI, this]
theorem head_run {w t c : Int} (hw : 1 ≤ w) (ht : 1 ≤ t) (hc : 1 ≤ c) : p_head_fates (.int w) (.int t) (.int c) = some (dueL w t c) := by
  unfold p_head_fates
  rw [units_some hw, bs, units_some ht, bs, cap_some hc, bs, asI', bs, asI', bs, asI', bs, bs, bs]
  unfold dueL
  by_cases h : t + c < w
  · simp [h]
  · by_cases h2 : w ≤ t <;> simp [h, h2]
theorem due_cases (w t c : Int) : dueL w t c = [.str "broken"] ∨ dueL w t c = [.str "over"] ∨ dueL w t c = [.str "broken", .str "over"] := by
  unfold dueL
  split
  · exact .inl rfl
  · split
    · exact .inr (.inl rfl)
    · exact .inr (.inr rfl)
theorem repr_due (w t c : Int) : ∃ z, reprO (.list [.tuple (dueL w t c), .tuple (dueL w t c)]) = some z := by
  have key : ∀ d : List PyData, (reprO (.list [.tuple d, .tuple d])).isSome = true → ∃ z, reprO (.list [.tuple d, .tuple d]) = some z := fun d h => Option.isSome_iff_exists.mp h
  rcases due_cases w t c with h | h | h <;> rw [h] <;> exact key _ (by decide +kernel)
theorem eq_due (w t c : Int) : eqO (.tuple (dueL w t c)) (.tuple (dueL w t c)) = some true := by
  rcases due_cases w t c with h | h | h <;> rw [h] <;> decide +kernel
def Bad (v : PyData) : Prop := (tyN v).isSome = true ∧ goodI v = false
theorem told_num {a b c : PyData} (ha : (tyN a).isSome = true) (hb : (tyN b).isSome = true) (hc : Bad c) (g : goodI a = false ∨ goodI b = false) : p__law_told a b c = some (.str "number") := by
  unfold p__law_told
  rw [ha, hb, hc.1, hc.2]
  have : toldS a b = "number" := if_neg fun ⟨x, y⟩ => by rcases g with g | g <;> simp_all
  rw [this]
  rfl
theorem told_cap {a b : Int} {c : PyData} (ha : 1 ≤ a) (hb : 1 ≤ b) (hc : Bad c) : p__law_told (.int a) (.int b) c = some (.str "capacity") := by
  unfold p__law_told
  rw [hc.1, hc.2]
  have : toldS (.int a) (.int b) = "capacity" := if_pos ⟨decide_eq_true ha, decide_eq_true hb⟩
  rw [this]
  rfl
theorem Ev.lcS {σ β : Type} {F : σ → β → Option (Option PyData × σ)} {I : Nat → List PyData → σ → Prop} (N : Nat) : ∀ (xs : List β) (n : Nat) (acc : List PyData) (s : σ), I n acc s → n + xs.length ≤ N → (∀ (n : Nat) acc s x, I n acc s → n < N → x ∈ xs → acc.length < sizeLine ∧ Ev (F s x) fun o => ∃ y, o.1 = some y ∧ I (n + 1) (acc ++ [y]) o.2) → Ev (Pf.lcS F xs acc s) fun z => I (n + xs.length) z.1 z.2
  | [], n, acc, s, h, _, _ => Ev.some h
  | x :: xs, n, acc, s, h, hN, st => by
    rw [List.length_cons] at hN
    obtain ⟨hz, e⟩ := st n acc s x h (by omega) List.mem_cons_self
    unfold Pf.lcS
    refine Ev.bind e fun o ho => ?_
    obtain ⟨y, h1, h2⟩ := ho
    obtain ⟨o1, o2⟩ := o
    simp only at h1 h2
    subst h1
    simp only
    rw [if_pos hz]
    have := Ev.lcS N xs (n + 1) (acc ++ [y]) o2 h2 (by omega) fun n acc s x h a b => st n acc s x h a (List.mem_cons_of_mem _ b)
    rw [List.length_cons, show n + (xs.length + 1) = n + 1 + xs.length by omega]
    exact this
theorem ixL_int {xs : List PyData} {i : Int} {v : PyData} (h0 : 0 ≤ i) (h : xs[i.toNat]? = some v) : ixL xs i = some v := by
  have := ixL_get (n := i.toNat) h
  rwa [Int.toNat_of_nonneg h0] at this
theorem ix_all {xs : List PyData} {P : PyData → Prop} {i : Int} (h0 : 0 ≤ i) (h : i < xs.length) (hp : ∀ d ∈ xs, P d) : ∃ d, ixL xs i = some d ∧ P d := by
  have hl : i.toNat < xs.length := by omega
  exact ⟨xs[i.toNat], ixL_int h0 (List.getElem?_eq_getElem hl), hp _ (List.getElem_mem hl)⟩
def Pos (d : PyData) : Prop := ∃ i : Int, d = .int i ∧ 1 ≤ i
def oddL : List PyData := [.int 0, .int (-1), .none, .bool true, .bool false, .str ("1"), .list [.int 1], .tuple [.int 1], dctD [], .int (-1000000000000000000000000000000)]
theorem odd_bad : ∀ d ∈ oddL, Bad d := fun d hd => by
  unfold oddL at hd
  simp only [List.mem_cons, List.not_mem_nil, or_false] at hd
  rcases hd with rfl | rfl | rfl | rfl | rfl | rfl | rfl | rfl | rfl | rfl <;> exact ⟨rfl, rfl⟩
theorem right_ok {n : Nat} {l : List PyData} (h : Tk n l) (hn : n < 900000) : Ev (p__law_right l) fun t => t.1 = true ∧ Tk (n + 9) t.2 := by
  unfold p__law_right
  refine Ev.bind (Ev.lcS (I := fun (k : Nat) (acc : List PyData) (s : List PyData) => acc.length = k ∧ (∀ d ∈ acc, Pos d) ∧ Tk (n + 2 * k) s) 2 (List.range 2) 0 [] l ⟨rfl, (fun _ h => by cases h), h⟩ (by simp) fun k acc s x hI hk hx => ?_) fun z hz => ?_
  · obtain ⟨h1, h2, h3⟩ := hI
    refine ⟨sz_lt (by omega), ?_⟩
    refine Ev.bind (drip h3 (by omega) (by decide) (by decide)) fun y hy => ?_
    obtain ⟨⟨y0, y1⟩, ys⟩ := hy
    have e : ∃ m : Int, ixL [.int 4, .int 100000000000000000000000000000] y.1 = some (.int m) ∧ 0 < m ∧ m < 2 ^ 200 := by
      have : y.1 = 0 ∨ y.1 = 1 := by omega
      rcases this with e | e <;> rw [e]
      · exact ⟨4, rfl, by decide, by decide⟩
      · exact ⟨100000000000000000000000000000, rfl, by decide, by decide⟩
    obtain ⟨m, e, m0, m1⟩ := e
    rw [e, bs, asI', bs]
    refine Ev.bind (drip ys (by omega) m0 m1) fun w hw => ?_
    obtain ⟨⟨w0, w1⟩, ws⟩ := hw
    refine Ev.some ⟨_, rfl, by rw [List.length_append, h1, List.length_singleton], fun d hd => ?_, ws.mono (by omega)⟩
    rcases List.mem_append.mp hd with hd | hd
    · exact h2 d hd
    · simp only [List.mem_singleton] at hd; exact ⟨1 + w.1, hd, by omega⟩
  · obtain ⟨z1, z2⟩ := z
    obtain ⟨h1, h2, h3⟩ := hz
    simp only [List.length_range, Nat.zero_add] at h1 h2 h3
    match z1, h1, h2 with
    | [x, y], _, h2 =>
      obtain ⟨g, rfl, hg⟩ := h2 x (by simp)
      obtain ⟨sz, rfl, hs⟩ := h2 y (by simp)
      have eu : unl2 [.int g, .int sz] = some (.int g, .int sz) := rfl
      simp only
      rw [eu]
      simp only [bs, asI']
      refine Ev.bind (drip h3 (by omega) (by decide) (by decide)) fun a ha => ?_
      obtain ⟨⟨a0, a1⟩, as⟩ := ha
      have ea : addL [.int g, .int (g + 1), .int (g + sz), .int ((g + sz) + 1), .int (max 1 (g - 1)), .int ((g + sz) - 1)] [.int (1 + a.1)] = some [.int g, .int (g + 1), .int (g + sz), .int ((g + sz) + 1), .int (max 1 (g - 1)), .int ((g + sz) - 1), .int (1 + a.1)] := if_pos (Nat.le_of_lt (sz_lt (by simp)))
      rw [ea, bs]
      refine Ev.bind (drip as (by omega) (by decide) (by decide)) fun b hb => ?_
      obtain ⟨⟨b0, b1⟩, bs'⟩ := hb
      obtain ⟨d, ed, m, rfl, hm⟩ := ix_all (P := Pos) (xs := [.int g, .int (g + 1), .int (g + sz), .int ((g + sz) + 1), .int (max 1 (g - 1)), .int ((g + sz) - 1), .int (1 + a.1)]) b0 b1 fun d hd => by
        simp only [List.mem_cons, List.not_mem_nil, or_false] at hd
        rcases hd with rfl | rfl | rfl | rfl | rfl | rfl | rfl <;> exact ⟨_, rfl, by omega⟩
      rw [ed]
      simp only [bs, asI', head_run hm hg hs]
      have edue : (if (decide (g + sz < m)) = true then [PyData.str "broken"] else if (decide (m ≤ g)) = true then [.str "over"] else [.str "broken", .str "over"]) = dueL m g sz := by
        unfold dueL
        simp only [decide_eq_true_eq]
      rw [edue]
      obtain ⟨zz, er⟩ := repr_due m g sz
      rw [er]
      simp only [bs, decide_true, Bool.not_true, Bool.false_eq_true, if_false]
      refine Ev.bind (P := fun c => c = false) ?_ fun c hc => ?_
      · refine Ev.ite (fun hc => ?_) fun _ => Ev.some rfl
        have hm11 : m < 11 := of_decide_eq_true hc
        rw [fates_run hm (by omega) hg hs]
        simp only [bs, eq_due]
        exact Ev.some rfl
      subst hc
      simp only [Bool.false_eq_true, if_false]
      refine Ev.bind (Ev.lcS (I := fun (k : Nat) (acc : List PyData) (s : List PyData) => acc.length = k ∧ (∀ d ∈ acc, Bad d) ∧ Tk (n + 6 + k) s) 3 (List.range 3) 0 [] b.2 ⟨rfl, (fun _ h => by cases h), bs'.mono (by omega)⟩ (by simp) fun k acc s x hI hk hx => ?_) fun z hz => ?_
      · obtain ⟨h1, h2, h3⟩ := hI
        refine ⟨sz_lt (by omega), ?_⟩
        refine Ev.bind (drip h3 (by omega) (by decide) (by decide)) fun y hy => ?_
        obtain ⟨⟨y0, y1⟩, ys⟩ := hy
        obtain ⟨d, ed, hd⟩ := ix_all (P := Bad) (xs := oddL) y0 y1 odd_bad
        unfold oddL at ed
        rw [ed, bs]
        refine Ev.some ⟨_, rfl, by rw [List.length_append, h1, List.length_singleton], fun e he => ?_, ys.mono (by omega)⟩
        rcases List.mem_append.mp he with he | he
        · exact h2 e he
        · simp only [List.mem_singleton] at he; rw [he]; exact hd
      · obtain ⟨z1, z2⟩ := z
        obtain ⟨h1, h2, h3⟩ := hz
        simp only [List.length_range, Nat.zero_add] at h1 h2 h3
        match z1, h1, h2 with
        | [p, q, r], _, h2 =>
          have hp := h2 p (by simp)
          have hq := h2 q (by simp)
          have hr := h2 r (by simp)
          simp only [ixL_0, ixL_1, ixL_2, bs]
          rw [told_num hp.1 hq.1 hr (.inl hp.2), bs, told_num hp.1 rfl hr (.inl hp.2), bs, told_num rfl hq.1 hr (.inr hq.2), bs, told_cap hm hg hr, bs]
          refine Ev.of (a := (true, z2)) ?_ ⟨rfl, h3.mono (by omega)⟩
          have e1 : addL [PyData.str "number", .str "number", .str "number"] [.str "capacity"] = some [PyData.str "number", .str "number", .str "number", .str "capacity"] := if_pos (Nat.le_of_lt (sz_lt (by decide)))
          have e2 : repL [PyData.str "number"] 3 = some [PyData.str "number", .str "number", .str "number"] := by
            unfold repL
            rw [if_pos ⟨⟨by decide, by decide⟩, Nat.le_of_lt (sz_lt (by decide))⟩]
            rfl
          have e3 : eqO (.list [PyData.str "number", .str "number", .str "number", .str "capacity"]) (.list [PyData.str "number", .str "number", .str "number", .str "capacity"]) = some true := by decide +kernel
          rw [e1, bs, e2, bs, e1, bs, e3, bs]
theorem Ev.loopI {σ β τ : Type} {F : σ → β → Option (Except τ σ)} {I : Nat → σ → Prop} (N : Nat) : ∀ (xs : List β) (n : Nat) (s : σ), I n s → n + xs.length ≤ N → (∀ n s x, I n s → n < N → x ∈ xs → Ev (F s x) fun e => ∃ s', e = .ok s' ∧ I (n + 1) s') → Ev (foldXO F xs s) fun e => ∃ s', e = .ok s' ∧ I (n + xs.length) s'
  | [], n, s, h, _, _ => Ev.some ⟨s, rfl, h⟩
  | x :: xs, n, s, h, hN, st => by
    rw [List.length_cons] at hN
    unfold foldXO
    refine Ev.bind (st n s x h (by omega) List.mem_cons_self) fun e ⟨s', he, h'⟩ => ?_
    subst he
    simp only
    rw [List.length_cons, show n + (xs.length + 1) = n + 1 + xs.length by omega]
    exact Ev.loopI N xs (n + 1) s' h' (by omega) fun n s y h a b => st n s y h a (List.mem_cons_of_mem _ b)
theorem Ev.exM' {σ τ ρ : Type} {e : Except τ σ} {k : σ → Option (Except τ ρ)} {s : σ} {Q : Except τ ρ → Prop} (he : e = .ok s) (h : Ev (k s) Q) : Ev (exM e k) Q := by subst he; exact h
theorem rng_some' {k : Int} (h0 : 0 ≤ k) (h : k < 1000) : rngO k = some (List.range k.toNat) := by
  have := rngO_ok (n := k.toNat) (by omega)
  rw [Int.toNat_of_nonneg h0] at this
  exact this
theorem tail_ok : ((p_head_fates (.int 1000000000000000000000000000000) (.int 1000000000000000000000000000000) (.int 1000000000000000000000000000000)).bind fun y109 =>
    (p_head_fates (.int 1000000000000000000000000000000) (.int 1) (.int (1000000000000000000000000000000 - 1))).bind fun y110 =>
    (p_head_fates (.int 1000000000000000000000000000000) (.int 1) (.int (1000000000000000000000000000000 - 2))).bind fun y111 =>
    (p_head_fates (.int 1) (.int 1) (.int 1)).bind fun y112 =>
    (addL [.tuple y109, .tuple y110, .tuple y111] [.tuple y112]).bind fun z113 =>
    (eqO (.list z113) (.list [.tuple [.str ("over")], .tuple [.str ("broken"), .str ("over")], .tuple [.str ("broken")], .tuple [.str ("over")]])).bind fun z114 =>
    some z114) = some true := by decide +kernel
theorem p_law_ok (ns : List Int) (hl : ns.length ≤ 63) : p_law (ns.map PyData.int) = some true := by
  refine Ev.eq ?_
  unfold p_law
  have ll : (((ns.map PyData.int).length : Nat) : Int) = (ns.length : Int) := by rw [List.length_map]
  rw [ll, rng_some' (by omega) (by omega), bs]
  refine Ev.bind (Ev.loopN (I := fun _ => True) trivial fun s x _ hx => ?_) fun e he => ?_
  · have hk : x < 64 := by
      have := List.mem_range.mp hx
      omega
    refine Ev.bind (tank ns hk) fun src hsrc => ?_
    refine Ev.bind (Ev.loopI (I := fun i s => Tk (9 * i) s) 6 (List.range 6) 0 src hsrc (by simp) fun i s y hI hi _ => ?_) fun e he => ?_
    · refine Ev.bind (right_ok hI (by omega)) fun t ht => ?_
      obtain ⟨t1, t2⟩ := t
      obtain ⟨rfl, h2⟩ := ht
      simp only [Bool.not_true, Bool.false_eq_true, if_false]
      exact Ev.some ⟨t2, rfl, h2⟩
    · obtain ⟨s', he, _⟩ := he
      exact Ev.exM' he (Ev.some ⟨(), rfl, trivial⟩)
  · obtain ⟨s', he, _⟩ := he
    exact Ev.exO he (Ev.of tail_ok rfl)
theorem pure71 (ns : List Int) (h : ns.length ≤ 63) : G_law [.val (pyInts ns)] = .ret (.val (.bool true)) [] := run_law_v (ns.map PyData.int) true (p_law_ok ns h)
end Lw

/-! End71.lean -/
set_option Elab.async false
set_option linter.all false
set_option maxRecDepth 100000
set_option maxHeartbeats 0
namespace Lw
open PySem PySem.Spec PyProof.Rows L2 Mi
theorem all_mk {l : PySem.W.OpenLaw} {w : World} {K : PySem.W.Frag} {h : Heap} {mg : Str → Option Value} {fa : Addr} (X : K.In h) (G : h.Ns mainGlobals mg) (hfa : mg "law" = some (.ref fa))
    {f0 : Addr} {od0 an0 : Option Addr} {sl0 : Array (Option Value)} {oc0 kV0 dc0 pm0 cd0 ct0 : Value}
    (a0 : PySem.W.nsIn K mainGlobals "_law_tank" = some (some (.ref f0))) (l0 : K.lookup f0 = some ⟨oc0, od0, .func (PySem.W.fnOf "_law_tank" "_law_tank" (defArgs s__law_tank) (defBody s__law_tank) (defScope s__law_tank) .none kV0 dc0 pm0 an0 cd0 ct0), sl0⟩) (c0 : PySem.W.codeIn K cd0 "_law_tank" = true) (k0 : PySem.W.keepIn K (.ref f0) = true)
    {f1 : Addr} {od1 an1 : Option Addr} {sl1 : Array (Option Value)} {oc1 kV1 dc1 pm1 cd1 ct1 : Value}
    (a1 : PySem.W.nsIn K mainGlobals "is_integer" = some (some (.ref f1))) (l1 : K.lookup f1 = some ⟨oc1, od1, .func (PySem.W.fnOf "is_integer" "is_integer" (defArgs s_is_integer) (defBody s_is_integer) (defScope s_is_integer) .none kV1 dc1 pm1 an1 cd1 ct1), sl1⟩) (c1 : PySem.W.codeIn K cd1 "is_integer" = true) (k1 : PySem.W.keepIn K (.ref f1) = true)
    {f2 : Addr} {od2 an2 : Option Addr} {sl2 : Array (Option Value)} {oc2 kV2 dc2 pm2 cd2 ct2 : Value}
    (a2 : PySem.W.nsIn K mainGlobals "check_units" = some (some (.ref f2))) (l2 : K.lookup f2 = some ⟨oc2, od2, .func (PySem.W.fnOf "check_units" "check_units" (defArgs s_check_units) (defBody s_check_units) (defScope s_check_units) .none kV2 dc2 pm2 an2 cd2 ct2), sl2⟩) (c2 : PySem.W.codeIn K cd2 "check_units" = true) (k2 : PySem.W.keepIn K (.ref f2) = true)
    {f3 : Addr} {od3 an3 : Option Addr} {sl3 : Array (Option Value)} {oc3 kV3 dc3 pm3 cd3 ct3 : Value}
    (a3 : PySem.W.nsIn K mainGlobals "check_capacity" = some (some (.ref f3))) (l3 : K.lookup f3 = some ⟨oc3, od3, .func (PySem.W.fnOf "check_capacity" "check_capacity" (defArgs s_check_capacity) (defBody s_check_capacity) (defScope s_check_capacity) .none kV3 dc3 pm3 an3 cd3 ct3), sl3⟩) (c3 : PySem.W.codeIn K cd3 "check_capacity" = true) (k3 : PySem.W.keepIn K (.ref f3) = true)
    {f4 : Addr} {od4 an4 : Option Addr} {sl4 : Array (Option Value)} {oc4 kV4 dc4 pm4 cd4 ct4 : Value}
    (a4 : PySem.W.nsIn K mainGlobals "head_fates" = some (some (.ref f4))) (l4 : K.lookup f4 = some ⟨oc4, od4, .func (PySem.W.fnOf "head_fates" "head_fates" (defArgs s_head_fates) (defBody s_head_fates) (defScope s_head_fates) .none kV4 dc4 pm4 an4 cd4 ct4), sl4⟩) (c4 : PySem.W.codeIn K cd4 "head_fates" = true) (k4 : PySem.W.keepIn K (.ref f4) = true)
    {f5 : Addr} {od5 an5 : Option Addr} {sl5 : Array (Option Value)} {oc5 kV5 dc5 pm5 cd5 ct5 : Value}
    (a5 : PySem.W.nsIn K mainGlobals "_law_drip" = some (some (.ref f5))) (l5 : K.lookup f5 = some ⟨oc5, od5, .func (PySem.W.fnOf "_law_drip" "_law_drip" (defArgs s__law_drip) (defBody s__law_drip) (defScope s__law_drip) .none kV5 dc5 pm5 an5 cd5 ct5), sl5⟩) (c5 : PySem.W.codeIn K cd5 "_law_drip" = true) (k5 : PySem.W.keepIn K (.ref f5) = true)
    {f6 : Addr} {od6 an6 : Option Addr} {sl6 : Array (Option Value)} {oc6 kV6 dc6 pm6 cd6 ct6 : Value}
    (a6 : PySem.W.nsIn K mainGlobals "_law_told" = some (some (.ref f6))) (l6 : K.lookup f6 = some ⟨oc6, od6, .func (PySem.W.fnOf "_law_told" "_law_told" (defArgs s__law_told) (defBody s__law_told) (defScope s__law_told) .none kV6 dc6 pm6 an6 cd6 ct6), sl6⟩) (c6 : PySem.W.codeIn K cd6 "_law_told" = true) (k6 : PySem.W.keepIn K (.ref f6) = true)
    {f7 : Addr} {od7 an7 : Option Addr} {sl7 : Array (Option Value)} {oc7 kV7 dc7 pm7 cd7 ct7 : Value}
    (a7 : PySem.W.nsIn K mainGlobals "_law_next" = some (some (.ref f7))) (l7 : K.lookup f7 = some ⟨oc7, od7, .func (PySem.W.fnOf "_law_next" "_law_next" (defArgs s__law_next) (defBody s__law_next) (defScope s__law_next) .none kV7 dc7 pm7 an7 cd7 ct7), sl7⟩) (c7 : PySem.W.codeIn K cd7 "_law_next" = true) (k7 : PySem.W.keepIn K (.ref f7) = true)
    {f8 : Addr} {od8 an8 : Option Addr} {sl8 : Array (Option Value)} {oc8 kV8 dc8 pm8 cd8 ct8 : Value}
    (a8 : PySem.W.nsIn K mainGlobals "_law_fates" = some (some (.ref f8))) (l8 : K.lookup f8 = some ⟨oc8, od8, .func (PySem.W.fnOf "_law_fates" "_law_fates" (defArgs s__law_fates) (defBody s__law_fates) (defScope s__law_fates) .none kV8 dc8 pm8 an8 cd8 ct8), sl8⟩) (c8 : PySem.W.codeIn K cd8 "_law_fates" = true) (k8 : PySem.W.keepIn K (.ref f8) = true)
    {f9 : Addr} {od9 an9 : Option Addr} {sl9 : Array (Option Value)} {oc9 kV9 dc9 pm9 cd9 ct9 : Value}
    (a9 : PySem.W.nsIn K mainGlobals "_law_right" = some (some (.ref f9))) (l9 : K.lookup f9 = some ⟨oc9, od9, .func (PySem.W.fnOf "_law_right" "_law_right" (defArgs s__law_right) (defBody s__law_right) (defScope s__law_right) .none kV9 dc9 pm9 an9 cd9 ct9), sl9⟩) (c9 : PySem.W.codeIn K cd9 "_law_right" = true) (k9 : PySem.W.keepIn K (.ref f9) = true)
    {f10 : Addr} {od10 an10 : Option Addr} {sl10 : Array (Option Value)} {oc10 kV10 dc10 pm10 cd10 ct10 : Value}
    (a10 : PySem.W.nsIn K mainGlobals "law" = some (some (.ref f10))) (l10 : K.lookup f10 = some ⟨oc10, od10, .func (PySem.W.fnOf "law" "law" (defArgs s_law) (defBody s_law) (defScope s_law) .none kV10 dc10 pm10 an10 cd10 ct10), sl10⟩) (c10 : PySem.W.codeIn K cd10 "law" = true) (k10 : PySem.W.keepIn K (.ref f10) = true)
    (z_len : PySem.W.nsIn K mainGlobals "len" = some none)
    (z_tuple : PySem.W.nsIn K mainGlobals "tuple" = some none)
    (z_range : PySem.W.nsIn K mainGlobals "range" = some none)
    (z_int : PySem.W.nsIn K mainGlobals "int" = some none)
    (z_max : PySem.W.nsIn K mainGlobals "max" = some none)
    (z_min : PySem.W.nsIn K mainGlobals "min" = some none)
    (z_sorted : PySem.W.nsIn K mainGlobals "sorted" = some none)
    (z_repr : PySem.W.nsIn K mainGlobals "repr" = some none)
    (z_isinstance : PySem.W.nsIn K mainGlobals "isinstance" = some none)
    (z_bool : PySem.W.nsIn K mainGlobals "bool" = some none)
    {C_InvalidNumber : Addr} (n_InvalidNumber : PySem.W.nsIn K mainGlobals "InvalidNumber" = some (some (.ref C_InvalidNumber)))
    {C_InvalidCapacity : Addr} (n_InvalidCapacity : PySem.W.nsIn K mainGlobals "InvalidCapacity" = some (some (.ref C_InvalidCapacity)))
    {C_WireError : Addr} (n_WireError : PySem.W.nsIn K mainGlobals "WireError" = some (some (.ref C_WireError)))
    (sb_InvalidNumber : PySem.W.subIn K (.ref C_InvalidNumber) (.type "BaseException") = some true) (ty_InvalidNumber : PySem.W.typeIn K (.ref C_InvalidNumber) = some (.type "type"))
    (sb_InvalidCapacity : PySem.W.subIn K (.ref C_InvalidCapacity) (.type "BaseException") = some true) (ty_InvalidCapacity : PySem.W.typeIn K (.ref C_InvalidCapacity) = some (.type "type"))
    (sb_WireError : PySem.W.subIn K (.ref C_WireError) (.type "BaseException") = some true) (ty_WireError : PySem.W.typeIn K (.ref C_WireError) = some (.type "type"))
    (x_InvalidNumber : PySem.W.excIn K C_InvalidNumber HandSPX.veTail "ValueError.__new__" = true) (kp_InvalidNumber : PySem.W.keepIn K (.ref C_InvalidNumber) = true)
    (x_InvalidCapacity : PySem.W.excIn K C_InvalidCapacity HandSPX.veTail "ValueError.__new__" = true) (kp_InvalidCapacity : PySem.W.keepIn K (.ref C_InvalidCapacity) = true)
    (ic_WireError : PySem.W.isClsIn K C_WireError = true)
    (m_InvalidNumber_WireError : PySem.W.subIn K (.ref C_InvalidNumber) (.ref C_WireError) = some true)
    (m_InvalidCapacity_WireError : PySem.W.subIn K (.ref C_InvalidCapacity) (.ref C_WireError) = some true)
    {C_InvalidIndex : Addr} (n_InvalidIndex : PySem.W.nsIn K mainGlobals "InvalidIndex" = some (some (.ref C_InvalidIndex)))
    (ty_InvalidIndex : PySem.W.typeIn K (.ref C_InvalidIndex) = some (.type "type"))
    (ic_InvalidIndex : PySem.W.isClsIn K C_InvalidIndex = true)
    (sf_InvalidIndex : PySem.W.subIn K (.ref C_InvalidIndex) (.ref C_InvalidIndex) = some true)
    (m_InvalidNumber_InvalidIndex : PySem.W.subIn K (.ref C_InvalidNumber) (.ref C_InvalidIndex) = some false)
    (m_InvalidCapacity_InvalidIndex : PySem.W.subIn K (.ref C_InvalidCapacity) (.ref C_InvalidIndex) = some false)
    {C_InvalidText : Addr} (n_InvalidText : PySem.W.nsIn K mainGlobals "InvalidText" = some (some (.ref C_InvalidText)))
    (ty_InvalidText : PySem.W.typeIn K (.ref C_InvalidText) = some (.type "type"))
    (ic_InvalidText : PySem.W.isClsIn K C_InvalidText = true)
    (sf_InvalidText : PySem.W.subIn K (.ref C_InvalidText) (.ref C_InvalidText) = some true)
    (m_InvalidNumber_InvalidText : PySem.W.subIn K (.ref C_InvalidNumber) (.ref C_InvalidText) = some false)
    (m_InvalidCapacity_InvalidText : PySem.W.subIn K (.ref C_InvalidCapacity) (.ref C_InvalidText) = some false)
    (ic_InvalidNumber : PySem.W.isClsIn K C_InvalidNumber = true)
    (sf_InvalidNumber : PySem.W.subIn K (.ref C_InvalidNumber) (.ref C_InvalidNumber) = some true)
    (m_InvalidNumber_InvalidNumber : PySem.W.subIn K (.ref C_InvalidNumber) (.ref C_InvalidNumber) = some true)
    (m_InvalidCapacity_InvalidNumber : PySem.W.subIn K (.ref C_InvalidCapacity) (.ref C_InvalidNumber) = some false)
    (ic_InvalidCapacity : PySem.W.isClsIn K C_InvalidCapacity = true)
    (sf_InvalidCapacity : PySem.W.subIn K (.ref C_InvalidCapacity) (.ref C_InvalidCapacity) = some true)
    (m_InvalidNumber_InvalidCapacity : PySem.W.subIn K (.ref C_InvalidNumber) (.ref C_InvalidCapacity) = some false)
    (m_InvalidCapacity_InvalidCapacity : PySem.W.subIn K (.ref C_InvalidCapacity) (.ref C_InvalidCapacity) = some true)
    (z_ValueError : PySem.W.nsIn K mainGlobals "ValueError" = some none)
    (m_InvalidNumber_ValueError : PySem.W.subIn K (.ref C_InvalidNumber) (.type "ValueError") = some true)
    (m_InvalidCapacity_ValueError : PySem.W.subIn K (.ref C_InvalidCapacity) (.type "ValueError") = some true)
    (ga_InvalidNumber : PySem.W.findIn K (.ref C_InvalidNumber) "__getattribute__" = some (some (.builtin "BaseException.__getattribute__"))) (gg_InvalidNumber : PySem.W.findIn K (.ref C_InvalidNumber) "__getattr__" = some none) (hd_InvalidNumber : PySem.W.hasDictIn K C_InvalidNumber = true)
    (ga_InvalidCapacity : PySem.W.findIn K (.ref C_InvalidCapacity) "__getattribute__" = some (some (.builtin "BaseException.__getattribute__"))) (gg_InvalidCapacity : PySem.W.findIn K (.ref C_InvalidCapacity) "__getattr__" = some none) (hd_InvalidCapacity : PySem.W.hasDictIn K C_InvalidCapacity = true)
    (sp_c : PySem.W.specialIn K (.builtin "object.__class__") "__get__" = some (some (.builtin "getset_descriptor.__get__"))) (tk_c : PySem.W.takesIn K (.builtin "object.__class__") = some true)
    (ha_InvalidNumber : PySem.W.findIn K (.ref C_InvalidNumber) "__class__" = some (some (.builtin "object.__class__"))) (mo_InvalidNumber : PySem.W.mroIn K C_InvalidNumber (.type "object") = some true)
    (ha_InvalidCapacity : PySem.W.findIn K (.ref C_InvalidCapacity) "__class__" = some (some (.builtin "object.__class__"))) (mo_InvalidCapacity : PySem.W.mroIn K C_InvalidCapacity (.type "object") = some true)
    : ∃ fd : FuncData, (∀ (s : Shared) (v : Value), BindsTo s fd ⟨[v], []⟩ [("script", v)]) ∧ ∀ base : Heap, K.In base → base.Ns mainGlobals mg → FnG l.prog w K mg base 6 fa fd ["script"] (spF ⟨K, l.prog, w, none⟩ 1 6 b_law) := by
  have e := hfa.symm.trans (PySem.W.mg_of X G a10)
  cases e
  have N : Nm K w mg := ⟨PySem.W.mg_none_of X G z_len, PySem.W.mg_none_of X G z_tuple, PySem.W.mg_none_of X G z_range, PySem.W.mg_none_of X G z_int, PySem.W.mg_none_of X G z_max, PySem.W.mg_none_of X G z_min, PySem.W.mg_none_of X G z_sorted, PySem.W.mg_none_of X G z_repr, PySem.W.mg_none_of X G z_isinstance, PySem.W.mg_none_of X G z_bool⟩
  refine ⟨PySem.W.fnOf "law" "law" (defArgs s_law) (defBody s_law) (defScope s_law) .none kV10 dc10 pm10 an10 cd10 ct10, fun s v => .of_eq rfl, fun base _ _ => ?_⟩
  have E_InvalidNumber : ExD K mg "InvalidNumber" := ⟨_, PySem.W.mg_of X G n_InvalidNumber, n_InvalidNumber, x_InvalidNumber, kp_InvalidNumber, sb_InvalidNumber, ty_InvalidNumber⟩
  have E_InvalidCapacity : ExD K mg "InvalidCapacity" := ⟨_, PySem.W.mg_of X G n_InvalidCapacity, n_InvalidCapacity, x_InvalidCapacity, kp_InvalidCapacity, sb_InvalidCapacity, ty_InvalidCapacity⟩
  have T_WireError : Takers K mg "WireError" m_WireError := Takers.of (PySem.W.mg_of X G n_WireError) (List.forall_mem_cons.mpr ⟨⟨_, n_InvalidNumber, exm_mk sb_WireError ic_WireError ty_WireError m_InvalidNumber_WireError⟩, List.forall_mem_cons.mpr ⟨⟨_, n_InvalidCapacity, exm_mk sb_WireError ic_WireError ty_WireError m_InvalidCapacity_WireError⟩, List.forall_mem_nil _⟩⟩)
  have X_InvalidNumber : ExcC K C_InvalidNumber := excC_mk ga_InvalidNumber gg_InvalidNumber sb_InvalidNumber hd_InvalidNumber ha_InvalidNumber sp_c tk_c mo_InvalidNumber
  have X_InvalidCapacity : ExcC K C_InvalidCapacity := excC_mk ga_InvalidCapacity gg_InvalidCapacity sb_InvalidCapacity hd_InvalidCapacity ha_InvalidCapacity sp_c tk_c mo_InvalidCapacity
  have IB_InvalidIndex_InvalidText : IsxT K mg ["InvalidIndex", "InvalidText"] mi_InvalidIndex_InvalidText := IsxT.of (.cons ⟨.own _, .inl (PySem.W.mg_of X G n_InvalidIndex)⟩ (.cons ⟨.own _, .inl (PySem.W.mg_of X G n_InvalidText)⟩ .nil)) (List.forall_mem_cons.mpr ⟨⟨_, n_InvalidNumber, X_InvalidNumber, (kitAny_or (kitOne_mk ic_InvalidIndex ty_InvalidIndex m_InvalidNumber_InvalidIndex sf_InvalidIndex) (kitAny_or (kitOne_mk ic_InvalidText ty_InvalidText m_InvalidNumber_InvalidText sf_InvalidText) rfl))⟩, List.forall_mem_cons.mpr ⟨⟨_, n_InvalidCapacity, X_InvalidCapacity, (kitAny_or (kitOne_mk ic_InvalidIndex ty_InvalidIndex m_InvalidCapacity_InvalidIndex sf_InvalidIndex) (kitAny_or (kitOne_mk ic_InvalidText ty_InvalidText m_InvalidCapacity_InvalidText sf_InvalidText) rfl))⟩, List.forall_mem_nil _⟩⟩)
  have IB_InvalidNumber : IsxT K mg ["InvalidNumber"] mi_InvalidNumber := IsxT.of (.cons ⟨.own _, .inl (PySem.W.mg_of X G n_InvalidNumber)⟩ .nil) (List.forall_mem_cons.mpr ⟨⟨_, n_InvalidNumber, X_InvalidNumber, (kitAny_or (kitOne_mk ic_InvalidNumber ty_InvalidNumber m_InvalidNumber_InvalidNumber sf_InvalidNumber) rfl)⟩, List.forall_mem_cons.mpr ⟨⟨_, n_InvalidCapacity, X_InvalidCapacity, (kitAny_or (kitOne_mk ic_InvalidNumber ty_InvalidNumber m_InvalidCapacity_InvalidNumber sf_InvalidNumber) rfl)⟩, List.forall_mem_nil _⟩⟩)
  have IB_InvalidCapacity : IsxT K mg ["InvalidCapacity"] mi_InvalidCapacity := IsxT.of (.cons ⟨.own _, .inl (PySem.W.mg_of X G n_InvalidCapacity)⟩ .nil) (List.forall_mem_cons.mpr ⟨⟨_, n_InvalidNumber, X_InvalidNumber, (kitAny_or (kitOne_mk ic_InvalidCapacity ty_InvalidCapacity m_InvalidNumber_InvalidCapacity sf_InvalidCapacity) rfl)⟩, List.forall_mem_cons.mpr ⟨⟨_, n_InvalidCapacity, X_InvalidCapacity, (kitAny_or (kitOne_mk ic_InvalidCapacity ty_InvalidCapacity m_InvalidCapacity_InvalidCapacity sf_InvalidCapacity) rfl)⟩, List.forall_mem_nil _⟩⟩)
  have IB_ValueError : IsxT K mg ["ValueError"] mi_ValueError := IsxT.of (.cons ⟨.ty "ValueError", .inr ⟨PySem.W.mg_none_of X G z_ValueError, rfl, by decide⟩⟩ .nil) (List.forall_mem_cons.mpr ⟨⟨_, n_InvalidNumber, X_InvalidNumber, (kitAny_or (kitOne_ty (by decide +kernel) m_InvalidNumber_ValueError) rfl)⟩, List.forall_mem_cons.mpr ⟨⟨_, n_InvalidCapacity, X_InvalidCapacity, (kitAny_or (kitOne_ty (by decide +kernel) m_InvalidCapacity_ValueError) rfl)⟩, List.forall_mem_nil _⟩⟩)
  have F0 := fun_mk (st := s__law_tank) l0 c0 k0
  have D__law_tank : Def l.prog w K mg base "_law_tank" 1 2 3 b__law_tank := ⟨f0, _, ["script", "k"], PySem.W.mg_of X G a0, k0, F0.binds (ps := ["script", "k"]) (fun _ _ _ _ _ _ us hl => match us, hl with | [_, _], _ => rfl), rfl, k__law_tank F0 N ⟩
  have F1 := fun_mk (st := s_is_integer) l1 c1 k1
  have D_is_integer : Def l.prog w K mg base "is_integer" 1 1 1 b_is_integer := ⟨f1, _, ["value"], PySem.W.mg_of X G a1, k1, F1.binds (ps := ["value"]) (fun _ _ _ _ _ _ us hl => match us, hl with | [_], _ => rfl), rfl, k_is_integer F1 N ⟩
  have F2 := fun_mk (st := s_check_units) l2 c2 k2
  have D_check_units : Def l.prog w K mg base "check_units" 2 1 1 b_check_units := ⟨f2, _, ["value"], PySem.W.mg_of X G a2, k2, F2.binds (ps := ["value"]) (fun _ _ _ _ _ _ us hl => match us, hl with | [_], _ => rfl), rfl, k_check_units F2 N D_is_integer E_InvalidNumber⟩
  have F3 := fun_mk (st := s_check_capacity) l3 c3 k3
  have D_check_capacity : Def l.prog w K mg base "check_capacity" 2 1 1 b_check_capacity := ⟨f3, _, ["value"], PySem.W.mg_of X G a3, k3, F3.binds (ps := ["value"]) (fun _ _ _ _ _ _ us hl => match us, hl with | [_], _ => rfl), rfl, k_check_capacity F3 N D_is_integer E_InvalidCapacity⟩
  have F4 := fun_mk (st := s_head_fates) l4 c4 k4
  have D_head_fates : Def l.prog w K mg base "head_fates" 3 3 3 b_head_fates := ⟨f4, _, ["written", "taken", "capacity"], PySem.W.mg_of X G a4, k4, F4.binds (ps := ["written", "taken", "capacity"]) (fun _ _ _ _ _ _ us hl => match us, hl with | [_, _, _], _ => rfl), rfl, k_head_fates F4 N D_check_units D_check_capacity⟩
  have DK_head_fates_capacity_taken_written : DefK l.prog w K mg base "head_fates" 3 3 3 b_head_fates ["capacity", "taken", "written"] [2, 1, 0] := ⟨f4, _, ["written", "taken", "capacity"], PySem.W.mg_of X G a4, k4, Mi.Fun.kws F4 (ps := ["written", "taken", "capacity"]) (ks := ["capacity", "taken", "written"]) (pm := [2, 1, 0]) (fun _ _ _ _ _ _ ws hl => match ws, hl with | [_, _, _], _ => rfl), rfl, k_head_fates F4 N D_check_units D_check_capacity⟩
  have F5 := fun_mk (st := s__law_drip) l5 c5 k5
  have D__law_drip : Def l.prog w K mg base "_law_drip" 1 2 4 b__law_drip := ⟨f5, _, ["tank", "many"], PySem.W.mg_of X G a5, k5, F5.binds (ps := ["tank", "many"]) (fun _ _ _ _ _ _ us hl => match us, hl with | [_, _], _ => rfl), rfl, k__law_drip F5 N ⟩
  have F6 := fun_mk (st := s__law_told) l6 c6 k6
  have D__law_told : Def l.prog w K mg base "_law_told" 4 3 5 b__law_told := ⟨f6, _, ["one", "two", "three"], PySem.W.mg_of X G a6, k6, F6.binds (ps := ["one", "two", "three"]) (fun _ _ _ _ _ _ us hl => match us, hl with | [_, _, _], _ => rfl), rfl, k__law_told F6 N D_head_fates T_WireError IB_InvalidIndex_InvalidText IB_InvalidNumber IB_InvalidCapacity IB_ValueError⟩
  have F7 := fun_mk (st := s__law_next) l7 c7 k7
  have D__law_next : Def l.prog w K mg base "_law_next" 1 4 8 b__law_next := ⟨f7, _, ["place", "most", "goal", "size"], PySem.W.mg_of X G a7, k7, F7.binds (ps := ["place", "most", "goal", "size"]) (fun _ _ _ _ _ _ us hl => match us, hl with | [_, _, _, _], _ => rfl), rfl, k__law_next F7 N ⟩
  have F8 := fun_mk (st := s__law_fates) l8 c8 k8
  have D__law_fates : Def l.prog w K mg base "_law_fates" 2 3 7 b__law_fates := ⟨f8, _, ["most", "goal", "size"], PySem.W.mg_of X G a8, k8, F8.binds (ps := ["most", "goal", "size"]) (fun _ _ _ _ _ _ us hl => match us, hl with | [_, _, _], _ => rfl), rfl, k__law_fates F8 N D__law_next⟩
  have F9 := fun_mk (st := s__law_right) l9 c9 k9
  have D__law_right : Def l.prog w K mg base "_law_right" 5 1 10 b__law_right := ⟨f9, _, ["tank"], PySem.W.mg_of X G a9, k9, F9.binds (ps := ["tank"]) (fun _ _ _ _ _ _ us hl => match us, hl with | [_], _ => rfl), rfl, k__law_right F9 N D__law_drip D__law_told D__law_fates D_head_fates DK_head_fates_capacity_taken_written⟩
  have F10 := fun_mk (st := s_law) l10 c10 k10
  exact k_law F10 N D__law_tank D_head_fates D__law_right
end Lw
open PySem PySem.W PyProof.Rows
set_option maxHeartbeats 0 in
theorem PySem.Challenge.cw_fdwires_k71_fates_of_heads_holds : PySem.Challenge.rw_fdwires_k71_fates_of_heads.Holds := by
  w_on; o_law; k_head; (case hw => w_witness2)
  k_fill
  refine Mi.law_end (l := PySem.Challenge.rw_fdwires_k71_fates_of_heads) (n := 6) (k := 6) (x := "script") (bd := Lw.b_law) rfl rfl ⟨rfl, by decide, by decide⟩ (fun w h Y => PySem.W.kIn_of Y) ?F (by decide) fun ns h _ => Lw.pure71 ns h
  case F =>
    intro w mg fa h KX G hmg
    refine' Lw.all_mk KX G hmg ?a0 ?l0 ?c0 ?k0 ?a1 ?l1 ?c1 ?k1 ?a2 ?l2 ?c2 ?k2 ?a3 ?l3 ?c3 ?k3 ?a4 ?l4 ?c4 ?k4 ?a5 ?l5 ?c5 ?k5 ?a6 ?l6 ?c6 ?k6 ?a7 ?l7 ?c7 ?k7 ?a8 ?l8 ?c8 ?k8 ?a9 ?l9 ?c9 ?k9 ?a10 ?l10 ?c10 ?k10 ?z_len ?z_tuple ?z_range ?z_int ?z_max ?z_min ?z_sorted ?z_repr ?z_isinstance ?z_bool ?n_InvalidNumber ?n_InvalidCapacity ?n_WireError ?sb_InvalidNumber ?ty_InvalidNumber ?sb_InvalidCapacity ?ty_InvalidCapacity ?sb_WireError ?ty_WireError ?x_InvalidNumber ?kp_InvalidNumber ?x_InvalidCapacity ?kp_InvalidCapacity ?ic_WireError ?m_InvalidNumber_WireError ?m_InvalidCapacity_WireError ?n_InvalidIndex ?ty_InvalidIndex ?ic_InvalidIndex ?sf_InvalidIndex ?m_InvalidNumber_InvalidIndex ?m_InvalidCapacity_InvalidIndex ?n_InvalidText ?ty_InvalidText ?ic_InvalidText ?sf_InvalidText ?m_InvalidNumber_InvalidText ?m_InvalidCapacity_InvalidText ?ic_InvalidNumber ?sf_InvalidNumber ?m_InvalidNumber_InvalidNumber ?m_InvalidCapacity_InvalidNumber ?ic_InvalidCapacity ?sf_InvalidCapacity ?m_InvalidNumber_InvalidCapacity ?m_InvalidCapacity_InvalidCapacity ?z_ValueError ?m_InvalidNumber_ValueError ?m_InvalidCapacity_ValueError ?ga_InvalidNumber ?gg_InvalidNumber ?hd_InvalidNumber ?ga_InvalidCapacity ?gg_InvalidCapacity ?hd_InvalidCapacity ?sp_c ?tk_c ?ha_InvalidNumber ?mo_InvalidNumber ?ha_InvalidCapacity ?mo_InvalidCapacity
    (case a0 => k_is); (case l0 => k_is); (case c0 => k_is); (case k0 => k_is); (case a1 => k_is); (case l1 => k_is); (case c1 => k_is); (case k1 => k_is); (case a2 => k_is); (case l2 => k_is); (case c2 => k_is); (case k2 => k_is); (case a3 => k_is); (case l3 => k_is); (case c3 => k_is); (case k3 => k_is); (case a4 => k_is); (case l4 => k_is); (case c4 => k_is); (case k4 => k_is); (case a5 => k_is); (case l5 => k_is); (case c5 => k_is); (case k5 => k_is); (case a6 => k_is); (case l6 => k_is); (case c6 => k_is); (case k6 => k_is); (case a7 => k_is); (case l7 => k_is); (case c7 => k_is); (case k7 => k_is); (case a8 => k_is); (case l8 => k_is); (case c8 => k_is); (case k8 => k_is); (case a9 => k_is); (case l9 => k_is); (case c9 => k_is); (case k9 => k_is); (case a10 => k_is); (case l10 => k_is); (case c10 => k_is); (case k10 => k_is); (case z_len => k_is); (case z_tuple => k_is); (case z_range => k_is); (case z_int => k_is); (case z_max => k_is); (case z_min => k_is); (case z_sorted => k_is); (case z_repr => k_is); (case z_isinstance => k_is); (case z_bool => k_is); (case n_InvalidNumber => k_is); (case n_InvalidCapacity => k_is); (case n_WireError => k_is); (case sb_InvalidNumber => k_is); (case ty_InvalidNumber => k_is); (case sb_InvalidCapacity => k_is); (case ty_InvalidCapacity => k_is); (case sb_WireError => k_is); (case ty_WireError => k_is); (case x_InvalidNumber => k_exc); (case kp_InvalidNumber => k_is); (case x_InvalidCapacity => k_exc); (case kp_InvalidCapacity => k_is); (case ic_WireError => k_is); (case m_InvalidNumber_WireError => k_is); (case m_InvalidCapacity_WireError => k_is); (case n_InvalidIndex => k_is); (case ty_InvalidIndex => k_is); (case ic_InvalidIndex => k_is); (case sf_InvalidIndex => k_is); (case m_InvalidNumber_InvalidIndex => k_is); (case m_InvalidCapacity_InvalidIndex => k_is); (case n_InvalidText => k_is); (case ty_InvalidText => k_is); (case ic_InvalidText => k_is); (case sf_InvalidText => k_is); (case m_InvalidNumber_InvalidText => k_is); (case m_InvalidCapacity_InvalidText => k_is); (case ic_InvalidNumber => k_is); (case sf_InvalidNumber => k_is); (case m_InvalidNumber_InvalidNumber => k_is); (case m_InvalidCapacity_InvalidNumber => k_is); (case ic_InvalidCapacity => k_is); (case sf_InvalidCapacity => k_is); (case m_InvalidNumber_InvalidCapacity => k_is); (case m_InvalidCapacity_InvalidCapacity => k_is); (case z_ValueError => k_is); (case m_InvalidNumber_ValueError => k_is); (case m_InvalidCapacity_ValueError => k_is); (case ga_InvalidNumber => k_is); (case gg_InvalidNumber => k_is); (case hd_InvalidNumber => k_is); (case ga_InvalidCapacity => k_is); (case gg_InvalidCapacity => k_is); (case hd_InvalidCapacity => k_is); (case sp_c => k_is); (case tk_c => k_is); (case ha_InvalidNumber => k_is); (case mo_InvalidNumber => k_is); (case ha_InvalidCapacity => k_is); (case mo_InvalidCapacity => k_is)
