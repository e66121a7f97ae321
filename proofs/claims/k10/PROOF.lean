import PyProof.Rows.All
import Wide.All
import OpenK.AllK
import Wide.FinOn
import HandS.ForMost
import HandS.WordsExc
import HandS.TryOnly
import HandS.TupAny
import HandS.TupMul
import HandS.Deep
import HandS.Codes
import HandS.More
import HandS.IsInst
import HandS.Wide
import HandS.StrMore
import HandS.NoneIn
import HandS.EndBits
import HandS.SetFor
import HandS.Conv
import HandS.SortInts
import HandS.Zip
import PyProof.TypeEq
import HandS.Small
import KE.DatumOrd
import HandS.Style
import KE.SortData
import PyProof.ListStr
import KE.GoesSet
import HandS.Strs
import HandS.DictComp
import HandS.Text
import PyProof.StrLawsRepr
import PySem.Challenge.RW_fdwires_k10_normal_forms
/-! Mi1.lean -/
set_option Elab.async false
set_option linter.all false
set_option maxRecDepth 100000
/-! A small functional reading of Python: frozen data, mutable objects held by one name, borrowed objects. -/
namespace Mi
open PySem L2 PySem.Spec PyProof.Rows

inductive Ob where
  | lst (ds : List PyData)
  | dct (kvs : List (Key × PyData))
  /-- a dict that is walked -/
  | fdc (kvs : List (Key × PyData))
inductive Sl where
  | val (d : PyData)
  | own (o : Ob)
  | bor (k : Nat)
inductive Bo where
  | live (o : Ob)
  | dead (d : PyData)
structure En where
  vs : List (Option Sl)
  os : List Bo
inductive Lo where
  | slot (i : Nat)
  | obj (k : Nat)
  deriving DecidableEq
inductive Rv where
  | val (d : PyData)
  | own (o : Ob)
  | at (l : Lo)
structure Exc where
  cls : Str
  flds : List (Str × PyData)
inductive Res (α : Type) where
  | ok (a : α) (r : En)
  | ex (e : Exc) (r : En)
  | no
def M (α : Type) := En → Res α
def M.ret {α : Type} (a : α) : M α := fun r => .ok a r
def M.bnd {α β : Type} (f : M α) (g : α → M β) : M β := fun r =>
  match f r with
  | .ok a r1 => g a r1
  | .ex e r1 => .ex e r1
  | .no => .no
def M.stop {α : Type} : M α := fun _ => .no

/-! ### relations -/
variable (K : PySem.W.Frag)
def immu : HO → Bool
  | .tup _ => true
  | .frz _ _ => true
  | _ => false
def KLst (a : Addr) (xs : List V) : Prop :=
  ∃ (its : List Value) (n : Nat), K.lookup a = some { cls := .type "list", data := .seq its.toArray n } ∧ its.length ≤ sizeLine ∧ Vals xs its
theorem KLst.sq {K : PySem.W.Frag} {H : Hp} {a : Addr} {xs : List V} (h : KLst K a xs) : SqL K H a xs := by
  obtain ⟨its, n, h1, h2, h3⟩ := h
  exact .inr ⟨_, _, _, h1, rfl, rfl, rfl, by simpa using h2, by simpa using h3⟩
mutual
inductive Fr (H : Hp) (F : Addr → Prop) : V → PyData → Prop
  | non : Fr H F .non .none
  | bl (b : Bool) : Fr H F (.bl b) (.bool b)
  | int (i : Int) : Fr H F (.int i) (.int i)
  | str (x : Str) : Fr H F (.str x) (.str x)
  | own {a : Addr} {xs : List V} {ds : List PyData} : F a → H a = some (.lst xs) → FrAll H F xs ds → Fr H F (.ref a) (.list ds)
  | frz {a : Addr} {o : Obj} {xs : List V} {ds : List PyData} : H a = some (.frz o (.lst xs)) → FrAll H F xs ds → Fr H F (.ref a) (.list ds)
  | klst {a : Addr} {xs : List V} {ds : List PyData} : KLst K a xs → FrAll H F xs ds → Fr H F (.ref a) (.list ds)
  | tup {a : Addr} {xs : List V} {ds : List PyData} : SqT K H a xs → FrAll H F xs ds → Fr H F (.ref a) (.tuple ds)
inductive FrAll (H : Hp) (F : Addr → Prop) : List V → List PyData → Prop
  | nil : FrAll H F [] []
  | cons {v : V} {vs : List V} {d : PyData} {ds : List PyData} : Fr H F v d → FrAll H F vs ds → FrAll H F (v :: vs) (d :: ds)
end
/-- what stays for frozen data -/
structure Stay (H : Hp) (F : Addr → Prop) (H' : Hp) (F' : Addr → Prop) : Prop where
  fz : ∀ a, F a → F' a
  ffz : ∀ a, F a → H' a = H a
  imm : ∀ a o, H a = some o → immu o = true → H' a = some o
theorem Stay.refl {H : Hp} {F : Addr → Prop} : Stay H F H F := ⟨fun _ h => h, fun _ _ => rfl, fun _ _ h _ => h⟩
theorem Stay.trans {H H1 H2 : Hp} {F F1 F2 : Addr → Prop} (a : Stay H F H1 F1) (b : Stay H1 F1 H2 F2) : Stay H F H2 F2 :=
  ⟨fun x h => b.fz x (a.fz x h), fun x h => (b.ffz x (a.fz x h)).trans (a.ffz x h), fun x o h i => b.imm x o (a.imm x o h i) i⟩
variable {K}
theorem sqt_stay {H H' : Hp} {F F' : Addr → Prop} (s : Stay H F H' F') {a : Addr} {xs : List V} (h : SqT K H a xs) : SqT K H' a xs := by
  rcases h with (h | ⟨o, h⟩) | h
  · exact .inl (.inl (s.imm _ _ h rfl))
  · exact .inl (.inr ⟨o, s.imm _ _ h rfl⟩)
  · exact .inr h
mutual
theorem Fr.stay {H H' : Hp} {F F' : Addr → Prop} (s : Stay H F H' F') : ∀ {v : V} {d : PyData}, Fr K H F v d → Fr K H' F' v d
  | _, _, .non => .non
  | _, _, .bl b => .bl b
  | _, _, .int i => .int i
  | _, _, .str x => .str x
  | _, _, .own h1 h2 h3 => .own (s.fz _ h1) ((s.ffz _ h1).trans h2) (FrAll.stay s h3)
  | _, _, .frz h1 h3 => .frz (s.imm _ _ h1 rfl) (FrAll.stay s h3)
  | _, _, .klst h1 h3 => .klst h1 (FrAll.stay s h3)
  | _, _, .tup h1 h3 => .tup (sqt_stay s h1) (FrAll.stay s h3)
theorem FrAll.stay {H H' : Hp} {F F' : Addr → Prop} (s : Stay H F H' F') : ∀ {v : List V} {d : List PyData}, FrAll K H F v d → FrAll K H' F' v d
  | _, _, .nil => .nil
  | _, _, .cons h1 h2 => .cons (Fr.stay s h1) (FrAll.stay s h2)
end
mutual
theorem Fr.dp {H : Hp} {F : Addr → Prop} : ∀ {v : V} {d : PyData}, Fr K H F v d → Dp K H v d
  | _, _, .non => .non
  | _, _, .bl b => .bl b
  | _, _, .int i => .int i
  | _, _, .str x => .str x
  | _, _, .own h1 h2 h3 => .lst (.inl (.inl h2)) (FrAll.dp h3)
  | _, _, .frz h1 h3 => .lst (.inl (.inr ⟨_, h1⟩)) (FrAll.dp h3)
  | _, _, .klst h1 h3 => .lst h1.sq (FrAll.dp h3)
  | _, _, .tup h1 h3 => .tup h1 (FrAll.dp h3)
theorem FrAll.dp {H : Hp} {F : Addr → Prop} : ∀ {v : List V} {d : List PyData}, FrAll K H F v d → DpAll K H v d
  | _, _, .nil => .nil
  | _, _, .cons h1 h2 => .cons (Fr.dp h1) (FrAll.dp h2)
end
theorem FrAll.len {H : Hp} {F : Addr → Prop} : ∀ {v : List V} {d : List PyData}, FrAll K H F v d → v.length = d.length
  | _, _, .nil => rfl
  | _, _, .cons _ h => by simp [FrAll.len h]
theorem FrAll.app {H : Hp} {F : Addr → Prop} : ∀ {v w : List V} {d e : List PyData}, FrAll K H F v d → FrAll K H F w e → FrAll K H F (v ++ w) (d ++ e)
  | _, _, _, _, .nil, h => h
  | _, _, _, _, .cons h1 h2, h => .cons h1 (FrAll.app h2 h)
theorem FrAll.get {H : Hp} {F : Addr → Prop} : ∀ {v : List V} {d : List PyData} {i : Nat} {e : PyData}, FrAll K H F v d → d[i]? = some e → ∃ x, v[i]? = some x ∧ Fr K H F x e
  | _, _, _, _, .nil, h => by simp at h
  | _, _, 0, _, .cons h1 h2, h => by simp at h; subst h; exact ⟨_, rfl, h1⟩
  | _, _, i + 1, _, .cons h1 h2, h => by
    obtain ⟨x, q, r⟩ := FrAll.get (i := i) h2 (by simpa using h)
    exact ⟨x, by simpa using q, r⟩
theorem FrAll.set {H : Hp} {F : Addr → Prop} {x : V} {e : PyData} (hx : Fr K H F x e) : ∀ {v : List V} {d : List PyData} (i : Nat), FrAll K H F v d → FrAll K H F (v.set i x) (d.set i e)
  | _, _, _, .nil => .nil
  | _, _, 0, .cons h1 h2 => .cons hx h2
  | _, _, i + 1, .cons h1 h2 => .cons h1 (FrAll.set hx i h2)
theorem FrAll.take {H : Hp} {F : Addr → Prop} : ∀ {v : List V} {d : List PyData} (n : Nat), FrAll K H F v d → FrAll K H F (v.take n) (d.take n)
  | _, _, _, .nil => by simp; exact .nil
  | _, _, 0, .cons _ _ => .nil
  | _, _, n + 1, .cons h1 h2 => .cons h1 (FrAll.take n h2)
theorem FrAll.drop {H : Hp} {F : Addr → Prop} : ∀ {v : List V} {d : List PyData} (n : Nat), FrAll K H F v d → FrAll K H F (v.drop n) (d.drop n)
  | _, _, _, .nil => by simp; exact .nil
  | _, _, 0, .cons h1 h2 => .cons h1 h2
  | _, _, n + 1, .cons h1 h2 => FrAll.drop n h2
theorem FrAll.erase {H : Hp} {F : Addr → Prop} : ∀ {v : List V} {d : List PyData} (n : Nat), FrAll K H F v d → FrAll K H F (v.eraseIdx n) (d.eraseIdx n)
  | _, _, _, .nil => by simp; exact .nil
  | _, _, 0, .cons _ h2 => h2
  | _, _, n + 1, .cons h1 h2 => .cons h1 (FrAll.erase n h2)
theorem FrAll.rev {H : Hp} {F : Addr → Prop} : ∀ {v : List V} {d : List PyData}, FrAll K H F v d → FrAll K H F v.reverse d.reverse
  | _, _, .nil => .nil
  | _, _, .cons h1 h2 => by simp only [List.reverse_cons]; exact FrAll.app (FrAll.rev h2) (.cons h1 .nil)

/-- an object's content -/
def ObR (K : PySem.W.Frag) (H : Hp) (F : Addr → Prop) : Ob → HO → Prop
  | .lst ds, u => ∃ xs, u = .lst xs ∧ FrAll K H F xs ds
  | .dct kvs, u => ∃ ps, u = .dK ps ∧ Paired (fun (p : Key × V) (q : Key × PyData) => p.1 = q.1 ∧ Fr K H F p.2 q.2) ps kvs
  | .fdc kvs, u => ∃ o ps, u = .frz o (.dK ps) ∧ Paired (fun (p : Key × V) (q : Key × PyData) => p.1 = q.1 ∧ Fr K H F p.2 q.2) ps kvs
theorem paired_imp {α β : Type} {P Q : α → β → Prop} (h : ∀ a b, P a b → Q a b) : ∀ {xs : List α} {ys : List β}, Paired P xs ys → Paired Q xs ys
  | _, _, .nil => .nil
  | _, _, .cons a b => .cons (h _ _ a) (paired_imp h b)
theorem ObR.stay {H H' : Hp} {F F' : Addr → Prop} (s : Stay H F H' F') {o : Ob} {u : HO} (h : ObR K H F o u) : ObR K H' F' o u := by
  cases o with
  | lst ds => obtain ⟨xs, e, h⟩ := h; exact ⟨xs, e, h.stay s⟩
  | dct kvs => obtain ⟨ps, e, h⟩ := h; exact ⟨ps, e, paired_imp (fun a b q => ⟨q.1, q.2.stay s⟩) h⟩
  | fdc kvs => obtain ⟨o, ps, e, h⟩ := h; exact ⟨o, ps, e, paired_imp (fun a b q => ⟨q.1, q.2.stay s⟩) h⟩
theorem ObR.mut {H : Hp} {F : Addr → Prop} {o : Ob} {u : HO} (h : ObR K H F o u) (n : ∀ kvs, o ≠ .fdc kvs) : immu u = false := by
  cases o with
  | fdc kvs => exact absurd rfl (n kvs)
  | lst ds => obtain ⟨xs, e, h⟩ := h; subst e; rfl
  | dct kvs => obtain ⟨ps, e, h⟩ := h; subst e; rfl

/-! ### where objects are held -/
def Holds (α : List Addr) (r : En) (σ : L2.St) : Lo → Addr → Prop
  | .slot i, a => (∃ o, r.vs[i]? = some (some (.own o))) ∧ σ[i]? = some (some (.ref a))
  | .obj k, a => (∃ o, r.os[k]? = some (.live o)) ∧ α[k]? = some a
def LoAt (α : List Addr) (σ : L2.St) : Lo → Addr → Prop
  | .slot i, a => σ[i]? = some (some (V.ref a))
  | .obj k, a => α[k]? = some a
theorem Holds.lo {α : List Addr} {r : En} {σ : L2.St} : ∀ {l : Lo} {a : Addr}, Holds α r σ l a → LoAt α σ l a
  | .slot _, _, h => h.2
  | .obj _, _, h => h.2
def Own (α : List Addr) (r : En) (σ : L2.St) (a : Addr) : Prop := ∃ l, Holds α r σ l a
def SlR (K : PySem.W.Frag) (α : List Addr) (H : Hp) (F : Addr → Prop) : Sl → V → Prop
  | .val d, v => Fr K H F v d
  | .own o, v => ∃ a u, v = .ref a ∧ H a = some u ∧ ObR K H F o u
  | .bor k, v => ∃ a, v = .ref a ∧ α[k]? = some a
def BoR (K : PySem.W.Frag) (H : Hp) (F : Addr → Prop) : Bo → Addr → Prop
  | .live o, a => ∃ u, H a = some u ∧ ObR K H F o u
  | .dead d, a => Fr K H F (.ref a) d
structure SR (K : PySem.W.Frag) (α : List Addr) (r : En) (σ : L2.St) (H : Hp) (F : Addr → Prop) : Prop where
  len : r.vs.length = σ.length
  slot : ∀ (i : Nat) (s : Sl), r.vs[i]? = some (some s) → ∃ v : V, σ[i]? = some (some v) ∧ SlR K α H F s v
  obj : ∀ (k : Nat) (b : Bo), r.os[k]? = some b → ∃ a, α[k]? = some a ∧ BoR K H F b a
  apart : ∀ l l' a, Holds α r σ l a → Holds α r σ l' a → l = l'
  sep : ∀ l a, Holds α r σ l a → ¬ F a
  fdom : ∀ a, F a → ∃ u, H a = some u
/-- a result -/
def TR (K : PySem.W.Frag) (α : List Addr) (r : En) (σ : L2.St) (H : Hp) (F : Addr → Prop) : Rv → V → Prop
  | .val d, v => Fr K H F v d
  | .own o, v => ∃ a u, v = .ref a ∧ H a = some u ∧ ObR K H F o u ∧ ¬ F a ∧ ¬ Own α r σ a
  | .at l, v => ∃ a, v = .ref a ∧ LoAt α σ l a
/-- the objects that a step may touch: O before, O' behind -/
structure Step (O : Addr → Prop) (H : Hp) (F : Addr → Prop) (H' : Hp) (F' : Addr → Prop) (O' : Addr → Prop) : Prop where
  keep : ∀ a o, H a = some o → ¬ O a → H' a = some o
  stay : Stay H F H' F'
  nfz : ∀ a, F' a → F a ∨ O a ∨ H a = none
  own : ∀ a, O' a → O a ∨ H a = none
  dom : ∀ a, H' a = none → H a = none
section
variable {O O1 O1' O2 O' : Addr → Prop} {H H1 H2 : Hp} {F F1 F2 : Addr → Prop}
theorem Step.refl (h : ∀ a, O' a → O a) : Step O H F H F O' := ⟨fun _ _ h _ => h, .refl, fun _ h => .inl h, fun a h' => .inl (h a h'), fun _ h => h⟩
theorem Step.trans (a : Step O H F H1 F1 O1) (b : Step O1' H1 F1 H2 F2 O2) (h1 : ∀ a, O1' a → O1 a) : Step O H F H2 F2 O2 where
  keep := fun x o h n => b.keep x o (a.keep x o h n) fun z => (a.own x (h1 x z)).elim n fun e => by rw [h] at e; cases e
  stay := a.stay.trans b.stay
  nfz := fun x h => by
    rcases b.nfz x h with h | h | h
    · exact a.nfz x h
    · exact .inr (a.own x (h1 x h))
    · exact .inr (.inr (a.dom x h))
  own := fun x h => by
    rcases b.own x h with h | h
    · exact a.own x (h1 x h)
    · exact .inr (a.dom x h)
  dom := fun x h => a.dom x (b.dom x h)
theorem Step.more (a : Step O H F H1 F1 O1) (h : ∀ x, O2 x → O1 x) : Step O H F H1 F1 O2 := ⟨a.keep, a.stay, a.nfz, fun x q => a.own x (h x q), a.dom⟩
end
/-- the objects of a state and of a result -/
def OwnT (α : List Addr) (r : En) (σ : L2.St) (x : Rv) (v : V) (a : Addr) : Prop := Own α r σ a ∨ ((∃ o, x = .own o) ∧ v = .ref a)

/-! ### what an evaluator's result wants -/
/-- an exception: its class by name, its fields -/
def ExR (K : PySem.W.Frag) (H : Hp) (F : Addr → Prop) (x : Exc) (cls : Value) (d : Option Addr) : Prop :=
  PySem.W.nsIn K mainGlobals x.cls = some (some cls) ∧ match x.flds with
    | [] => d = none
    | fs => ∃ a ps, d = some a ∧ H a = some (.xd ps) ∧ Paired (fun (p : Str × V) (q : Str × PyData) => p.1 = q.1 ∧ Fr K H F p.2 q.2) ps fs
/-- nothing is let out -/
abbrev W0 : L2.WX := fun _ _ _ _ => False
def AftX (K : PySem.W.Frag) (α : List Addr) (σ : L2.St) (O : Addr → Prop) (H : Hp) (F : Addr → Prop) (W : L2.WX) (x : Exc) (e : En) : Prop := ∀ cls d H' F', SR K α e σ H' F' → Step O H F H' F' (Own α e σ) → ExR K H' F' x cls d → W cls d σ H'
theorem AftX.step {K : PySem.W.Frag} {α : List Addr} {σ : L2.St} {O O1 O1' : Addr → Prop} {H H1 : Hp} {F F1 : Addr → Prop} {W : L2.WX} {x : Exc} {e : En} (h : AftX K α σ O H F W x e) (s : Step O H F H1 F1 O1) (h1 : ∀ a, O1' a → O1 a) : AftX K α σ O1' H1 F1 W x e :=
  fun cls d H' F' a b c => h cls d H' F' a (s.trans b h1) c
def Aft (K : PySem.W.Frag) (α : List Addr) (σ : L2.St) (O : Addr → Prop) (H : Hp) (F : Addr → Prop) (W : L2.WX) (x : Res Rv) (Q : VK) : Prop :=
  match x with
  | .ok r e => ∀ v H' F', SR K α e σ H' F' → Step O H F H' F' (OwnT α e σ r v) → TR K α e σ H' F' r v → Q v H'
  | .ex x e => AftX K α σ O H F W x e
  | .no => False
/-- an expression by its evaluator -/
def tE (K : PySem.W.Frag) (α : List Addr) (W : L2.WX) (f : M Rv) : TE := fun σ H Q => ∃ r F, SR K α r σ H F ∧ Aft K α σ (Own α r σ) H F W (f r) Q
theorem Aft.step {α : List Addr} {σ : L2.St} {O O1 O1' : Addr → Prop} {H H1 : Hp} {F F1 : Addr → Prop} {W : L2.WX} {x : Res Rv} {Q : VK} (h : Aft K α σ O H F W x Q) (s : Step O H F H1 F1 O1) (h1 : ∀ a, O1' a → O1 a) : Aft K α σ O1' H1 F1 W x Q := by
  cases x with
  | ok r e => exact fun v H' F' a b c => h v H' F' a (s.trans b h1) c
  | ex x e => exact AftX.step h s h1
  | no => exact h
theorem TR.step {α : List Addr} {r r' : En} {σ : L2.St} {H H' : Hp} {F F' : Addr → Prop} {O' : Addr → Prop} {x : Rv} {v : V} (h : TR K α r σ H F x v) (s : Step (Own α r σ) H F H' F' O') (ho : ∀ a, Own α r' σ a → O' a) : TR K α r' σ H' F' x v := by
  cases x with
  | val d => exact Fr.stay s.stay h
  | own o =>
    obtain ⟨a, u, e, hH, hO, hF, hN⟩ := h
    refine ⟨a, u, e, s.keep a u hH hN, hO.stay s.stay, fun z => ?_, fun z => ?_⟩
    · rcases s.nfz a z with z | z | z
      · exact hF z
      · exact hN z
      · rw [hH] at z; cases z
    · rcases s.own a (ho a z) with z | z
      · exact hN z
      · rw [hH] at z; cases z
  | «at» l => exact h
/-- first f, then g -/
theorem tE_bnd {α : List Addr} {r : En} {σ : L2.St} {H : Hp} {F : Addr → Prop} {f : M Rv} {g : Rv → M Rv} {Q : VK} (S : SR K α r σ H F) (h : Aft K α σ (Own α r σ) H F W (M.bnd f g r) Q) :
    tE K α W f σ H fun v H1 => ∃ r1 F1 x, SR K α r1 σ H1 F1 ∧ Step (Own α r σ) H F H1 F1 (OwnT α r1 σ x v) ∧ TR K α r1 σ H1 F1 x v ∧ Aft K α σ (Own α r1 σ) H1 F1 W (g x r1) Q := by
  refine ⟨r, F, S, ?_⟩
  unfold M.bnd at h
  cases e : f r with
  | ok x r1 =>
    rw [e] at h
    exact fun v H1 F1 a b c => ⟨r1, F1, x, a, b, c, h.step b fun _ z => .inl z⟩
  | ex x r1 => rw [e] at h; exact h
  | no => rw [e] at h; exact h.elim
theorem tE_mono {α : List Addr} {σ : L2.St} {H : Hp} {f : M Rv} {Q Q' : VK} (h : tE K α W f σ H Q) (q : ∀ v H1, Q v H1 → Q' v H1) : tE K α W f σ H Q' := by
  obtain ⟨r, F, S, a⟩ := h
  refine ⟨r, F, S, ?_⟩
  cases e : f r with
  | ok x r1 => rw [e] at a; exact fun v H1 F1 b c d => q _ _ (a v H1 F1 b c d)
  | ex x r1 => rw [e] at a; exact a
  | no => rw [e] at a; exact a
theorem pe_weak {X : Cx} {e : Expr} {t t' : TE} (h : PE X e t) (w : ∀ σ H Q, t' σ H Q → t σ H Q) : PE X e t' := ⟨fun pins s σ H Q I q => h.run pins s σ H Q I (w σ H Q q)⟩
theorem ps_weak {X : Cx} {e : Stmt} {t t' : TS} (h : PS X e t) (w : ∀ D σ H, t' D σ H → t D σ H) : PS X e t' := ⟨fun pins s σ H D I q => h.run pins s σ H D I (w D σ H q)⟩
theorem pss_weak {X : Cx} {e : List Stmt} {t t' : TS} (h : PSs X e t) (w : ∀ D σ H, t' D σ H → t D σ H) : PSs X e t' := ⟨fun pins s σ H D I q => h.run pins s σ H D I (w D σ H q)⟩
end Mi

/-! Mi2.lean -/
set_option Elab.async false
set_option linter.all false
set_option maxRecDepth 100000
namespace Mi
open PySem L2 PySem.Spec PyProof.Rows
variable {K : PySem.W.Frag} {α : List Addr} {r r' : En} {σ : L2.St} {H H' : Hp} {F F' : Addr → Prop}

/-! ### content -/
def look (r : En) : Lo → Option Bo
  | .slot i => match r.vs[i]? with
    | some (some (.own o)) => some (.live o)
    | some (some (.val d)) => some (.dead d)
    | _ => none
  | .obj k => r.os[k]?
def content (r : En) : Rv → Option Bo
  | .val d => some (.dead d)
  | .own o => some (.live o)
  | .at l => look r l
def Bo.data : Bo → Option PyData
  | .live (.lst ds) => some (.list ds)
  | .dead d => some d
  | _ => none
def peek (r : En) (x : Rv) : Option PyData := (content r x).bind Bo.data
def CR (K : PySem.W.Frag) (H : Hp) (F : Addr → Prop) : Bo → V → Prop
  | .live o, v => ∃ a u, v = .ref a ∧ H a = some u ∧ ObR K H F o u
  | .dead d, v => Fr K H F v d
theorem content_rel (S : SR K α r σ H F) {x : Rv} {v : V} {b : Bo} (t : TR K α r σ H F x v) (e : content r x = some b) : CR K H F b v := by
  cases x with
  | val d => cases e; exact t
  | own o => cases e; obtain ⟨a, u, h1, h2, h3, _⟩ := t; exact ⟨a, u, h1, h2, h3⟩
  | «at» l =>
    obtain ⟨a, rfl, h⟩ := t
    cases l with
    | slot i =>
      unfold content look at e
      simp only at e
      split at e
      · rename_i o q
        cases e
        obtain ⟨v, h1, a', u, h2, h3, h4⟩ := S.slot _ _ q
        have hh : σ[i]? = some (some (V.ref a)) := h
        rw [h1] at hh; cases hh; cases h2
        exact ⟨a, u, rfl, h3, h4⟩
      · rename_i d q
        cases e
        obtain ⟨v, h1, h2⟩ := S.slot _ _ q
        have hh : σ[i]? = some (some (V.ref a)) := h
        rw [h1] at hh; cases hh
        exact h2
      · cases e
    | obj k =>
      have e' : r.os[k]? = some b := e
      obtain ⟨a', h1, h2⟩ := S.obj _ _ e'
      have hh : α[k]? = some a := h
      rw [h1] at hh; cases hh
      cases b with
      | live o => obtain ⟨u, h3, h4⟩ := h2; exact ⟨a, u, rfl, h3, h4⟩
      | dead d => exact h2
/-- the value v holds the data d, now -/
def Pk (K : PySem.W.Frag) (H : Hp) (F : Addr → Prop) (v : V) (d : PyData) : Prop := ∃ b, CR K H F b v ∧ b.data = some d
theorem peek_rel (S : SR K α r σ H F) {x : Rv} {v : V} {d : PyData} (t : TR K α r σ H F x v) (e : peek r x = some d) : Pk K H F v d := by
  unfold peek at e
  cases c : content r x with
  | none => rw [c] at e; cases e
  | some b => rw [c] at e; exact ⟨b, content_rel S t c, e⟩
theorem Pk.fr {v : V} {d : PyData} (h : Fr K H F v d) : Pk K H F v d := ⟨.dead d, h, rfl⟩
/-- a list that may be read -/
def Lx (K : PySem.W.Frag) (H : Hp) (a : Addr) (xs : List V) : Prop := Rd H a (.lst xs) ∨ KLst K a xs
theorem Lx.sq {a : Addr} {xs : List V} (h : Lx K H a xs) : SqL K H a xs := h.elim .inl fun h => h.sq
theorem Fr.lx {v : V} {ds : List PyData} (h : Fr K H F v (.list ds)) : ∃ a xs, v = .ref a ∧ Lx K H a xs ∧ FrAll K H F xs ds := by
  cases h with
  | own h1 h2 h3 => exact ⟨_, _, rfl, .inl (.inl h2), h3⟩
  | frz h1 h3 => exact ⟨_, _, rfl, .inl (.inr ⟨_, h1⟩), h3⟩
  | klst h1 h3 => exact ⟨_, _, rfl, .inr h1, h3⟩
theorem Pk.lx {v : V} {ds : List PyData} (h : Pk K H F v (.list ds)) : ∃ a xs, v = .ref a ∧ Lx K H a xs ∧ FrAll K H F xs ds := by
  obtain ⟨b, h, e⟩ := h
  cases b with
  | live o =>
    cases o with
    | lst es =>
      cases e
      obtain ⟨a, u, h1, h2, xs, h3, h4⟩ := h
      subst h3
      exact ⟨a, xs, h1, .inl (.inl h2), h4⟩
    | dct _ => cases e
    | fdc _ => cases e
  | dead d => cases e; exact Fr.lx h
theorem Pk.list {v : V} {ds : List PyData} (h : Pk K H F v (.list ds)) : ∃ a xs, v = .ref a ∧ SqL K H a xs ∧ FrAll K H F xs ds := by
  obtain ⟨a, xs, h1, h2, h3⟩ := h.lx
  exact ⟨a, xs, h1, h2.sq, h3⟩
theorem Pk.dead {v : V} {d : PyData} (h : Pk K H F v d) (n : ∀ ds, d ≠ .list ds) : Fr K H F v d := by
  obtain ⟨b, h, e⟩ := h
  cases b with
  | live o =>
    cases o with
    | lst es => cases e; exact absurd rfl (n es)
    | dct _ => cases e
    | fdc _ => cases e
  | dead d => cases e; exact h
theorem Pk.tup {v : V} {ds : List PyData} (h : Pk K H F v (.tuple ds)) : ∃ a xs, v = .ref a ∧ SqT K H a xs ∧ FrAll K H F xs ds := by
  have h := h.dead fun _ => nofun
  cases h with
  | tup h1 h2 => exact ⟨_, _, rfl, h1, h2⟩
theorem Pk.int {v : V} {i : Int} (h : Pk K H F v (.int i)) : v = .int i := by
  have h := h.dead fun _ => nofun
  cases h; rfl
theorem Pk.str {v : V} {i : Str} (h : Pk K H F v (.str i)) : v = .str i := by
  have h := h.dead fun _ => nofun
  cases h; rfl
theorem Pk.bl {v : V} {i : Bool} (h : Pk K H F v (.bool i)) : v = .bl i := by
  have h := h.dead fun _ => nofun
  cases h; rfl
theorem Pk.non {v : V} (h : Pk K H F v .none) : v = .non := by
  have h := h.dead fun _ => nofun
  cases h; rfl
theorem Pk.dp {v : V} {d : PyData} (h : Pk K H F v d) : Dp K H v d := by
  cases d with
  | list ds => obtain ⟨a, xs, rfl, h1, h2⟩ := h.list; exact .lst h1 h2.dp
  | _ => exact (h.dead fun _ => nofun).dp

/-! ### ends of an evaluation -/
theorem Holds.has (S : SR K α r σ H F) {l : Lo} {a : Addr} (h : Holds α r σ l a) : ∃ o u, H a = some u ∧ ObR K H F o u := by
  cases l with
  | slot i =>
    obtain ⟨⟨o, q⟩, h2⟩ := h
    obtain ⟨v, h1, a', u, h3, h4, h5⟩ := S.slot _ _ q
    rw [h1] at h2; cases h2; cases h3
    exact ⟨o, u, h4, h5⟩
  | obj k =>
    obtain ⟨⟨o, q⟩, h2⟩ := h
    obtain ⟨a', h1, u, h3, h4⟩ := S.obj _ _ q
    rw [h1] at h2; cases h2
    exact ⟨o, u, h3, h4⟩
theorem stay_new (S : SR K α r σ H F) {p : Addr} (o : HO) (hp : H p = none) : Stay H F (upd H p o) F :=
  ⟨fun _ h => h, fun a h => upd_ne (fun e => by obtain ⟨u, q⟩ := S.fdom a h; rw [e, hp] at q; cases q), fun a u h _ => by rw [upd_ne (ne_of_none h hp)]; exact h⟩
/-- a state over a heap that keeps what it leans on -/
theorem SR.over (S : SR K α r σ H F) (s : Stay H F H' F') (ho : ∀ a, Own α r σ a → H' a = H a) (hf : ∀ a, Own α r σ a → ¬ F' a) (hd : ∀ a, F' a → ∃ u, H' a = some u) : SR K α r σ H' F' where
  len := S.len
  slot := fun i x q => by
    obtain ⟨v, h1, h2⟩ := S.slot i x q
    refine ⟨v, h1, ?_⟩
    cases x with
    | val d => exact Fr.stay s h2
    | own o =>
      obtain ⟨a, u, rfl, h3, h4⟩ := h2
      exact ⟨a, u, rfl, (ho a ⟨.slot i, ⟨o, q⟩, h1⟩).trans h3, h4.stay s⟩
    | bor k => exact h2
  obj := fun k b q => by
    obtain ⟨a, h1, h2⟩ := S.obj k b q
    refine ⟨a, h1, ?_⟩
    cases b with
    | live o =>
      obtain ⟨u, h3, h4⟩ := h2
      exact ⟨u, (ho a ⟨.obj k, ⟨o, q⟩, h1⟩).trans h3, h4.stay s⟩
    | dead d => exact Fr.stay s h2
  apart := S.apart
  sep := fun l a h => hf a ⟨l, h⟩
  fdom := hd
theorem SR.new (S : SR K α r σ H F) {p : Addr} (o : HO) (hp : H p = none) : SR K α r σ (upd H p o) F :=
  S.over (stay_new S o hp) (fun a ⟨l, h⟩ => by obtain ⟨_, u, q, _⟩ := h.has S; exact upd_ne (ne_of_none q hp)) (fun a ⟨l, h⟩ => S.sep l a h)
    fun a h => by obtain ⟨u, q⟩ := S.fdom a h; exact ⟨u, by rw [upd_ne (ne_of_none q hp)]; exact q⟩
theorem notOwn_new (S : SR K α r σ H F) {p : Addr} (hp : H p = none) : ¬ Own α r σ p := fun ⟨l, h⟩ => by
  obtain ⟨_, u, q, _⟩ := h.has S
  rw [hp] at q; cases q
theorem notF_new (S : SR K α r σ H F) {p : Addr} (hp : H p = none) : ¬ F p := fun h => by
  obtain ⟨u, q⟩ := S.fdom p h
  rw [hp] at q; cases q
theorem step_new (S : SR K α r σ H F) {p : Addr} (o : HO) (hp : H p = none) {O' : Addr → Prop} (h : ∀ a, O' a → Own α r σ a ∨ a = p) : Step (Own α r σ) H F (upd H p o) F O' where
  keep := fun a u q _ => by rw [upd_ne (ne_of_none q hp)]; exact q
  stay := stay_new S o hp
  nfz := fun a h => .inl h
  own := fun a q => (h a q).elim .inl fun e => .inr (e ▸ hp)
  dom := fun a q => by
    by_cases e : a = p
    · exact e ▸ hp
    · rwa [upd_ne e] at q
/-- how an evaluation may end where nothing that stood has changed -/
structure Fin (K : PySem.W.Frag) (H : Hp) (F : Addr → Prop) (z : Rv) (Q : VK) : Prop where
  val : ∀ d v, z = .val d → Fr K H F v d → Q v H
  new : ∀ ds xs p, z = .own (.lst ds) → H p = none → FrAll K H F xs ds → Q (.ref p) (upd H p (.lst xs))
  dct : ∀ p, z = .own (.dct []) → H p = none → Q (.ref p) (upd H p (.dK []))
  tup : ∀ ds xs p, z = .val (.tuple ds) → H p = none → FrAll K H F xs ds → Q (.ref p) (upd H p (.tup xs))
theorem Aft.fin (S : SR K α r σ H F) {z : Rv} {W : L2.WX} {Q : VK} (h : Aft K α σ (Own α r σ) H F W (.ok z r) Q) : Fin K H F z Q where
  val := fun d v e q => by
    subst e
    exact h v H F S (Step.refl fun a q => q.elim id fun ⟨⟨_, z⟩, _⟩ => nomatch z) q
  new := fun ds xs p e hp q => by
    subst e
    refine h _ _ F (S.new _ hp) (step_new S _ hp fun a z => z.elim .inl fun ⟨_, z⟩ => .inr ?_) ⟨p, _, rfl, upd_same, ⟨xs, rfl, q.stay (stay_new S _ hp)⟩, notF_new S hp, notOwn_new S hp⟩
    injection z with z; exact z.symm
  dct := fun p e hp => by
    subst e
    refine h _ _ F (S.new _ hp) (step_new S _ hp fun a z => z.elim .inl fun ⟨_, z⟩ => .inr ?_) ⟨p, _, rfl, upd_same, ⟨[], rfl, .nil⟩, notF_new S hp, notOwn_new S hp⟩
    injection z with z; exact z.symm
  tup := fun ds xs p e hp q => by
    subst e
    refine h _ _ F (S.new _ hp) (step_new S _ hp fun a z => z.elim .inl fun ⟨⟨_, z⟩, _⟩ => nomatch z) ?_
    exact .tup (.inl (.inl upd_same)) (q.stay (stay_new S _ hp))

/-! ### names, constants, operators -/
def nmE (i : Nat) : M Rv := fun r =>
  match r.vs[i]? with
  | some (some (.val d)) => .ok (.val d) r
  | some (some (.own _)) => .ok (.at (.slot i)) r
  | some (some (.bor k)) => .ok (.at (.obj k)) r
  | _ => .no
def kE (d : PyData) : M Rv := fun r => .ok (.val d) r
def op2 (g : PyData → PyData → Option Rv) (x y : Rv) : M Rv := fun r =>
  match peek r x, peek r y with
  | some d, some e => match g d e with
    | some z => .ok z r
    | none => .no
  | _, _ => .no
def binE (g : PyData → PyData → Option Rv) (f h : M Rv) : M Rv := M.bnd f fun x => M.bnd h fun y => op2 g x y
def op1 (g : PyData → Option Rv) (x : Rv) : M Rv := fun r =>
  match peek r x with
  | some d => match g d with
    | some z => .ok z r
    | none => .no
  | _ => .no
def unE (g : PyData → Option Rv) (f : M Rv) : M Rv := M.bnd f fun x => op1 g x
theorem nm_ok {i : Nat} {Q : VK} (h : tE K α W (nmE i) σ H Q) : tVar i σ H Q := by
  obtain ⟨r, F, S, h⟩ := h
  unfold nmE at h
  split at h
  · rename_i d q
    obtain ⟨v, h1, h2⟩ := S.slot _ _ q
    exact ⟨v, h1, (Aft.fin S h).val d v rfl h2⟩
  · rename_i o q
    obtain ⟨v, h1, a, u, rfl, h2⟩ := S.slot _ _ q
    exact ⟨_, h1, h _ H F S (Step.refl fun a q => q.elim id fun ⟨⟨_, z⟩, _⟩ => nomatch z) ⟨a, rfl, h1⟩⟩
  · rename_i k q
    obtain ⟨v, h1, a, rfl, h2⟩ := S.slot _ _ q
    exact ⟨_, h1, h _ H F S (Step.refl fun a q => q.elim id fun ⟨⟨_, z⟩, _⟩ => nomatch z) ⟨a, rfl, h2⟩⟩
  · exact h.elim
theorem k_ok {v : V} {d : PyData} {Q : VK} (hd : ∀ H F, Fr K H F v d) (h : tE K α W (kE d) σ H Q) : tC v σ H Q := by
  obtain ⟨r, F, S, h⟩ := h
  exact (Aft.fin S h).val d v rfl (hd H F)
/-- an operator of two values by what it does to the data -/
def Op2 (K : PySem.W.Frag) (ro : R2) (g : PyData → PyData → Option Rv) : Prop :=
  ∀ (H : Hp) (F : Addr → Prop) (x y : V) (d e : PyData) (z : Rv) (Q : VK), Pk K H F x d → Pk K H F y e → g d e = some z → Fin K H F z Q → ro x y H Q
theorem tOp_ok {ro : R2} {g : PyData → PyData → Option Rv} (hs : Op2 K ro g) {fa fb : M Rv} {Q : VK} (h : tE K α W (binE g fa fb) σ H Q) : tOp ro (tE K α W fa) (tE K α W fb) σ H Q := by
  obtain ⟨r, F, S, h⟩ := h
  refine tE_mono (tE_bnd S h) fun x H1 ⟨r1, F1, x1, S1, st1, t1, h1⟩ => ?_
  refine tE_mono (tE_bnd S1 h1) fun y H2 ⟨r2, F2, x2, S2, st2, t2, h2⟩ => ?_
  have t1' := t1.step st2 fun a z => .inl z
  unfold op2 at h2
  cases e1 : peek r2 x1 with
  | none => simp only [e1] at h2; exact h2.elim
  | some d =>
    cases e2 : peek r2 x2 with
    | none => simp only [e1, e2] at h2; exact h2.elim
    | some e =>
      simp only [e1, e2] at h2
      cases e3 : g d e with
      | none => simp only [e3] at h2; exact h2.elim
      | some z =>
        simp only [e3] at h2
        exact hs H2 F2 x y d e z Q (peek_rel S2 t1' e1) (peek_rel S2 t2 e2) e3 (Aft.fin S2 h2)
def Op1 (K : PySem.W.Frag) (ro : V → Hp → VK → Prop) (g : PyData → Option Rv) : Prop :=
  ∀ (H : Hp) (F : Addr → Prop) (x : V) (d : PyData) (z : Rv) (Q : VK), Pk K H F x d → g d = some z → Fin K H F z Q → ro x H Q
theorem t1_ok {ro : V → Hp → VK → Prop} {g : PyData → Option Rv} (hs : Op1 K ro g) {fa : M Rv} {Q : VK} (h : tE K α W (unE g fa) σ H Q) : tE K α W fa σ H fun x H1 => ro x H1 Q := by
  obtain ⟨r, F, S, h⟩ := h
  refine tE_mono (tE_bnd S h) fun x H1 ⟨r1, F1, x1, S1, st1, t1, h1⟩ => ?_
  unfold op1 at h1
  cases e1 : peek r1 x1 with
  | none => simp only [e1] at h1; exact h1.elim
  | some d =>
    simp only [e1] at h1
    cases e3 : g d with
    | none => simp only [e3] at h1; exact h1.elim
    | some z =>
      simp only [e3] at h1
      exact hs H1 F1 x d z Q (peek_rel S1 t1 e1) e3 (Aft.fin S1 h1)
section
variable {X : Cx} {a b e : Expr} {fa fb f : M Rv} {pos : Pos}
theorem ev_nm (i : Nat) {x : Str} (h : PE X (.Name x pos) (tVar i)) : PE X (.Name x pos) (tE K α W (nmE i)) := pe_weak h fun _ _ _ q => nm_ok q
theorem ev_k {v : V} {d : PyData} (h : PE X e (tC v)) (hd : ∀ H F, Fr K H F v d) : PE X e (tE K α W (kE d)) := pe_weak h fun _ _ _ q => k_ok hd q
theorem ev_int {i j} : PE X (.Constant (.int i) j pos) (tE K α W (kE (.int i))) := ev_k pe_int fun _ _ => .int _
theorem ev_bl {i j} : PE X (.Constant (.bool i) j pos) (tE K α W (kE (.bool i))) := ev_k pe_bl fun _ _ => .bl _
theorem ev_str {i j} : PE X (.Constant (.str i) j pos) (tE K α W (kE (.str i))) := ev_k pe_str fun _ _ => .str _
theorem ev_non {j} : PE X (.Constant .none j pos) (tE K α W (kE .none)) := ev_k pe_non fun _ _ => .non
theorem ev_bin {op : Operator} {ro : R2} {g : PyData → PyData → Option Rv} (hr : OpR X (binaryOp op) ro) (hs : Op2 K ro g) (ha : PE X a (tE K α W fa)) (hb : PE X b (tE K α W fb)) : PE X (.BinOp a op b pos) (tE K α W (binE g fa fb)) :=
  pe_weak (pe_op hr ha hb) fun _ _ _ q => tOp_ok hs q
theorem ev_cmp {op : CmpOp} {ro : R2} {g : PyData → PyData → Option Rv} (hr : OpR X (compareOp op) ro) (hm : behindInMarks op b = false) (hs : Op2 K ro g) (ha : PE X a (tE K α W fa)) (hb : PE X b (tE K α W fb)) : PE X (.Compare a [op] [b] pos) (tE K α W (binE g fa fb)) :=
  pe_weak (pe_cmpR hr ha hb hm) fun _ _ _ q => tOp_ok hs q
theorem ev_ix {ro : R2} {g : PyData → PyData → Option Rv} (hr : IxR X ro) (hp : PlainIx b) (hs : Op2 K ro g) (ha : PE X a (tE K α W fa)) (hb : PE X b (tE K α W fb)) : PE X (.Subscript a b pos) (tE K α W (binE g fa fb)) :=
  pe_weak (pe_ix hr ha hb hp) fun _ _ _ q => tOp_ok hs q
theorem ev_un {op : UnaryOp} {ro : V → Hp → VK → Prop} {g : PyData → Option Rv} (hr : UnR X (unaryOp op) ro) (hs : Op1 K ro g) (ha : PE X a (tE K α W fa)) : PE X (.UnaryOp op a pos) (tE K α W (unE g fa)) :=
  pe_weak (pe_un hr ha) fun _ _ _ q => t1_ok hs q
end
end Mi

/-! Mi3.lean -/
set_option Elab.async false
set_option linter.all false
set_option maxRecDepth 100000
namespace Mi
open PySem L2 PySem.Spec PyProof.Rows
variable {K : PySem.W.Frag} {α : List Addr} {r r' : En} {σ : L2.St} {H H' : Hp} {F F' : Addr → Prop}

/-! ### tests -/
/-- the same for a result that is no value of the heap -/
def AftB {β : Type} (K : PySem.W.Frag) (α : List Addr) (σ : L2.St) (O : Addr → Prop) (H : Hp) (F : Addr → Prop) (W : L2.WX) (x : Res β) (Q : β → Hp → Prop) : Prop :=
  match x with
  | .ok b e => ∀ H' F', SR K α e σ H' F' → Step O H F H' F' (Own α e σ) → Q b H'
  | .ex x e => AftX K α σ O H F W x e
  | .no => False
def tB' {β : Type} (K : PySem.W.Frag) (α : List Addr) (W : L2.WX) (f : M β) : L2.St → Hp → (β → Hp → Prop) → Prop := fun σ H Q => ∃ r F, SR K α r σ H F ∧ AftB K α σ (Own α r σ) H F W (f r) Q
abbrev tT (K : PySem.W.Frag) (α : List Addr) (W : L2.WX) (f : M Bool) : TT := tB' K α W f
theorem AftB.step {β : Type} {O O1 O1' : Addr → Prop} {H1 : Hp} {F1 : Addr → Prop} {W : L2.WX} {x : Res β} {Q : β → Hp → Prop} (h : AftB K α σ O H F W x Q) (s : Step O H F H1 F1 O1) (h1 : ∀ a, O1' a → O1 a) : AftB K α σ O1' H1 F1 W x Q := by
  cases x with
  | ok r e => exact fun H' F' a b => h H' F' a (s.trans b h1)
  | ex x e => exact AftX.step h s h1
  | no => exact h
theorem AftB.here {β : Type} (S : SR K α r σ H F) {b : β} {W : L2.WX} {Q : β → Hp → Prop} (h : AftB K α σ (Own α r σ) H F W (.ok b r) Q) : Q b H := h H F S (Step.refl fun _ z => z)
theorem tB_mono {β : Type} {f : M β} {Q Q' : β → Hp → Prop} (h : tB' K α W f σ H Q) (q : ∀ v H1, Q v H1 → Q' v H1) : tB' K α W f σ H Q' := by
  obtain ⟨r, F, S, a⟩ := h
  refine ⟨r, F, S, ?_⟩
  cases e : f r with
  | ok x r1 => rw [e] at a; exact fun H1 F1 b c => q _ _ (a H1 F1 b c)
  | ex x r1 => rw [e] at a; exact a
  | no => rw [e] at a; exact a
/-- a value, then what is no value -/
theorem tE_bndB {β : Type} {f : M Rv} {g : Rv → M β} {Q : β → Hp → Prop} (S : SR K α r σ H F) (h : AftB K α σ (Own α r σ) H F W (M.bnd f g r) Q) :
    tE K α W f σ H fun v H1 => ∃ r1 F1 x, SR K α r1 σ H1 F1 ∧ Step (Own α r σ) H F H1 F1 (OwnT α r1 σ x v) ∧ TR K α r1 σ H1 F1 x v ∧ AftB K α σ (Own α r1 σ) H1 F1 W (g x r1) Q := by
  refine ⟨r, F, S, ?_⟩
  unfold M.bnd at h
  cases e : f r with
  | ok x r1 =>
    rw [e] at h
    exact fun v H1 F1 a b c => ⟨r1, F1, x, a, b, c, h.step b fun _ z => .inl z⟩
  | ex x r1 => rw [e] at h; exact h
  | no => rw [e] at h; exact h.elim
theorem tB_bnd {β : Type} {f : M β} {g : β → M Rv} {Q : VK} (S : SR K α r σ H F) (h : Aft K α σ (Own α r σ) H F W (M.bnd f g r) Q) :
    tB' K α W f σ H fun b H1 => tE K α W (g b) σ H1 Q := by
  refine ⟨r, F, S, ?_⟩
  unfold M.bnd at h
  cases e : f r with
  | ok x r1 =>
    rw [e] at h
    exact fun H1 F1 a b => ⟨r1, F1, a, h.step b fun _ z => z⟩
  | ex x r1 => rw [e] at h; exact h
  | no => rw [e] at h; exact h.elim
theorem tB_bndB {β γ : Type} {f : M β} {g : β → M γ} {Q : γ → Hp → Prop} (S : SR K α r σ H F) (h : AftB K α σ (Own α r σ) H F W (M.bnd f g r) Q) :
    tB' K α W f σ H fun b H1 => ∃ r1 F1, SR K α r1 σ H1 F1 ∧ Step (Own α r σ) H F H1 F1 (Own α r1 σ) ∧ AftB K α σ (Own α r1 σ) H1 F1 W (g b r1) Q := by
  refine ⟨r, F, S, ?_⟩
  unfold M.bnd at h
  cases e : f r with
  | ok x r1 =>
    rw [e] at h
    exact fun H1 F1 a b => ⟨r1, F1, a, b, h.step b fun _ z => z⟩
  | ex x r1 => rw [e] at h; exact h
  | no => rw [e] at h; exact h.elim

def boolOf : PyData → Option Bool
  | .bool b => some b
  | _ => none
def truthOf : PyData → Option Bool
  | .none => some false
  | .bool b => some b
  | .int i => some (i != 0)
  | .str x => if x.length ≤ sizeLine then some (x.length != 0) else none
  | .list ds => some (!ds.isEmpty)
  | .tuple ds => some (!ds.isEmpty)
  | _ => none
def tst (g : PyData → Option Bool) (x : Rv) : M Bool := fun r =>
  match (peek r x).bind g with
  | some b => .ok b r
  | none => .no
def tstB (f : M Rv) : M Bool := M.bnd f (tst boolOf)
def tstT (f : M Rv) : M Bool := M.bnd f (tst truthOf)
theorem tst_ok {g : PyData → Option Bool} {f : M Rv} {P : V → Hp → Bool → Prop} (hs : ∀ H F v d b, Pk K H F v d → g d = some b → P v H b) {Q : Bool → Hp → Prop} (h : tT K α W (M.bnd f (tst g)) σ H Q) :
    tE K α W f σ H fun v H1 => ∃ k, P v H1 k ∧ Q k H1 := by
  obtain ⟨r, F, S, h⟩ := h
  refine tE_mono (tE_bndB S h) fun x H1 ⟨r1, F1, x1, S1, st1, t1, h1⟩ => ?_
  unfold tst at h1
  cases e1 : peek r1 x1 with
  | none => simp only [e1] at h1; exact h1.elim
  | some d =>
    cases e2 : g d with
    | none => simp only [e1, Option.bind_some, e2] at h1; exact h1.elim
    | some b =>
      simp only [e1, Option.bind_some, e2] at h1
      exact ⟨b, hs H1 F1 x d b (peek_rel S1 t1 e1) e2, AftB.here S1 h1⟩
theorem bool_pk {F : Addr → Prop} {v : V} {d : PyData} {b : Bool} (h : Pk K H F v d) (e : boolOf d = some b) : v = .bl b := by
  cases d <;> cases e
  exact h.bl
theorem FrAll.emp {v : List V} {d : List PyData} (h : FrAll K H F v d) : v.isEmpty = d.isEmpty := by cases h <;> rfl
theorem truth_pk {F : Addr → Prop} {v : V} {d : PyData} {b : Bool} (h : Pk K H F v d) (e : truthOf d = some b) : TruV K v H b := by
  cases d with
  | none => cases e; rw [h.non]; rfl
  | bool x => cases e; rw [h.bl]; rfl
  | int i => cases e; rw [h.int]; rfl
  | str x =>
    rw [h.str]
    have e : (if x.length ≤ sizeLine then some (x.length != 0) else none) = some b := e
    split at e
    · rename_i hx
      cases e
      refine ⟨hx, ?_⟩
      rw [Bool.eq_iff_iff, bne_iff_ne, bne_iff_ne]
      omega
    · cases e
  | list ds =>
    cases e
    obtain ⟨a, xs, rfl, h1, h2⟩ := h.list
    exact .inl ⟨xs, h1, by rw [h2.emp]⟩
  | tuple ds =>
    cases e
    obtain ⟨a, xs, rfl, h1, h2⟩ := h.tup
    exact .inr (.inl ⟨xs, h1, by rw [h2.emp]⟩)
  | dict _ => cases e
def andB (f g : M Bool) : M Bool := M.bnd f fun c => if c = true then g else M.ret false
def orB (f g : M Bool) : M Bool := M.bnd f fun c => if c = true then M.ret true else g
def notB (f : M Bool) : M Bool := M.bnd f fun c => M.ret (!c)
def iteE (t : M Bool) (f g : M Rv) : M Rv := M.bnd t fun c => if c = true then f else g
def bV (f : M Bool) : M Rv := M.bnd f fun c => M.ret (.val (.bool c))
theorem tB_ret {β : Type} {b : β} {Q : β → Hp → Prop} (h : tB' K α W (M.ret b) σ H Q) : Q b H := by
  obtain ⟨r, F, S, h⟩ := h
  exact AftB.here S h
theorem and_ok {f g : M Bool} {Q : Bool → Hp → Prop} (h : tT K α W (andB f g) σ H Q) : tAnd (tT K α W f) (tT K α W g) σ H Q := by
  obtain ⟨r, F, S, h⟩ := h
  refine tB_mono (tB_bndB S h) fun b H1 ⟨r1, F1, S1, _, h1⟩ => ?_
  cases b with
  | true => exact ⟨r1, F1, S1, h1⟩
  | false => exact AftB.here S1 h1
theorem or_ok {f g : M Bool} {Q : Bool → Hp → Prop} (h : tT K α W (orB f g) σ H Q) : tOr (tT K α W f) (tT K α W g) σ H Q := by
  obtain ⟨r, F, S, h⟩ := h
  refine tB_mono (tB_bndB S h) fun b H1 ⟨r1, F1, S1, _, h1⟩ => ?_
  cases b with
  | false => exact ⟨r1, F1, S1, h1⟩
  | true => exact AftB.here S1 h1
theorem not_ok {f : M Bool} {Q : Bool → Hp → Prop} (h : tT K α W (notB f) σ H Q) : tNot (tT K α W f) σ H Q := by
  obtain ⟨r, F, S, h⟩ := h
  exact tB_mono (tB_bndB S h) fun b H1 ⟨r1, F1, S1, _, h1⟩ => AftB.here S1 h1
theorem ite_ok {t : M Bool} {f g : M Rv} {Q : VK} (h : tE K α W (iteE t f g) σ H Q) : tIf (tT K α W t) (tE K α W f) (tE K α W g) σ H Q := by
  obtain ⟨r, F, S, h⟩ := h
  refine tB_mono (tB_bnd S h) fun b H1 h1 => ?_
  cases b with
  | true => exact h1
  | false => exact h1
theorem pt_weak {X : Cx} {e : Expr} {t t' : TT} (h : PT X e t) (w : ∀ σ H Q, t' σ H Q → t σ H Q) : PT X e t' := ⟨fun pins s σ H Q I q => h.run pins s σ H Q I (w σ H Q q)⟩
theorem pw_weak {X : Cx} {e : Expr} {t t' : TT} (h : PW X e t) (w : ∀ σ H Q, t' σ H Q → t σ H Q) : PW X e t' := ⟨fun wh pins s σ H Q I q => h.run wh pins s σ H Q I (w σ H Q q)⟩
theorem pa_weak {X : Cx} {es : List Expr} {t t' : TA} (h : PA X es t) (w : ∀ σ H Q, t' σ H Q → t σ H Q) : PA X es t' := ⟨fun wh pins s σ H Q I q => h.run wh pins s σ H Q I (w σ H Q q)⟩
section
variable {X : Cx} {a b c e : Expr} {rest : List Expr} {fa fb fc f : M Rv} {t u : M Bool} {pos : Pos}
theorem tv_bool (h : PE X e (tE K α W f)) (he : ∀ whole, isTrue e X.env whole = (do let v ← whole; standAt e.pos; holding [v] (truthy v)) := by intro _; rfl) : PT X e (tT K α W (tstB f)) :=
  pt_weak (pt_val h he) fun _ _ _ q => tst_ok (P := fun v _ b => v = .bl b) (fun _ _ _ _ _ p e => bool_pk p e) q
theorem tv_truth (h : PE X e (tE X.K α W f)) (he : ∀ whole, isTrue e X.env whole = (do let v ← whole; standAt e.pos; holding [v] (truthy v)) := by intro _; rfl) : PT X e (tT X.K α W (tstT f)) :=
  pt_weak (pt_truth h he) fun _ H _ q => tst_ok (P := fun v H b => TruV X.K v H b) (fun _ _ _ _ _ p e => truth_pk p e) q
theorem tv_cmp {op : CmpOp} {ro : R2} {g : PyData → PyData → Option Rv} (hr : OpR X (compareOp op) ro) (hm : behindInMarks op b = false) (hs : Op2 K ro g) (ha : PE X a (tE K α W fa)) (hb : PE X b (tE K α W fb)) : PT X (.Compare a [op] [b] pos) (tT K α W (tstB (binE g fa fb))) :=
  pt_weak (pt_cmpR hr ha hb hm) fun σ H Q q => by
    have q1 := tst_ok (P := fun v _ b => v = .bl b) (fun _ _ _ _ _ p e => bool_pk p e) q
    exact tOp_ok hs q1
theorem tv_and1 (h : PT X a (tT K α W t)) : PW X (.BoolOp .And [a] pos) (tT K α W t) := pw_and1 h
theorem tv_or1 (h : PT X a (tT K α W t)) : PW X (.BoolOp .Or [a] pos) (tT K α W t) := pw_or1 h
theorem tv_and (h : PT X a (tT K α W t)) (h2 : PW X (.BoolOp .And (b :: rest) pos) (tT K α W u)) : PW X (.BoolOp .And (a :: b :: rest) pos) (tT K α W (andB t u)) := pw_weak (pw_and h h2) fun _ _ _ q => and_ok q
theorem tv_or (h : PT X a (tT K α W t)) (h2 : PW X (.BoolOp .Or (b :: rest) pos) (tT K α W u)) : PW X (.BoolOp .Or (a :: b :: rest) pos) (tT K α W (orB t u)) := pw_weak (pw_or h h2) fun _ _ _ q => or_ok q
theorem tv_not (h : PT X a (tT K α W t)) : PT X (.UnaryOp .Not a pos) (tT K α W (notB t)) := pt_weak (pt_not h) fun _ _ _ q => not_ok q
theorem ev_ite (hc : PT X c (tT K α W t)) (ha : PE X a (tE K α W fa)) (hb : PE X b (tE K α W fb)) : PE X (.IfExp c a b pos) (tE K α W (iteE t fa fb)) := pe_weak (pe_ifExp hc ha hb) fun _ _ _ q => ite_ok q
end
/-! a and b, a or b, not a as values, all True or False -/
def andE (f g : M Rv) : M Rv := M.bnd (tstB f) fun c => if c = true then g else M.ret (.val (.bool false))
def orE (f g : M Rv) : M Rv := M.bnd (tstB f) fun c => if c = true then M.ret (.val (.bool true)) else g
def notE (f : M Rv) : M Rv := M.bnd (tstB f) fun c => M.ret (.val (.bool (!c)))
theorem tE_ret {d : PyData} {v : V} {Q : VK} (hd : ∀ H F, Fr K H F v d) (h : tE K α W (M.ret (.val d)) σ H Q) : Q v H := k_ok hd h
theorem tstB_ok {f : M Rv} {Q : Bool → Hp → Prop} (h : tT K α W (tstB f) σ H Q) : tE K α W f σ H fun v H1 => ∃ k, v = .bl k ∧ Q k H1 := tst_ok (P := fun v _ b => v = .bl b) (fun _ _ _ _ _ p e => bool_pk p e) h
section
variable {X : Cx} {a b c e : Expr} {rest : List Expr} {fa fb fc f : M Rv} {pos : Pos}
theorem ev_and1 (h : PE X a (tE K α W fa)) : PE X (.BoolOp .And [a] pos) (tE K α W fa) := pe_one h
theorem ev_or1 (h : PE X a (tE K α W fa)) : PE X (.BoolOp .Or [a] pos) (tE K α W fa) := pe_one h
theorem ev_and (ha : PE X a (tE K α W fa)) (hb : PE X (.BoolOp .And (b :: rest) pos) (tE K α W fb)) : PE X (.BoolOp .And (a :: b :: rest) pos) (tE K α W (andE fa fb)) :=
  pe_weak (pe_and ha hb) fun σ H Q ⟨r, F, S, h⟩ => by
    refine tE_mono (tstB_ok (tB_bnd S h)) fun v H1 ⟨k, e, q⟩ => ⟨k, e, ?_⟩
    cases k with
    | true => exact q
    | false => exact tE_ret (fun _ _ => .bl _) q
theorem ev_or (ha : PE X a (tE K α W fa)) (hb : PE X (.BoolOp .Or (b :: rest) pos) (tE K α W fb)) : PE X (.BoolOp .Or (a :: b :: rest) pos) (tE K α W (orE fa fb)) :=
  pe_weak (pe_or ha hb) fun σ H Q ⟨r, F, S, h⟩ => by
    refine tE_mono (tstB_ok (tB_bnd S h)) fun v H1 ⟨k, e, q⟩ => ⟨k, e, ?_⟩
    cases k with
    | false => exact q
    | true => exact tE_ret (fun _ _ => .bl _) q
theorem ev_not (ha : PE X a (tE K α W fa)) : PE X (.UnaryOp .Not a pos) (tE K α W (notE fa)) :=
  pe_weak (pe_not ha) fun σ H Q ⟨r, F, S, h⟩ => tE_mono (tstB_ok (tB_bnd S h)) fun v H1 ⟨k, e, q⟩ => ⟨k, e, tE_ret (fun _ _ => .bl _) q⟩
end
/-! a < b < c -/
def chE (g g' : PyData → PyData → Option Rv) (fa fb fc : M Rv) : M Rv :=
  M.bnd fa fun x => M.bnd fb fun y => M.bnd (M.bnd (op2 g x y) (tst boolOf)) fun c => if c = true then M.bnd fc fun z => op2 g' y z else M.ret (.val (.bool false))
theorem op2_ok {ro : R2} {g : PyData → PyData → Option Rv} (hs : Op2 K ro g) {x y : Rv} {v w : V} {Q : VK} (S : SR K α r σ H F) (t1 : TR K α r σ H F x v) (t2 : TR K α r σ H F y w) (h : Aft K α σ (Own α r σ) H F W (op2 g x y r) Q) : ro v w H Q := by
  unfold op2 at h
  cases e1 : peek r x with
  | none => simp only [e1] at h; exact h.elim
  | some d =>
    cases e2 : peek r y with
    | none => simp only [e1, e2] at h; exact h.elim
    | some e =>
      simp only [e1, e2] at h
      cases e3 : g d e with
      | none => simp only [e3] at h; exact h.elim
      | some z =>
        simp only [e3] at h
        exact hs H F v w d e z Q (peek_rel S t1 e1) (peek_rel S t2 e2) e3 (Aft.fin S h)
/-- what op2 ends with: the state is as it was -/
theorem op2_at {g : PyData → PyData → Option Rv} {x y z : Rv} {r1 : En} (h : op2 g x y r = .ok z r1) : r1 = r := by
  unfold op2 at h
  split at h
  · split at h
    · cases h; rfl
    · cases h
  · cases h
theorem op2_ex {g : PyData → PyData → Option Rv} {x y : Rv} {r1 : En} {z : Exc} : op2 g x y r ≠ .ex z r1 := fun h => by
  unfold op2 at h
  split at h
  · split at h <;> cases h
  · cases h
theorem chain_ok {ro ro' : R2} {g g' : PyData → PyData → Option Rv} (hs : Op2 K ro g) (hs' : Op2 K ro' g') {fa fb fc : M Rv} {Q : VK} (h : tE K α W (chE g g' fa fb fc) σ H Q) : tChain ro ro' (tE K α W fa) (tE K α W fb) (tE K α W fc) σ H Q := by
  obtain ⟨r, F, S, h⟩ := h
  refine tE_mono (tE_bnd S h) fun x H1 ⟨r1, F1, x1, S1, st1, t1, h1⟩ => ?_
  refine tE_mono (tE_bnd S1 h1) fun y H2 ⟨r2, F2, x2, S2, st2, t2, h2⟩ => ?_
  have t1' := t1.step st2 fun a z => .inl z
  refine op2_ok (W := W) hs S2 t1' t2 ?_
  unfold M.bnd at h2
  cases e : op2 g x1 x2 r2 with
  | no => simp only [e] at h2; exact h2.elim
  | ex z r3 => exact absurd e op2_ex
  | ok z r3 =>
    have er := op2_at e
    subst er
    simp only [e] at h2
    intro v H3 F3 S3 st3 t3
    unfold tst at h2
    cases e1 : peek r3 z with
    | none => simp only [e1] at h2; exact h2.elim
    | some d =>
      cases e2 : boolOf d with
      | none => simp only [e1, Option.bind_some, e2] at h2; exact h2.elim
      | some k =>
        simp only [e1, Option.bind_some, e2] at h2
        refine ⟨k, bool_pk (peek_rel S3 t3 e1) e2, ?_⟩
        have q := h2.step st3 fun _ z => .inl z
        have t2' := t2.step st3 fun _ z => .inl z
        cases k with
        | true =>
          have q2 : Aft K α σ (Own α r3 σ) H3 F3 W (M.bnd fc (fun z => op2 g' x2 z) r3) Q := q
          refine iteT ?_
          refine tE_mono (tE_bnd S3 q2) fun w H4 ⟨r4, F4, x4, S4, st4, t4, h4⟩ => ?_
          exact op2_ok hs' S4 (t2'.step st4 fun _ z => .inl z) t4 h4
        | false =>
          have q2 : Aft K α σ (Own α r3 σ) H3 F3 W (.ok (.val (.bool false)) r3) Q := q
          refine iteF ?_
          exact (Aft.fin S3 q2).val _ _ rfl (.bl _)
section
variable {X : Cx} {a b c : Expr} {fa fb fc : M Rv} {op op' : CmpOp} {ro ro' : R2} {g g' : PyData → PyData → Option Rv} {pos : Pos}
theorem ev_chain (ho : OpR X (compareOp op) ro) (ho' : OpR X (compareOp op') ro') (hs : Op2 K ro g) (hs' : Op2 K ro' g') (ha : PE X a (tE K α W fa)) (hb : PE X b (tE K α W fb)) (hc : PE X c (tE K α W fc)) (hm : lastMarks [op, op'] [b, c] = false := by rfl) : PE X (.Compare a [op, op'] [b, c] pos) (tE K α W (chE g g' fa fb fc)) :=
  pe_weak (pe_chain ho ho' ha hb hc hm) fun _ _ _ q => chain_ok hs hs' q
theorem tv_chain (ho : OpR X (compareOp op) ro) (ho' : OpR X (compareOp op') ro') (hs : Op2 K ro g) (hs' : Op2 K ro' g') (ha : PE X a (tE K α W fa)) (hb : PE X b (tE K α W fb)) (hc : PE X c (tE K α W fc)) (hm : lastMarks [op, op'] [b, c] = false := by rfl) : PT X (.Compare a [op, op'] [b, c] pos) (tT K α W (tstB (chE g g' fa fb fc))) :=
  pt_weak (pt_chain ho ho' ha hb hc hm) fun _ _ _ q => chain_ok hs hs' (tstB_ok q)
end
end Mi

/-! Mi4.lean -/
set_option Elab.async false
set_option linter.all false
set_option maxRecDepth 100000
/-! the operators on data -/
namespace Mi
open PySem L2 PySem.Spec PyProof.Rows
variable {K : PySem.W.Frag} {H : Hp} {F : Addr → Prop} {X : Cx}

abbrev vI (i : Int) : Rv := .val (.int i)
abbrev vB (b : Bool) : Rv := .val (.bool b)
abbrev vS (x : Str) : Rv := .val (.str x)
def gI2 (g : Int → Int → Option Rv) : PyData → PyData → Option Rv
  | .int i, .int j => g i j
  | _, _ => none
theorem gI2_inv {g : Int → Int → Option Rv} {d e : PyData} {z : Rv} (h : gI2 g d e = some z) : ∃ i j, d = .int i ∧ e = .int j ∧ g i j = some z := by
  unfold gI2 at h
  split at h
  · exact ⟨_, _, rfl, rfl, h⟩
  · cases h
theorem opt_if {β : Type} {c : Prop} [Decidable c] {x z : β} (h : (if c then some x else none) = some z) : c ∧ x = z := by
  split at h
  · cases h; exact ⟨by assumption, rfl⟩
  · cases h
theorem OpX.or {f : Value → Value → Sem Value} {r r' : R2} (h : OpR X f r) (h' : OpR X f r') : OpR X f (fun x y H Q => r x y H Q ∨ r' x y H Q) := OpR.or h h'
/-! + - * // -/
def gSubI : PyData → PyData → Option Rv := gI2 fun i j => some (vI (i - j))
theorem o_sub : Op2 K (rI0 fun i j => .int (i - j)) gSubI := fun H F x y d e z Q px py h q => by
  obtain ⟨i, j, rfl, rfl, h⟩ := gI2_inv h
  cases h
  exact ⟨i, j, px.int, py.int, q.val _ _ rfl (.int _)⟩
def gAdd : PyData → PyData → Option Rv
  | .int i, .int j => some (vI (i + j))
  | .str x, .str y => if x.length + y.length ≤ sizeLine then some (vS (x ++ y)) else none
  | .list xs, .list ys => if xs.length + ys.length ≤ sizeLine then some (.own (.lst (xs ++ ys))) else none
  | .tuple xs, .tuple ys => if xs.length + ys.length ≤ sizeLine then some (.val (.tuple (xs ++ ys))) else none
  | _, _ => none
theorem lx_obj {pins : List (Addr × Obj)} {σ : L2.St} {s : Shared} (I : Inv X pins σ H s) {a : Addr} {xs : List V} (h : Lx X.K H a xs) : ∃ (its : List Value) (n : Nat), Vals xs its ∧ xs.length ≤ sizeLine ∧ s.heap.get? a = some { cls := .type "list", data := .seq its.toArray n } := by
  rcases h with h | ⟨its, n, h1, h2, h3⟩
  · obtain ⟨z, its, n, r, e⟩ := h.ok I.hok
    exact ⟨its, n, r, z, e⟩
  · exact ⟨its, n, h3, by rw [h3.length]; exact h2, I.kIn _ _ h1⟩
def rCatS (K : PySem.W.Frag) : R2 := fun x y H Q => ∃ l b xs zs, x = .ref l ∧ y = .ref b ∧ Lx K H l xs ∧ Lx K H b zs ∧ xs.length + zs.length ≤ sizeLine ∧ ∀ p, H p = none → Q (.ref p) (upd H p (.lst (xs ++ zs)))
theorem op_catS : OpR X (binaryOp .Add) (rCatS X.K) := fun pins s σ H x y v u Q I rx ry h => by
  obtain ⟨l, b, xs, zs, rfl, rfl, hl, hb, hz, q⟩ := h
  cases rx
  cases ry
  obtain ⟨its, n, rv, z1, e1⟩ := lx_obj I hl
  obtain ⟨its2, n2, rv2, z2, e2⟩ := lx_obj I hb
  have l1 := rv.length
  have l2 := rv2.length
  refine PySem.P.add_list e1 e2 ?_ (by rw [List.size_toArray, List.size_toArray]; omega)
  have ea : its.toArray ++ its2.toArray = List.toArray (its ++ its2) := by simp
  rw [ea]
  exact ⟨.ref _, _, I.lnew (t' := s.toks) (Vals.append rv rv2) (by rw [List.length_append]; omega), rfl, q _ I.fresh⟩
theorem op_addX : OpR X (binaryOp .Add) (fun x y H Q => rI0 (fun i j => .int (i + j)) x y H Q ∨ (∃ i j, x = .str i ∧ y = .str j ∧ i.length + j.length ≤ sizeLine ∧ Q (.str (i ++ j)) H) ∨ rCatS X.K x y H Q ∨ rCatA X.K x y H Q) :=
  OpX.or op_add (OpX.or op_add_str (OpX.or op_catS op_catA))
theorem FrAll.nil_of {H : Hp} {F : Addr → Prop} {v : List V} {d : List PyData} (h : FrAll K H F v d) (e : v = []) : d = [] := by subst e; cases h; rfl
theorem o_add : Op2 K (fun x y H Q => rI0 (fun i j => .int (i + j)) x y H Q ∨ (∃ i j, x = .str i ∧ y = .str j ∧ i.length + j.length ≤ sizeLine ∧ Q (.str (i ++ j)) H) ∨ rCatS K x y H Q ∨ rCatA K x y H Q) gAdd := fun H F x y d e z Q px py h q => by
  unfold gAdd at h
  split at h
  · cases h; exact .inl ⟨_, _, px.int, py.int, q.val _ _ rfl (.int _)⟩
  · obtain ⟨h1, rfl⟩ := opt_if h
    exact .inr (.inl ⟨_, _, px.str, py.str, h1, q.val _ _ rfl (.str _)⟩)
  · obtain ⟨h1, rfl⟩ := opt_if h
    obtain ⟨a, xs, rfl, e1, r1⟩ := px.lx
    obtain ⟨b, ys, rfl, e2, r2⟩ := py.lx
    exact .inr (.inr (.inl ⟨a, b, xs, ys, rfl, rfl, e1, e2, by rw [r1.len, r2.len]; exact h1, fun p hp => q.new _ _ p rfl hp (r1.app r2)⟩))
  · obtain ⟨h1, rfl⟩ := opt_if h
    obtain ⟨a, xs, rfl, e1, r1⟩ := px.tup
    obtain ⟨b, ys, rfl, e2, r2⟩ := py.tup
    refine .inr (.inr (.inr ⟨a, b, xs, ys, rfl, rfl, e1, e2, by rw [r1.len, r2.len]; exact h1, fun z => ?_, fun z1 z => ?_, fun z1 z2 p hp => q.tup _ _ p rfl hp (r1.app r2)⟩))
    · have := r1.nil_of z
      subst this
      exact q.val _ _ rfl (.tup e2 r2)
    · have := r2.nil_of z
      subst this
      rw [List.append_nil] at q
      exact q.val _ _ rfl (.tup e1 r1)
  · cases h
def gMul : PyData → PyData → Option Rv := gI2 fun i j => if i.natAbs.log2 + j.natAbs.log2 < 1000000 then some (vI (i * j)) else none
theorem o_mul : Op2 K (rI CMulW fun i j => .int (i * j)) gMul := fun H F x y d e z Q px py h q => by
  obtain ⟨i, j, rfl, rfl, h⟩ := gI2_inv h
  obtain ⟨h1, rfl⟩ := opt_if h
  exact ⟨i, j, px.int, py.int, h1, q.val _ _ rfl (.int _)⟩
def gDiv : PyData → PyData → Option Rv := gI2 fun i j => if 0 < j ∧ j.natAbs.log2 < 9000 then some (vI (i / j)) else none
theorem o_div : Op2 K (rI CDivW fun i j => .int (i / j)) gDiv := fun H F x y d e z Q px py h q => by
  obtain ⟨i, j, rfl, rfl, h⟩ := gI2_inv h
  obtain ⟨h1, rfl⟩ := opt_if h
  exact ⟨i, j, px.int, py.int, h1, q.val _ _ rfl (.int _)⟩
def gMod : PyData → PyData → Option Rv := gI2 fun i j => if 0 < j then some (vI (i % j)) else none
theorem o_mod : Op2 K (rI (fun _ j => 0 < j) fun i j => .int (i % j)) gMod := fun H F x y d e z Q px py h q => by
  obtain ⟨i, j, rfl, rfl, h⟩ := gI2_inv h
  obtain ⟨h1, rfl⟩ := opt_if h
  exact ⟨i, j, px.int, py.int, h1, q.val _ _ rfl (.int _)⟩
def CPowW (i j : Int) : Prop := 0 ≤ j ∧ ((i.natAbs.log2 : Int) + 1) * j ≤ 1000000
instance : Decidable (CPowW i j) := inferInstanceAs (Decidable (_ ∧ _))
theorem op_powW : OpR X (binaryOp .Pow) (rI CPowW fun i j => .int (i ^ j.toNat)) := opI fun i j _ _ _ _ _ hc q => by
  refine pow_int hc.1 ?_ q
  have h2 := hc.2
  have b : (Builtin.Int.intBits i : Int) ≤ (i.natAbs.log2 : Int) + 1 := by
    unfold Builtin.Int.intBits
    split <;> omega
  have : (Builtin.Int.intBits i : Int) * j ≤ ((i.natAbs.log2 : Int) + 1) * j := Int.mul_le_mul_of_nonneg_right b hc.1
  have : (1000000 : Int) ≤ 2 ^ 27 := by decide
  omega
def gPow : PyData → PyData → Option Rv := gI2 fun i j => if CPowW i j then some (vI (i ^ j.toNat)) else none
theorem o_pow : Op2 K (rI CPowW fun i j => .int (i ^ j.toNat)) gPow := fun H F x y d e z Q px py h q => by
  obtain ⟨i, j, rfl, rfl, h⟩ := gI2_inv h
  obtain ⟨h1, rfl⟩ := opt_if h
  exact ⟨i, j, px.int, py.int, h1, q.val _ _ rfl (.int _)⟩
def gNeg : PyData → Option Rv
  | .int i => some (vI (-i))
  | _ => none
theorem o_neg : Op1 K (rU fun i => .int (-i)) gNeg := fun H F x d z Q px h q => by
  unfold gNeg at h
  split at h
  · cases h; exact ⟨_, px.int, q.val _ _ rfl (.int _)⟩
  · cases h
/-! comparisons -/
def gCmp (p : Int → Int → Bool) : PyData → PyData → Option Rv := gI2 fun i j => some (vB (p i j))
theorem o_cmp {p : Int → Int → Bool} : Op2 K (rI0 fun i j => .bl (p i j)) (gCmp p) := fun H F x y d e z Q px py h q => by
  obtain ⟨i, j, rfl, rfl, h⟩ := gI2_inv h
  cases h
  exact ⟨i, j, px.int, py.int, q.val _ _ rfl (.bl _)⟩
abbrev gLt : PyData → PyData → Option Rv := gCmp fun i j => decide (i < j)
abbrev gLe : PyData → PyData → Option Rv := gCmp fun i j => decide (i ≤ j)
abbrev gGt : PyData → PyData → Option Rv := gCmp fun i j => decide (j < i)
abbrev gGe : PyData → PyData → Option Rv := gCmp fun i j => decide (j ≤ i)
def gLeS : PyData → PyData → Option Rv
  | .str i, .str j => some (vB (!decide (j.cps.toList < i.cps.toList)))
  | _, _ => none
theorem o_leS : Op2 K (fun x y H Q => ∃ i j, x = .str i ∧ y = .str j ∧ Q (.bl (!decide (j.cps.toList < i.cps.toList))) H) gLeS := fun H F x y d e z Q px py h q => by
  unfold gLeS at h
  split at h
  · cases h; exact ⟨_, _, px.str, py.str, q.val _ _ rfl (.bl _)⟩
  · cases h
/-- == of data: where either is None, or both are ints, texts, truths, nothing else is asked -/
def flatEq : PyData → PyData → Bool
  | .none, .none => true | .none, .int _ => true | .int _, .none => true | .none, .bool _ => true | .bool _, .none => true | .none, .str _ => true | .str _, .none => true
  | .int _, .int _ => true | .bool _, .bool _ => true | .str _, .str _ => true
  | .int _, .str _ => true | .str _, .int _ => true | .bool _, .str _ => true | .str _, .bool _ => true
  | _, _ => false
def eqOk (d e : PyData) : Bool := flatEq d e || (SeqAt.shaped d && SeqAt.shaped e)
def gEq (d e : PyData) : Option Rv := if eqOk d e = true then some (vB (PyData.eqv d e)) else none
def gNe (d e : PyData) : Option Rv := if eqOk d e = true then some (vB (!PyData.eqv d e)) else none
theorem dec_beq {β : Type} [DecidableEq β] (a b : β) : decide (a = b) = (a == b) := by
  rw [Bool.eq_iff_iff]
  simp
theorem flat_scal {F : Addr → Prop} {x y : V} {d e : PyData} (px : Pk K H F x d) (py : Pk K H F y e) (h : flatEq d e = true) : scal x y = true ∧ decide (x = y) = PyData.eqv d e := by
  unfold flatEq at h
  split at h
  · rw [px.non, py.non]; exact ⟨rfl, rfl⟩
  · rw [px.non, py.int]; exact ⟨rfl, rfl⟩
  · rw [px.int, py.non]; exact ⟨rfl, rfl⟩
  · rw [px.non, py.bl]; exact ⟨rfl, rfl⟩
  · rw [px.bl, py.non]; exact ⟨rfl, rfl⟩
  · rw [px.non, py.str]; exact ⟨rfl, rfl⟩
  · rw [px.str, py.non]; exact ⟨rfl, rfl⟩
  · rw [px.int, py.int]; exact ⟨rfl, dec_int⟩
  · rw [px.bl, py.bl]; exact ⟨rfl, dec_bl⟩
  · rw [px.str, py.str]; exact ⟨rfl, dec_str⟩
  · rw [px.int, py.str]; exact ⟨rfl, rfl⟩
  · rw [px.str, py.int]; exact ⟨rfl, rfl⟩
  · rw [px.bl, py.str]; exact ⟨rfl, rfl⟩
  · rw [px.str, py.bl]; exact ⟨rfl, rfl⟩
  · cases h
theorem op_eqX (hu : X.A.units + 64 < cLine) : OpR X (compareOp .Eq) (fun x y H Q => rEq x y H Q ∨ rEqD X.K x y H Q) := OpX.or op_eq (op_eqD hu)
theorem op_neX (hu : X.A.units + 64 < cLine) : OpR X (compareOp .NotEq) (fun x y H Q => rNe x y H Q ∨ rNeD X.K x y H Q) := OpX.or op_ne (op_neD hu)
theorem o_eq : Op2 K (fun x y H Q => rEq x y H Q ∨ rEqD K x y H Q) gEq := fun H F x y d e z Q px py h q => by
  obtain ⟨h1, rfl⟩ := opt_if h
  rcases Bool.or_eq_true_iff.mp h1 with h1 | h1
  · obtain ⟨h2, h3⟩ := flat_scal px py h1
    exact .inl ⟨h2, by rw [h3]; exact q.val _ _ rfl (.bl _)⟩
  · obtain ⟨h2, h3⟩ := Bool.and_eq_true_iff.mp h1
    exact .inr ⟨d, e, px.dp, py.dp, h2, h3, q.val _ _ rfl (.bl _)⟩
theorem o_ne : Op2 K (fun x y H Q => rNe x y H Q ∨ rNeD K x y H Q) gNe := fun H F x y d e z Q px py h q => by
  obtain ⟨h1, rfl⟩ := opt_if h
  rcases Bool.or_eq_true_iff.mp h1 with h1 | h1
  · obtain ⟨h2, h3⟩ := flat_scal px py h1
    exact .inl ⟨h2, by rw [h3]; exact q.val _ _ rfl (.bl _)⟩
  · obtain ⟨h2, h3⟩ := Bool.and_eq_true_iff.mp h1
    exact .inr ⟨d, e, px.dp, py.dp, h2, h3, q.val _ _ rfl (.bl _)⟩
def isNon : PyData → Bool
  | .none => true
  | _ => false
def gIsN (d e : PyData) : Option Rv := if isNon e = true then some (vB (isNon d)) else none
def gIsntN (d e : PyData) : Option Rv := if isNon e = true then some (vB (!isNon d)) else none
theorem isNon_eq {d : PyData} (h : isNon d = true) : d = .none := by cases d <;> first | rfl | cases h
theorem pk_non {F : Addr → Prop} {x : V} {d : PyData} (px : Pk K H F x d) : decide (x = .non) = isNon d := by
  cases d with
  | none => have e := px.non; subst e; rfl
  | int i => have e := px.int; subst e; rfl
  | str i => have e := px.str; subst e; rfl
  | bool i => have e := px.bl; subst e; rfl
  | list ds => obtain ⟨a, xs, e, _⟩ := px.list; subst e; rfl
  | tuple ds => obtain ⟨a, xs, e, _⟩ := px.tup; subst e; rfl
  | dict ds => exact absurd (px.dead fun _ => nofun) fun z => nomatch z
theorem o_isN : Op2 K (fun x y H Q => y = .non ∧ Q (.bl (decide (x = .non))) H) gIsN := fun H F x y d e z Q px py h q => by
  obtain ⟨h1, rfl⟩ := opt_if h
  have h2 := isNon_eq h1
  subst h2
  exact ⟨py.non, by rw [pk_non px]; exact q.val _ _ rfl (.bl _)⟩
theorem o_isntN : Op2 K (fun x y H Q => y = .non ∧ Q (.bl (!decide (x = .non))) H) gIsntN := fun H F x y d e z Q px py h q => by
  obtain ⟨h1, rfl⟩ := opt_if h
  have h2 := isNon_eq h1
  subst h2
  exact ⟨py.non, by rw [pk_non px]; exact q.val _ _ rfl (.bl _)⟩
/-- in -/
def gInB : PyData → PyData → Option Bool
  | .str ⟨⟨[c]⟩⟩, .str z => some (decide (c ∈ z.cps.toList))
  | d, .list ds => if (SeqAt.shaped d && SeqAt.shaped (.list ds)) = true then some (ds.any fun z => PyData.eqv z d) else none
  | d, .tuple ds => if (SeqAt.shaped d && SeqAt.shaped (.tuple ds)) = true then some (ds.any fun z => PyData.eqv z d) else none
  | _, _ => none
def gIn (d e : PyData) : Option Rv := (gInB d e).map vB
def gNotIn (d e : PyData) : Option Rv := (gInB d e).map fun b => vB (!b)
def rInT (K : PySem.W.Frag) (neg : Bool) : R2 := fun x y H Q => ∃ d ds, Dp K H x d ∧ Dp K H y (.tuple ds) ∧ SeqAt.shaped d = true ∧ SeqAt.shaped (.tuple ds) = true ∧ Q (.bl (if neg then !ds.any fun z => PyData.eqv z d else ds.any fun z => PyData.eqv z d)) H
theorem op_inT (hu : X.A.units + 65 < cLine) : OpR X (compareOp .In) (rInT X.K false) := fun pins s σ H x y v u Q I rx ry h => by
  obtain ⟨d, ds, hd, he, sd, se, q⟩ := h
  obtain ⟨_, r1⟩ := Dp.reads I d x v hd rx
  obtain ⟨_, r2⟩ := Dp.reads I (.tuple ds) y u he ry
  exact SeqAt.in_tuple_reads r2 r1 (SeqAt.canLay_of_shaped se) (SeqAt.canLay_of_shaped sd) (room_in_shaped sd hu) ⟨.bl _, H, I, rfl, q⟩
theorem op_notInT (hu : X.A.units + 65 < cLine) : OpR X (compareOp .NotIn) (rInT X.K true) := fun pins s σ H x y v u Q I rx ry h => by
  obtain ⟨d, ds, hd, he, sd, se, q⟩ := h
  obtain ⟨_, r1⟩ := Dp.reads I d x v hd rx
  obtain ⟨_, r2⟩ := Dp.reads I (.tuple ds) y u he ry
  exact SeqAt.notIn_tuple_reads r2 r1 (SeqAt.canLay_of_shaped se) (SeqAt.canLay_of_shaped sd) (room_in_shaped sd hu) ⟨.bl _, H, I, rfl, q⟩
theorem gInB_cases {F : Addr → Prop} {x y : V} {d e : PyData} {b : Bool} (px : Pk K H F x d) (py : Pk K H F y e) (h : gInB d e = some b) :
    (∃ c z, x = .str ⟨#[c]⟩ ∧ y = .str z ∧ b = decide (c ∈ z.cps.toList)) ∨
    (∃ ds, Dp K H x d ∧ Dp K H y (.list ds) ∧ SeqAt.shaped d = true ∧ SeqAt.shaped (.list ds) = true ∧ b = ds.any fun z => PyData.eqv z d) ∨
    (∃ ds, Dp K H x d ∧ Dp K H y (.tuple ds) ∧ SeqAt.shaped d = true ∧ SeqAt.shaped (.tuple ds) = true ∧ b = ds.any fun z => PyData.eqv z d) := by
  unfold gInB at h
  split at h
  · cases h; exact .inl ⟨_, _, px.str, py.str, rfl⟩
  · obtain ⟨h1, rfl⟩ := opt_if h
    obtain ⟨h2, h3⟩ := Bool.and_eq_true_iff.mp h1
    exact .inr (.inl ⟨_, px.dp, py.dp, h2, h3, rfl⟩)
  · obtain ⟨h1, rfl⟩ := opt_if h
    obtain ⟨h2, h3⟩ := Bool.and_eq_true_iff.mp h1
    exact .inr (.inr ⟨_, px.dp, py.dp, h2, h3, rfl⟩)
  · cases h
def rInX (K : PySem.W.Frag) : R2 := fun x y H Q => (∃ (c : Nat) (z : Str), x = .str ⟨#[c]⟩ ∧ y = .str z ∧ Q (.bl (decide (c ∈ z.cps.toList))) H) ∨ rInD K x y H Q ∨ rInT K false x y H Q
def rNotInX (K : PySem.W.Frag) : R2 := fun x y H Q => (∃ (c : Nat) (z : Str), x = .str ⟨#[c]⟩ ∧ y = .str z ∧ Q (.bl (!decide (c ∈ z.cps.toList))) H) ∨ rNotInD K x y H Q ∨ rInT K true x y H Q
theorem op_inX (hu : X.A.units + 65 < cLine) : OpR X (compareOp .In) (rInX X.K) := OpX.or op_in_sign (OpX.or (op_inD hu) (op_inT hu))
theorem op_notInX (hu : X.A.units + 65 < cLine) : OpR X (compareOp .NotIn) (rNotInX X.K) := OpX.or op_notIn_sign (OpX.or (op_notInD hu) (op_notInT hu))
theorem o_in : Op2 K (rInX K) gIn := fun H F x y d e z Q px py h q => by
  unfold gIn at h
  cases hb : gInB d e with
  | none => rw [hb] at h; cases h
  | some b =>
    rw [hb] at h; cases h
    have qq := q.val _ (.bl b) rfl (.bl _)
    rcases gInB_cases px py hb with ⟨c, z, h1, h2, rfl⟩ | ⟨ds, h1, h2, h3, h4, rfl⟩ | ⟨ds, h1, h2, h3, h4, rfl⟩
    · exact .inl ⟨c, z, h1, h2, qq⟩
    · exact .inr (.inl ⟨d, ds, h1, h2, h3, h4, qq⟩)
    · exact .inr (.inr ⟨d, ds, h1, h2, h3, h4, qq⟩)
theorem o_notIn : Op2 K (rNotInX K) gNotIn := fun H F x y d e z Q px py h q => by
  unfold gNotIn at h
  cases hb : gInB d e with
  | none => rw [hb] at h; cases h
  | some b =>
    rw [hb] at h; cases h
    have qq := q.val _ (.bl !b) rfl (.bl _)
    rcases gInB_cases px py hb with ⟨c, z, h1, h2, rfl⟩ | ⟨ds, h1, h2, h3, h4, rfl⟩ | ⟨ds, h1, h2, h3, h4, rfl⟩
    · exact .inl ⟨c, z, h1, h2, qq⟩
    · exact .inr (.inl ⟨d, ds, h1, h2, h3, h4, qq⟩)
    · exact .inr (.inr ⟨d, ds, h1, h2, h3, h4, qq⟩)
/-! x[i] -/
def gIx : PyData → PyData → Option Rv
  | .list ds, .int i => (atI ds i).map .val
  | .tuple ds, .int i => (atI ds i).map .val
  | .str z, .int i => if z.length ≤ sizeLine then (atI z.cps.toList i).map fun c => vS ⟨#[c]⟩ else none
  | _, _ => none
theorem FrAll.at {F : Addr → Prop} {xs : List V} {ds : List PyData} {i : Int} {e : PyData} (h : FrAll K H F xs ds) (he : atI ds i = some e) : ∃ v, atI xs i = some v ∧ Fr K H F v e := by
  unfold atI at he ⊢
  rw [h.len]
  cases q : ixN ds.length i with
  | none => rw [q] at he; cases he
  | some j => rw [q] at he; exact h.get he
theorem o_ix : Op2 K (rIx K) gIx := fun H F x y d e z Q px py h q => by
  unfold gIx at h
  split at h
  · obtain ⟨w, h1, rfl⟩ := Option.map_eq_some_iff.mp h
    obtain ⟨a, xs, rfl, e1, r1⟩ := px.list
    obtain ⟨v, h2, h3⟩ := r1.at h1
    exact .inl ⟨a, xs, _, v, rfl, py.int, e1, h2, q.val _ _ rfl h3⟩
  · obtain ⟨w, h1, rfl⟩ := Option.map_eq_some_iff.mp h
    obtain ⟨a, xs, rfl, e1, r1⟩ := px.tup
    obtain ⟨v, h2, h3⟩ := r1.at h1
    exact .inr (.inl ⟨a, xs, _, v, rfl, py.int, e1, h2, q.val _ _ rfl h3⟩)
  · split at h
    · rename_i hz
      obtain ⟨w, h1, rfl⟩ := Option.map_eq_some_iff.mp h
      exact .inr (.inr ⟨_, _, w, px.str, py.int, hz, h1, q.val _ _ rfl (.str _)⟩)
    · cases h
  · cases h
end Mi

/-! Mi5.lean -/
set_option Elab.async false
set_option linter.all false
set_option maxRecDepth 100000
/-! frozen arguments, displays, slices -/
namespace Mi
open PySem L2 PySem.Spec PyProof.Rows
variable {K : PySem.W.Frag} {α : List Addr} {r r' : En} {σ : L2.St} {H H' : Hp} {F F' : Addr → Prop}

/-- a value from now on immutable -/
def setLo (r : En) (l : Lo) (b : Bo) : En :=
  match l, b with
  | .slot i, .live o => { r with vs := r.vs.set i (some (.own o)) }
  | .slot i, .dead d => { r with vs := r.vs.set i (some (.val d)) }
  | .obj k, b => { r with os := r.os.set k b }
def frz (x : Rv) : M PyData := fun r =>
  match x with
  | .val d => .ok d r
  | .own (.lst ds) => .ok (.list ds) r
  | .own _ => .no
  | .at l => match look r l with
    | some (.dead d) => .ok d r
    | some (.live (.lst ds)) => .ok (.list ds) (setLo r l (.dead (.list ds)))
    | _ => .no
theorem look_slot {i : Nat} {o : Ob} (h : look r (.slot i) = some (.live o)) : r.vs[i]? = some (some (.own o)) := by
  unfold look at h
  simp only at h
  split at h
  · rename_i q; cases h; exact q
  · cases h
  · cases h
theorem look_dead {i : Nat} {d : PyData} (h : look r (.slot i) = some (.dead d)) : r.vs[i]? = some (some (.val d)) := by
  unfold look at h
  simp only at h
  split at h
  · cases h
  · rename_i q; cases h; exact q
  · cases h
theorem look_holds {l : Lo} {o : Ob} {a : Addr} (h : look r l = some (.live o)) (ha : LoAt α σ l a) : Holds α r σ l a := by
  cases l with
  | slot i => exact ⟨⟨o, look_slot h⟩, ha⟩
  | obj k => exact ⟨⟨o, h⟩, ha⟩
theorem set_get {β : Type} {xs : List β} {i j : Nat} {x y : β} (h : (xs.set i x)[j]? = some y) : (i = j ∧ x = y) ∨ (i ≠ j ∧ xs[j]? = some y) := by
  by_cases e : i = j
  · subst e
    by_cases hl : i < xs.length
    · rw [List.getElem?_set_self hl] at h; cases h; exact .inl ⟨rfl, rfl⟩
    · rw [List.getElem?_eq_none (by simpa using hl)] at h; cases h
  · rw [List.getElem?_set_ne e] at h; exact .inr ⟨e, h⟩
/-- who holds what behind setLo -/
theorem setLo_holds {l l' : Lo} {b : Bo} {a : Addr} (h : Holds α (setLo r l b) σ l' a) : (l' = l ∧ ∃ o, b = .live o) ∨ (l' ≠ l ∧ Holds α r σ l' a) := by
  cases l with
  | slot i =>
    cases b with
    | live o =>
      cases l' with
      | slot j =>
        obtain ⟨⟨o', q⟩, h2⟩ := h
        rcases set_get q with ⟨e, q⟩ | ⟨e, q⟩
        · subst e; exact .inl ⟨rfl, o, rfl⟩
        · exact .inr ⟨fun z => e (by cases z; rfl), ⟨o', q⟩, h2⟩
      | obj k => exact .inr ⟨nofun, h⟩
    | dead d =>
      cases l' with
      | slot j =>
        obtain ⟨⟨o', q⟩, h2⟩ := h
        rcases set_get q with ⟨e, q⟩ | ⟨e, q⟩
        · cases q
        · exact .inr ⟨fun z => e (by cases z; rfl), ⟨o', q⟩, h2⟩
      | obj k => exact .inr ⟨nofun, h⟩
  | obj k =>
    cases l' with
    | slot j => exact .inr ⟨nofun, by cases b <;> exact h⟩
    | obj j =>
      have h' : (∃ o, (r.os.set k b)[j]? = some (.live o)) ∧ α[j]? = some a := by cases b <;> exact h
      obtain ⟨⟨o', q⟩, h2⟩ := h'
      rcases set_get q with ⟨e, q2⟩ | ⟨e, q2⟩
      · subst e; exact .inl ⟨rfl, o', q2⟩
      · exact .inr ⟨fun z => e (by cases z; rfl), ⟨o', q2⟩, h2⟩
/-- the object at l is from now on immutable -/
theorem SR.kill (S : SR K α r σ H F) {l : Lo} {ds : List PyData} {a : Addr} (h : look r l = some (.live (.lst ds))) (ha : LoAt α σ l a) :
    SR K α (setLo r l (.dead (.list ds))) σ H (fun x => F x ∨ x = a) ∧ Fr K H (fun x => F x ∨ x = a) (.ref a) (.list ds) ∧ Own α r σ a ∧ (∀ x, Own α (setLo r l (.dead (.list ds))) σ x → Own α r σ x) := by
  have hh : Holds α r σ l a := look_holds h ha
  have st : Stay H F H (fun x => F x ∨ x = a) := ⟨fun _ h => .inl h, fun _ _ => rfl, fun _ _ h _ => h⟩
  have hold : ∃ xs, H a = some (.lst xs) ∧ FrAll K H F xs ds := by
    cases l with
    | slot i =>
      have q := look_slot h
      obtain ⟨v, h1, a', u, rfl, h3, xs, h4, h5⟩ := S.slot _ _ q
      have ha' : σ[i]? = some (some (V.ref a)) := ha
      rw [h1] at ha'; cases ha'; subst h4
      exact ⟨xs, h3, h5⟩
    | obj k =>
      have q : r.os[k]? = some (.live (.lst ds)) := h
      obtain ⟨a', h1, u, h3, xs, h4, h5⟩ := S.obj _ _ q
      have ha' : α[k]? = some a := ha
      rw [h1] at ha'; cases ha'; subst h4
      exact ⟨xs, h3, h5⟩
  obtain ⟨xs, hH, hx⟩ := hold
  have fr : Fr K H (fun x => F x ∨ x = a) (.ref a) (.list ds) := .own (.inr rfl) hH (hx.stay st)
  have own : ∀ l' x, Holds α (setLo r l (.dead (.list ds))) σ l' x → l' ≠ l ∧ Holds α r σ l' x := fun l' x q => by
    rcases setLo_holds q with ⟨_, o, z⟩ | z
    · cases z
    · exact z
  refine ⟨⟨?_, fun i s q => ?_, fun k b q => ?_, fun l1 l2 x q1 q2 => S.apart l1 l2 x (own _ _ q1).2 (own _ _ q2).2, fun l' x q z => ?_, fun x z => ?_⟩, fr, ⟨l, hh⟩, fun x ⟨l', q⟩ => ⟨l', (own _ _ q).2⟩⟩
  · cases l with
    | slot i => show (r.vs.set i _).length = _; rw [List.length_set]; exact S.len
    | obj k => exact S.len
  · have old : r.vs[i]? = some (some s) → ∃ v : V, σ[i]? = some (some v) ∧ SlR K α H (fun x => F x ∨ x = a) s v := fun q => by
      obtain ⟨v, h1, h2⟩ := S.slot i s q
      refine ⟨v, h1, ?_⟩
      cases s with
      | val d => exact Fr.stay st h2
      | own o => obtain ⟨b, u, e, h3, h4⟩ := h2; exact ⟨b, u, e, h3, h4.stay st⟩
      | bor k => exact h2
    cases l with
    | slot j =>
      rcases set_get (show (r.vs.set j (some (.val (.list ds))))[i]? = some (some s) from q) with ⟨e, q2⟩ | ⟨e, q2⟩
      · subst e
        cases q2
        exact ⟨.ref a, ha, fr⟩
      · exact old q2
    | obj k => exact old q
  · have old : r.os[k]? = some b → ∃ a', α[k]? = some a' ∧ BoR K H (fun x => F x ∨ x = a) b a' := fun q => by
      obtain ⟨v, h1, h2⟩ := S.obj k b q
      refine ⟨v, h1, ?_⟩
      cases b with
      | live o => obtain ⟨u, h3, h4⟩ := h2; exact ⟨u, h3, h4.stay st⟩
      | dead d => exact Fr.stay st h2
    cases l with
    | slot j => exact old q
    | obj j =>
      rcases set_get (show (r.os.set j (.dead (.list ds)))[k]? = some b from q) with ⟨e, q2⟩ | ⟨e, q2⟩
      · subst e
        subst q2
        exact ⟨a, ha, fr⟩
      · exact old q2
  · obtain ⟨n, q⟩ := own l' x q
    rcases z with z | z
    · exact S.sep l' x q z
    · subst z; exact n (S.apart l' l x q hh)
  · rcases z with z | z
    · exact S.fdom x z
    · subst z; exact ⟨_, hH⟩
theorem frz_ok (S : SR K α r σ H F) {x : Rv} {v : V} {d : PyData} (t : TR K α r σ H F x v) (e : frz x r = .ok d r') :
    ∃ F', SR K α r' σ H F' ∧ Fr K H F' v d ∧ Step (OwnT α r σ x v) H F H F' (Own α r' σ) ∧ (∀ a, Own α r' σ a → Own α r σ a) := by
  cases x with
  | val d' => cases e; exact ⟨F, S, t, Step.refl fun _ h => .inl h, fun _ h => h⟩
  | own o =>
    cases o with
    | dct _ => cases e
    | fdc _ => cases e
    | lst ds =>
      cases e
      obtain ⟨a, u, rfl, h1, ⟨xs, rfl, h2⟩, h3, h4⟩ := t
      have st : Stay H F H (fun x => F x ∨ x = a) := ⟨fun _ h => .inl h, fun _ _ => rfl, fun _ _ h _ => h⟩
      refine ⟨fun x => F x ∨ x = a, S.over st (fun _ _ => rfl) (fun x q z => ?_) (fun x z => ?_), .own (.inr rfl) h1 (h2.stay st), ⟨fun _ _ h _ => h, st, fun x z => ?_, fun x z => .inl (.inl z), fun _ h => h⟩, fun _ h => h⟩
      · rcases z with z | z
        · obtain ⟨l, q⟩ := q; exact S.sep l x q z
        · subst z; exact h4 q
      · rcases z with z | z
        · exact S.fdom x z
        · subst z; exact ⟨_, h1⟩
      · rcases z with z | z
        · exact .inl z
        · subst z; exact .inr (.inl (.inr ⟨⟨_, rfl⟩, rfl⟩))
  | «at» l =>
    obtain ⟨a, rfl, h⟩ := t
    have e : (match look r l with
      | some (.dead d) => (.ok d r : Res PyData)
      | some (.live (.lst ds)) => .ok (.list ds) (setLo r l (.dead (.list ds)))
      | _ => .no) = .ok d r' := e
    split at e
    · rename_i q
      cases e
      exact ⟨F, S, content_rel S (x := .at l) (b := .dead d) ⟨a, rfl, h⟩ q, Step.refl fun _ h => .inl h, fun _ h => h⟩
    · rename_i ds q
      cases e
      obtain ⟨S', f, o, oo⟩ := S.kill q h
      refine ⟨_, S', f, ⟨fun _ _ h _ => h, ⟨fun _ h => .inl h, fun _ _ => rfl, fun _ _ h _ => h⟩, fun x z => ?_, fun x z => .inl (.inl (oo x z)), fun _ h => h⟩, oo⟩
      rcases z with z | z
      · exact .inl z
      · subst z; exact .inr (.inl (.inl o))
    · cases e
theorem frz_ex {x : Rv} {r1 : En} {z : Exc} : frz x r ≠ .ex z r1 := fun h => by
  cases x with
  | val d => cases h
  | own o => cases o <;> cases h
  | «at» l =>
    have h : (match look r l with
      | some (.dead d) => (.ok d r : Res PyData)
      | some (.live (.lst ds)) => .ok (.list ds) (setLo r l (.dead (.list ds)))
      | _ => .no) = .ex z r1 := h
    split at h <;> cases h
/-- a list of frozen values -/
def AftL (K : PySem.W.Frag) (α : List Addr) (σ : L2.St) (O : Addr → Prop) (H : Hp) (F : Addr → Prop) (W : L2.WX) (x : Res (List PyData)) (Q : List V → Hp → Prop) : Prop :=
  match x with
  | .ok ds e => ∀ vs H' F', SR K α e σ H' F' → Step O H F H' F' (Own α e σ) → FrAll K H' F' vs ds → Q vs H'
  | .ex x e => AftX K α σ O H F W x e
  | .no => False
def tL (K : PySem.W.Frag) (α : List Addr) (W : L2.WX) (f : M (List PyData)) : TA := fun σ H Q => ∃ r F, SR K α r σ H F ∧ AftL K α σ (Own α r σ) H F W (f r) Q
def nilL : M (List PyData) := M.ret []
def consL (f : M Rv) (g : M (List PyData)) : M (List PyData) := M.bnd f fun x => M.bnd (frz x) fun d => M.bnd g fun ds => M.ret (d :: ds)
theorem tL_mono {f : M (List PyData)} {Q Q' : List V → Hp → Prop} (h : tL K α W f σ H Q) (q : ∀ v H1, Q v H1 → Q' v H1) : tL K α W f σ H Q' := by
  obtain ⟨r, F, S, a⟩ := h
  refine ⟨r, F, S, ?_⟩
  cases e : f r with
  | ok x r1 => rw [e] at a; exact fun v H1 F1 b c d => q _ _ (a v H1 F1 b c d)
  | ex x r1 => rw [e] at a; exact a
  | no => rw [e] at a; exact a
/-- f, then frozen, then more: what a rule's proof gets -/
theorem frz_bnd {β : Type} {f : M Rv} {g : PyData → M β} {P : Res β → Prop} (hno : ¬ P .no) (S : SR K α r σ H F) (hex : ∀ x e, P (.ex x e) → AftX K α σ (Own α r σ) H F W x e) (h : P (M.bnd f (fun x => M.bnd (frz x) g) r)) {Q : VK}
    (q : ∀ v H1 r1 F1 d, SR K α r1 σ H1 F1 → Step (Own α r σ) H F H1 F1 (Own α r1 σ) → Fr K H1 F1 v d → P (g d r1) → Q v H1) : tE K α W f σ H Q := by
  refine ⟨r, F, S, ?_⟩
  unfold M.bnd at h
  cases e : f r with
  | no => simp only [e] at h; exact absurd h hno
  | ex x r1 => simp only [e] at h; exact hex _ _ h
  | ok x r1 =>
    simp only [e] at h
    intro v H1 F1 S1 st t
    cases e2 : frz x r1 with
    | no => simp only [e2] at h; exact absurd h hno
    | ex z r2 => exact absurd e2 frz_ex
    | ok d r2 =>
      simp only [e2] at h
      obtain ⟨F2, S2, fr, st2, _⟩ := frz_ok S1 t e2
      exact q v H1 r2 F2 d S2 (st.trans st2 fun _ z => z) fr h
theorem cons_ok {f : M Rv} {g : M (List PyData)} {Q : List V → Hp → Prop} (h : tL K α W (consL f g) σ H Q) : tCons (tE K α W f) (tL K α W g) σ H Q := by
  obtain ⟨r, F, S, h⟩ := h
  refine frz_bnd (P := fun x => AftL K α σ (Own α r σ) H F W x Q) (fun z => z) S (fun _ _ z => z) h fun v H1 r1 F1 d S1 st fr h1 => ⟨r1, F1, S1, ?_⟩
  unfold M.bnd at h1
  cases e : g r1 with
  | no => rw [e] at h1; exact h1
  | ex x r2 => rw [e] at h1; exact AftX.step h1 st fun _ z => z
  | ok ds r2 =>
    rw [e] at h1
    exact fun vs H2 F2 S2 st2 frs => h1 (v :: vs) H2 F2 S2 (st.trans st2 fun _ z => z) (.cons (fr.stay st2.stay) frs)
theorem nilL_ok {Q : List V → Hp → Prop} (h : tL K α W nilL σ H Q) : tNil σ H Q := by
  obtain ⟨r, F, S, h⟩ := h
  exact h [] H F S (Step.refl fun _ z => z) .nil
def tupE (f : M (List PyData)) : M Rv := M.bnd f fun ds r => if ds.length ≤ sizeLine then .ok (.val (.tuple ds)) r else .no
def lstE (f : M (List PyData)) : M Rv := M.bnd f fun ds r => if ds.length ≤ sizeLine then .ok (.own (.lst ds)) r else .no
theorem tL_fin {f : M (List PyData)} {z : List PyData → Rv} {Q : VK} (S : SR K α r σ H F) (h : Aft K α σ (Own α r σ) H F W (M.bnd f (fun ds r => if ds.length ≤ sizeLine then .ok (z ds) r else .no) r) Q) :
    tL K α W f σ H fun vs H1 => ∃ F1 ds, FrAll K H1 F1 vs ds ∧ ds.length ≤ sizeLine ∧ Fin K H1 F1 (z ds) Q := by
  refine ⟨r, F, S, ?_⟩
  unfold M.bnd at h
  cases e : f r with
  | no => simp only [e] at h; exact h
  | ex x r1 => simp only [e] at h; exact h
  | ok ds r1 =>
    simp only [e] at h
    intro vs H1 F1 S1 st fr
    split at h
    · rename_i hz
      exact ⟨F1, ds, fr, hz, Aft.fin S1 (h.step st fun _ z => z)⟩
    · exact h.elim
section
variable {X : Cx} {e : Expr} {es : List Expr} {f : M Rv} {g : M (List PyData)} {pos : Pos}
theorem al_nil : PA X [] (tL K α W nilL) := pa_weak pa_nil fun _ _ _ q => nilL_ok q
theorem al_cons (h : PE X e (tE K α W f)) (h2 : PA X es (tL K α W g)) (hs : starEach (e :: es) X.env = (false, eval e X.env) :: starEach es X.env := by rfl) : PA X (e :: es) (tL K α W (consL f g)) := pa_weak (pa_cons h h2 hs) fun _ _ _ q => cons_ok q
theorem ev_tup {x1} (h : PA X es (tL K α W g)) : PE X (.Tuple es x1 pos) (tE K α W (tupE g)) := pe_weak (pe_tup h) fun σ H Q ⟨r, F, S, h⟩ =>
  tL_mono (tL_fin S h) fun vs H1 ⟨F1, ds, fr, hz, q⟩ => ⟨by rw [fr.len]; exact hz, fun p hp => q.tup ds vs p rfl hp fr⟩
theorem ev_lst (h : PA X es (tL K α W g)) : PE X (.List es pos) (tE K α W (lstE g)) := pe_weak (pe_lst h) fun σ H Q ⟨r, F, S, h⟩ =>
  tL_mono (tL_fin S h) fun vs H1 ⟨F1, ds, fr, hz, q⟩ => ⟨by rw [fr.len]; exact hz, fun p hp => q.new ds vs p rfl hp fr⟩
end
end Mi

/-! Mi6.lean -/
set_option Elab.async false
set_option linter.all false
set_option maxRecDepth 100000
/-! statements -/
namespace Mi
open PySem L2 PySem.Spec PyProof.Rows
variable {K : PySem.W.Frag} {α : List Addr} {r r' : En} {σ : L2.St} {H H' : Hp} {F F' : Addr → Prop}

inductive Out where
  | nx (r : En)
  | rt (x : Rv) (r : En)
  | bk (r : En)
  | ct (r : En)
  | ex (e : Exc) (r : En)
  | no
abbrev Stm := En → Out
def AftS (K : PySem.W.Frag) (α : List Addr) (O : Addr → Prop) (H : Hp) (F : Addr → Prop) (W : L2.WX) (x : Out) (D : Ends) : Prop :=
  match x with
  | .nx e => ∀ (σ' : L2.St) H' F', SR K α e σ' H' F' → Step O H F H' F' (Own α e σ') → D.nx σ' H'
  | .rt x e => ∀ v (σ' : L2.St) H' F', SR K α e σ' H' F' → Step O H F H' F' (OwnT α e σ' x v) → TR K α e σ' H' F' x v → D.rt v H'
  | .bk e => ∀ (σ' : L2.St) H' F', SR K α e σ' H' F' → Step O H F H' F' (Own α e σ') → D.bk σ' H'
  | .ct e => ∀ (σ' : L2.St) H' F', SR K α e σ' H' F' → Step O H F H' F' (Own α e σ') → D.ct σ' H'
  | .ex x e => ∀ σ', AftX K α σ' O H F W x e
  | .no => False
def tS (K : PySem.W.Frag) (α : List Addr) (W : L2.WX) (f : Stm) : TS := fun D σ H => ∃ r F, SR K α r σ H F ∧ AftS K α (Own α r σ) H F W (f r) D
theorem AftS.step {O O1 O1' : Addr → Prop} {H1 : Hp} {F1 : Addr → Prop} {W : L2.WX} {x : Out} {D : Ends} (h : AftS K α O H F W x D) (s : Step O H F H1 F1 O1) (h1 : ∀ a, O1' a → O1 a) : AftS K α O1' H1 F1 W x D := by
  cases x with
  | nx e => exact fun σ' H' F' a b => h σ' H' F' a (s.trans b h1)
  | rt x e => exact fun v σ' H' F' a b c => h v σ' H' F' a (s.trans b h1) c
  | bk e => exact fun σ' H' F' a b => h σ' H' F' a (s.trans b h1)
  | ct e => exact fun σ' H' F' a b => h σ' H' F' a (s.trans b h1)
  | ex x e => exact fun σ' => AftX.step (h σ') s h1
  | no => exact h
/-! ### sequences, if, return -/
def nxS : Stm := fun r => .nx r
def seqS (f g : Stm) : Stm := fun r => match f r with
  | .nx r1 => g r1
  | o => o
def ofM {β : Type} (f : M β) (g : β → En → Out) : Stm := fun r => match f r with
  | .ok x r1 => g x r1
  | .ex e r1 => .ex e r1
  | .no => .no
def ifS (t : M Bool) (f g : Stm) : Stm := ofM t fun c => if c = true then f else g
def retS (f : M Rv) : Stm := ofM f fun x r => .rt x r
def retN : Stm := fun r => .rt (.val .none) r
def dropS (f : M Rv) : Stm := ofM f fun _ r => .nx r
def brkS : Stm := fun r => .bk r
def cntS : Stm := fun r => .ct r
theorem ofM_E {f : M Rv} {g : Rv → En → Out} {D : Ends} (S : SR K α r σ H F) (h : AftS K α (Own α r σ) H F W (ofM f g r) D) :
    tE K α W f σ H fun v H1 => ∃ r1 F1 x, SR K α r1 σ H1 F1 ∧ Step (Own α r σ) H F H1 F1 (OwnT α r1 σ x v) ∧ TR K α r1 σ H1 F1 x v ∧ AftS K α (OwnT α r1 σ x v) H1 F1 W (g x r1) D := by
  refine ⟨r, F, S, ?_⟩
  unfold ofM at h
  cases e : f r with
  | ok x r1 =>
    rw [e] at h
    exact fun v H1 F1 a b c => ⟨r1, F1, x, a, b, c, h.step b fun _ z => z⟩
  | ex x r1 => rw [e] at h; exact h σ
  | no => rw [e] at h; exact h.elim
theorem ofM_B {β : Type} {f : M β} {g : β → En → Out} {D : Ends} (S : SR K α r σ H F) (h : AftS K α (Own α r σ) H F W (ofM f g r) D) :
    tB' K α W f σ H fun b H1 => tS K α W (g b) D σ H1 := by
  refine ⟨r, F, S, ?_⟩
  unfold ofM at h
  cases e : f r with
  | ok x r1 =>
    rw [e] at h
    exact fun H1 F1 a b => ⟨r1, F1, a, h.step b fun _ z => z⟩
  | ex x r1 => rw [e] at h; exact h σ
  | no => rw [e] at h; exact h.elim
theorem AftS.go (S : SR K α r σ H F) {D : Ends} {O : Addr → Prop} (h : AftS K α O H F W (.nx r) D) (ho : ∀ a, Own α r σ a → O a) : D.nx σ H := h σ H F S (Step.refl ho)
section
variable {X : Cx} {e : Expr} {st : Stmt} {rest a b : List Stmt} {f : M Rv} {p q : Stm} {t : M Bool} {pos : Pos}
theorem sv_nil : PSs X [] (tS K α W nxS) := pss_weak pss_nil fun D σ H ⟨r, F, S, h⟩ => AftS.go S h fun _ z => z
theorem sv_cons (h1 : PS X st (tS K α W p)) (h2 : PSs X rest (tS K α W q)) : PSs X (st :: rest) (tS K α W (seqS p q)) := pss_weak (pss_cons h1 h2) fun D σ H ⟨r, F, S, h⟩ => by
  refine ⟨r, F, S, ?_⟩
  unfold seqS at h
  cases e : p r with
  | nx r1 => rw [e] at h; exact fun σ' H' F' a b => ⟨r1, F', a, h.step b fun _ z => z⟩
  | rt x r1 => rw [e] at h; exact h
  | bk r1 => rw [e] at h; exact h
  | ct r1 => rw [e] at h; exact h
  | ex x r1 => rw [e] at h; exact h
  | no => rw [e] at h; exact h
theorem sv_one (h1 : PS X st (tS K α W p)) : PSs X [st] (tS K α W p) := pss_one h1
theorem sv_if {c : Expr} (hc : PT X c (tT K α W t)) (h1 : PSs X a (tS K α W p)) (h2 : PSs X b (tS K α W q)) : PS X (.If c a b pos) (tS K α W (ifS t p q)) := ps_weak (ps_if hc h1 h2) fun D σ H ⟨r, F, S, h⟩ =>
  tB_mono (ofM_B S h) fun b H1 h1 => by cases b with
    | true => exact h1
    | false => exact h1
theorem sv_ret (he : PE X e (tE K α W f)) : PS X (.Return (some e) pos) (tS K α W (retS f)) := ps_weak (ps_ret he) fun D σ H ⟨r, F, S, h⟩ =>
  tE_mono (ofM_E S h) fun v H1 ⟨r1, F1, x, S1, st, tr, h1⟩ => h1 v σ H1 F1 S1 (Step.refl fun _ z => z) tr
theorem sv_retN : PS X (.Return none pos) (tS K α W retN) := ps_weak ps_retN fun D σ H ⟨r, F, S, h⟩ => h .non σ H F S (Step.refl fun _ z => z.elim id fun ⟨⟨_, z⟩, _⟩ => nomatch z) .non
theorem sv_expr (he : PE X e (tE K α W f)) (hs : swapsWith e none pos.line X.env = pure false := by rfl) : PS X (.Expr e pos) (tS K α W (dropS f)) := ps_weak (ps_expr he hs) fun D σ H ⟨r, F, S, h⟩ =>
  tE_mono (ofM_E S h) fun v H1 ⟨r1, F1, x, S1, st, tr, h1⟩ => h1 σ H1 F1 S1 (Step.refl fun _ z => .inl z)
theorem sv_pass : PS X (.Pass pos) (tS K α W nxS) := ps_weak ps_pass fun D σ H ⟨r, F, S, h⟩ => AftS.go S h fun _ z => z
theorem sv_brk : PS X (.Break pos) (tS K α W brkS) := ps_weak ps_break fun D σ H ⟨r, F, S, h⟩ => h σ H F S (Step.refl fun _ z => z)
theorem sv_cnt : PS X (.Continue pos) (tS K α W cntS) := ps_weak ps_continue fun D σ H ⟨r, F, S, h⟩ => h σ H F S (Step.refl fun _ z => z)
/-- what is never reached -/
theorem sv_no : PS X st (tS K α W fun _ => .no) := ps_weak ps_never fun D σ H ⟨r, F, S, h⟩ => h.elim
end
/-! ### names stored -/
def put (r : En) (i : Nat) (s : Sl) : En := { r with vs := r.vs.set i (some s) }
def bindR (i : Nat) (x : Rv) : Stm := fun r => match x with
  | .val d => .nx (put r i (.val d))
  | .own o => .nx (put r i (.own o))
  | .at (.obj k) => match r.os[k]? with
    | some (.live _) => .nx (put r i (.bor k))
    | some (.dead d) => .nx (put r i (.val d))
    | none => .no
  | .at (.slot j) => match frz (.at (.slot j)) r with
    | .ok d r1 => .nx (put r1 i (.val d))
    | _ => .no
def setS (i : Nat) (f : M Rv) : Stm := ofM f fun x => bindR i x
theorem put_holds {i : Nat} {s : Sl} {v : V} {l : Lo} {a : Addr} (h : Holds α (put r i s) (σ.set i (some v)) l a) : (l = .slot i ∧ (∃ o, s = .own o) ∧ v = .ref a) ∨ (l ≠ .slot i ∧ Holds α r σ l a) := by
  cases l with
  | obj k => exact .inr ⟨nofun, h⟩
  | slot j =>
    obtain ⟨⟨o, q⟩, h2⟩ := h
    rcases set_get (show (r.vs.set i (some s))[j]? = _ from q) with ⟨e, q1⟩ | ⟨e, q1⟩
    · subst e
      rcases set_get (show (σ.set i (some v))[i]? = _ from h2) with ⟨_, q2⟩ | ⟨n, _⟩
      · injection q1 with q1; injection q2 with q2
        exact .inl ⟨rfl, ⟨o, q1⟩, q2⟩
      · exact absurd rfl n
    · rw [List.getElem?_set_ne e] at h2
      exact .inr ⟨fun z => e (by cases z; rfl), ⟨o, q1⟩, h2⟩
theorem SR.put (S : SR K α r σ H F) {i : Nat} {s : Sl} {v : V} (hs : SlR K α H F s v) (hn : ∀ o a, s = .own o → v = .ref a → ¬ F a ∧ ¬ Own α r σ a) : SR K α (put r i s) (σ.set i (some v)) H F where
  len := by show (r.vs.set i _).length = _; rw [List.length_set, List.length_set]; exact S.len
  slot := fun j s' q => by
    rcases set_get (show (r.vs.set i (some s))[j]? = some (some s') from q) with ⟨e, q1⟩ | ⟨e, q1⟩
    · subst e
      injection q1 with q1
      subst q1
      have hj : i < σ.length := by
        have : i < (r.vs.set i (some s)).length := (List.getElem?_eq_some_iff.mp q).1
        rw [List.length_set, S.len] at this
        exact this
      exact ⟨v, List.getElem?_set_self hj, hs⟩
    · obtain ⟨w, h1, h2⟩ := S.slot j s' q1
      exact ⟨w, by rw [List.getElem?_set_ne e]; exact h1, h2⟩
  obj := S.obj
  apart := fun l l' a h h' => by
    rcases put_holds h with ⟨e1, ⟨o, e2⟩, e3⟩ | ⟨n, h⟩
    · rcases put_holds h' with ⟨e1', _⟩ | ⟨n', h'⟩
      · rw [e1, e1']
      · exact absurd ⟨l', h'⟩ (hn o a e2 e3).2
    · rcases put_holds h' with ⟨e1, ⟨o, e2⟩, e3⟩ | ⟨n', h'⟩
      · exact absurd ⟨l, h⟩ (hn o a e2 e3).2
      · exact S.apart l l' a h h'
  sep := fun l a h => by
    rcases put_holds h with ⟨e1, ⟨o, e2⟩, e3⟩ | ⟨n, h⟩
    · exact (hn o a e2 e3).1
    · exact S.sep l a h
  fdom := S.fdom
theorem put_own {i : Nat} {s : Sl} {v : V} {a : Addr} (h : Own α (Mi.put r i s) (σ.set i (some v)) a) : Own α r σ a ∨ ((∃ o, s = .own o) ∧ v = .ref a) := by
  obtain ⟨l, h⟩ := h
  rcases put_holds h with ⟨_, e2, e3⟩ | ⟨_, h⟩
  · exact .inr ⟨e2, e3⟩
  · exact .inl ⟨l, h⟩
theorem bind_ok {i : Nat} {x : Rv} {v : V} {D : Ends} (S : SR K α r σ H F) (t : TR K α r σ H F x v) (h : AftS K α (OwnT α r σ x v) H F W (bindR i x r) D) : D.nx (σ.set i (some v)) H := by
  cases x with
  | val d =>
    refine h _ H F (S.put (s := .val d) t fun o a z => nomatch z) (Step.refl fun a z => ?_)
    rcases put_own z with z | ⟨⟨o, z⟩, _⟩
    · exact .inl z
    · cases z
  | own o =>
    obtain ⟨a, u, rfl, h1, h2, h3, h4⟩ := t
    refine h _ H F (S.put (s := .own o) ⟨a, u, rfl, h1, h2⟩ fun o' a' _ z => by cases z; exact ⟨h3, h4⟩) (Step.refl fun a' z => ?_)
    rcases put_own z with z | ⟨_, z⟩
    · exact .inl z
    · exact .inr ⟨⟨o, rfl⟩, z⟩
  | «at» l =>
    cases l with
    | obj k =>
      obtain ⟨a, rfl, ha⟩ := t
      have h : AftS K α (OwnT α r σ (.at (.obj k)) (.ref a)) H F W (match r.os[k]? with
        | some (.live _) => .nx (Mi.put r i (.bor k))
        | some (.dead d) => .nx (Mi.put r i (.val d))
        | none => .no) D := h
      split at h
      · refine h _ H F (S.put (s := .bor k) ⟨a, rfl, ha⟩ fun o a z => nomatch z) (Step.refl fun a z => ?_)
        rcases put_own z with z | ⟨⟨o, z⟩, _⟩
        · exact .inl z
        · cases z
      · rename_i d q
        obtain ⟨a', h1, h2⟩ := S.obj _ _ q
        have ha : α[k]? = some a := ha
        rw [h1] at ha; cases ha
        refine h _ H F (S.put (s := .val d) h2 fun o a z => nomatch z) (Step.refl fun a z => ?_)
        rcases put_own z with z | ⟨⟨o, z⟩, _⟩
        · exact .inl z
        · cases z
      · exact h.elim
    | slot j =>
      have h : AftS K α (OwnT α r σ (.at (.slot j)) v) H F W (match frz (.at (.slot j)) r with
        | .ok d r1 => .nx (Mi.put r1 i (.val d))
        | _ => .no) D := h
      cases e : frz (.at (.slot j)) r with
      | no => rw [e] at h; exact h.elim
      | ex z r1 => exact absurd e frz_ex
      | ok d r1 =>
        rw [e] at h
        obtain ⟨F1, S1, fr, st, oo⟩ := frz_ok S t e
        refine h _ H F1 (S1.put (s := .val d) fr fun o a z => nomatch z) (st.more fun a z => ?_)
        rcases put_own z with z | ⟨⟨o, z⟩, _⟩
        · exact z
        · cases z
/-- several names from a tuple -/
def bindL : List Nat → List PyData → En → Option En
  | [], [], r => some r
  | i :: is, d :: ds, r => bindL is ds (put r i (.val d))
  | _, _, _ => none
def unpS (is : List Nat) (f : M Rv) : Stm := ofM f fun x r => match peek r x with
  | some (.tuple ds) => match bindL is ds r with
    | some r1 => .nx r1
    | none => .no
  | some (.list ds) => .no
  | _ => .no
def gNames : List Nat → TGs
  | [] => gNil
  | i :: is => gCons (gName i) (gNames is)
theorem gNames_ok : ∀ {is : List Nat} {ds : List PyData} {vs : List V} {r r1 : En} {σ : L2.St} {H : Hp} {F : Addr → Prop} {Q : L2.St → Hp → Prop}, SR K α r σ H F → FrAll K H F vs ds → bindL is ds r = some r1 →
    (∀ σ', SR K α r1 σ' H F → (∀ a, Own α r1 σ' a → Own α r σ a) → Q σ' H) → vs.length = is.length ∧ gNames is vs σ H Q
  | [], [], _, _, _, _, _, _, _, S, .nil, e, q => by cases e; exact ⟨rfl, rfl, q _ S fun _ z => z⟩
  | i :: is, d :: ds, v :: vs, r, r1, σ, H, F, Q, S, .cons h1 h2, e, q => by
    have S1 : SR K α (put r i (.val d)) (σ.set i (some v)) H F := S.put (s := .val d) h1 fun o a z => nomatch z
    have own : ∀ a, Own α (put r i (.val d)) (σ.set i (some v)) a → Own α r σ a := fun a z => by
      rcases put_own z with z | ⟨⟨o, z⟩, _⟩
      · exact z
      · cases z
    obtain ⟨e1, e2⟩ := gNames_ok (Q := Q) S1 h2 e fun σ' S' o => q σ' S' fun a z => own a (o a z)
    exact ⟨by simp [e1], v, vs, rfl, e2⟩
section
variable {X : Cx} {e tg : Expr} {f : M Rv} {pos : Pos}
theorem sv_set {i : Nat} {x : Str} {pos' : Pos} (hN : X.N.Nodup) (hi : X.N[i]? = some x) (hx : Loc X.env.scope x) (he : PE X e (tE K α W f)) (hs : swapsWith e (some (.Name x pos')) pos.line X.env = pure false := by rfl) (hf : X.fn x = true ∨ X.env.scope.names.lookup x = some .local := by first | exact .inl rfl | exact .inr rfl | assumption) :
    PS X (.Assign [.Name x pos'] e pos) (tS K α W (setS i f)) := ps_weak (ps_set hN hi hx he hs hf) fun D σ H ⟨r, F, S, h⟩ =>
  tE_mono (ofM_E S h) fun v H1 ⟨r1, F1, x, S1, st, tr, h1⟩ => bind_ok S1 tr h1
theorem sv_unp {is : List Nat} (he : PE X e (tE X.K α W f)) (hg : PG X tg (gTup X.K is.length (gNames is))) (hs : swapsWithSole [tg] e pos.line X.env = pure false := by rfl) (hw : swappedStores [tg] e X.env = pure none := by rfl)
    (h1 : (assignEach [tg] X.env).map (·.2) = [assign tg X.env] := by rfl) : PS X (.Assign [tg] e pos) (tS X.K α W (unpS is f)) := ps_weak (ps_asg he hg hs hw h1) fun D σ H ⟨r, F, S, h⟩ =>
  tE_mono (ofM_E S h) fun v H1 ⟨r1, F1, x, S1, st, tr, h1⟩ => by
    cases e1 : peek r1 x with
    | none => simp only [e1] at h1; exact h1.elim
    | some d =>
      simp only [e1] at h1
      split at h1
      · rename_i ds q
        cases q
        cases e2 : bindL is ds r1 with
        | none => simp only [e2] at h1; exact h1.elim
        | some r2 =>
          simp only [e2] at h1
          obtain ⟨a, xs, rfl, hx, fr⟩ := (peek_rel S1 tr e1).tup
          obtain ⟨l, g⟩ := gNames_ok (Q := D.nx) S1 fr e2 fun σ' S' o => h1 σ' H1 F1 S' (Step.refl fun a z => .inl (o a z))
          exact ⟨a, xs, rfl, hx, l, g⟩
      · exact h1.elim
      · exact h1.elim
end
/-! ### objects changed -/
theorem SR.writeG (S : SR K α r σ H F) {l : Lo} {o o' : Ob} {a : Addr} {u' : HO} (h : look r l = some (.live o)) (ha : LoAt α σ l a) (ho : ObR K (upd H a u') F o' u') (sF : ∀ v d, Fr K H F v d → Fr K (upd H a u') F v d) (sO : ∀ o u, ObR K H F o u → ObR K (upd H a u') F o u) :
    SR K α (setLo r l (.live o')) σ (upd H a u') F ∧ (∀ l' x, Holds α (setLo r l (.live o')) σ l' x → Holds α r σ l' x) := by
  have hh : Holds α r σ l a := look_holds h ha
  have nF : ¬ F a := S.sep l a hh
  have own : ∀ l' x, Holds α (setLo r l (.live o')) σ l' x → Holds α r σ l' x := fun l' x q => by
    rcases setLo_holds q with ⟨e, _⟩ | ⟨_, z⟩
    · subst e
      have : x = a := by
        have q2 := q.lo
        cases l' with
        | slot i => have q2 : σ[i]? = some (some (V.ref x)) := q2; have ha : σ[i]? = some (some (V.ref a)) := ha; rw [ha] at q2; cases q2; rfl
        | obj k => have q2 : α[k]? = some x := q2; have ha : α[k]? = some a := ha; rw [ha] at q2; cases q2; rfl
      exact this ▸ hh
    · exact z
  refine ⟨⟨?_, fun i s q => ?_, fun k b q => ?_, fun l1 l2 x q1 q2 => S.apart l1 l2 x (own _ _ q1) (own _ _ q2), fun l' x q => S.sep l' x (own _ _ q), fun x z => ?_⟩, own⟩
  · cases l with
    | slot i => show (r.vs.set i _).length = _; rw [List.length_set]; exact S.len
    | obj k => exact S.len
  · have old : r.vs[i]? = some (some s) → l ≠ .slot i → ∃ v : V, σ[i]? = some (some v) ∧ SlR K α (upd H a u') F s v := fun q n => by
      obtain ⟨v, h1, h2⟩ := S.slot i s q
      refine ⟨v, h1, ?_⟩
      cases s with
      | val d => exact sF _ _ h2
      | own o =>
        obtain ⟨b, w, e, h3, h4⟩ := h2
        subst e
        refine ⟨b, w, rfl, ?_, sO _ _ h4⟩
        rw [upd_ne (show b ≠ a from fun e => n (S.apart l (.slot i) a hh ⟨⟨o, q⟩, by rw [← e]; exact h1⟩))]
        exact h3
      | bor k => exact h2
    cases l with
    | slot j =>
      rcases set_get (show (r.vs.set j (some (.own o')))[i]? = some (some s) from q) with ⟨e, q2⟩ | ⟨e, q2⟩
      · subst e
        cases q2
        exact ⟨.ref a, ha, a, u', rfl, upd_same, ho⟩
      · exact old q2 fun z => e (by cases z; rfl)
    | obj k => exact old q nofun
  · have old : r.os[k]? = some b → l ≠ .obj k → ∃ a', α[k]? = some a' ∧ BoR K (upd H a u') F b a' := fun q n => by
      obtain ⟨v, h1, h2⟩ := S.obj k b q
      refine ⟨v, h1, ?_⟩
      cases b with
      | live o =>
        obtain ⟨w, h3, h4⟩ := h2
        refine ⟨w, ?_, sO _ _ h4⟩
        rw [upd_ne (show v ≠ a from fun e => n (S.apart l (.obj k) a hh ⟨⟨o, q⟩, by rw [← e]; exact h1⟩))]
        exact h3
      | dead d => exact sF _ _ h2
    cases l with
    | slot j => exact old q nofun
    | obj j =>
      rcases set_get (show (r.os.set j (.live o'))[k]? = some b from q) with ⟨e, q2⟩ | ⟨e, q2⟩
      · subst e
        subst q2
        exact ⟨a, ha, u', upd_same, ho⟩
      · exact old q2 fun z => e (by cases z; rfl)
  · obtain ⟨w, q⟩ := S.fdom x z
    exact ⟨w, by rw [upd_ne (fun e => nF (by rw [← e]; exact z))]; exact q⟩
theorem SR.write (S : SR K α r σ H F) {l : Lo} {o o' : Ob} {a : Addr} {u' : HO} (h : look r l = some (.live o)) (ha : LoAt α σ l a) (ho : ObR K H F o' u') (nf : ∀ kvs, o ≠ .fdc kvs := by nofun) :
    SR K α (setLo r l (.live o')) σ (upd H a u') F ∧ Step (Own α r σ) H F (upd H a u') F (Own α (setLo r l (.live o')) σ) ∧ (∀ x, Own α (setLo r l (.live o')) σ x → Own α r σ x) := by
  have hh : Holds α r σ l a := look_holds h ha
  obtain ⟨a', u, e', hH, hr⟩ : ∃ a' u, V.ref a = .ref a' ∧ H a' = some u ∧ ObR K H F o u := content_rel S (x := .at l) (b := .live o) ⟨a, rfl, ha⟩ h
  cases e'
  have nF : ¬ F a := S.sep l a hh
  have st : Stay H F (upd H a u') F := ⟨fun _ h => h, fun x q => upd_ne (fun e => nF (e ▸ q)), fun x w q i => by
    by_cases e : x = a
    · subst e; rw [hH] at q; cases q; rw [hr.mut nf] at i; cases i
    · rw [upd_ne e]; exact q⟩
  obtain ⟨S', own⟩ := S.writeG h ha (ho.stay st) (fun _ _ z => Fr.stay st z) fun _ _ z => z.stay st
  refine ⟨S', ⟨fun x w q n => by rw [upd_ne (show x ≠ a from fun e => n (by rw [e]; exact ⟨l, hh⟩))]; exact q, st, fun x z => .inl z, fun x ⟨l', q⟩ => .inl ⟨l', own _ _ q⟩, fun x q => ?_⟩, fun x ⟨l', q⟩ => ⟨l', own _ _ q⟩⟩
  by_cases e : x = a
  · subst e; rw [upd_same] at q; cases q
  · rwa [upd_ne e] at q
end Mi

/-! Mi7.lean -/
set_option Elab.async false
set_option linter.all false
set_option maxRecDepth 100000
/-! defs and their calls -/
namespace Mi
open PySem L2 PySem.Spec PyProof.Rows
variable {K : PySem.W.Frag} {α : List Addr} {r r' : En} {σ : L2.St} {H H' : Hp} {F F' : Addr → Prop}

/-! ### a list of results, nothing frozen -/
def Tm (xs : List Rv) (vs : List V) (a : Addr) : Prop := ∃ (i : Nat) (o : Ob), xs[i]? = some (.own o) ∧ vs[i]? = some (.ref a)
def OwnTs (α : List Addr) (r : En) (σ : L2.St) (xs : List Rv) (vs : List V) (a : Addr) : Prop := Own α r σ a ∨ Tm xs vs a
structure TRs (K : PySem.W.Frag) (α : List Addr) (r : En) (σ : L2.St) (H : Hp) (F : Addr → Prop) (xs : List Rv) (vs : List V) : Prop where
  all : Paired (TR K α r σ H F) xs vs
  one : ∀ (i j : Nat) (o o' : Ob) (a : Addr), xs[i]? = some (.own o) → vs[i]? = some (.ref a) → xs[j]? = some (.own o') → vs[j]? = some (.ref a) → i = j
def AftR (K : PySem.W.Frag) (α : List Addr) (σ : L2.St) (O : Addr → Prop) (H : Hp) (F : Addr → Prop) (W : L2.WX) (x : Res (List Rv)) (Q : List V → Hp → Prop) : Prop :=
  match x with
  | .ok xs e => ∀ vs H' F', SR K α e σ H' F' → Step O H F H' F' (OwnTs α e σ xs vs) → TRs K α e σ H' F' xs vs → Q vs H'
  | .ex x e => AftX K α σ O H F W x e
  | .no => False
def tR (K : PySem.W.Frag) (α : List Addr) (W : L2.WX) (f : M (List Rv)) : TA := fun σ H Q => ∃ r F, SR K α r σ H F ∧ AftR K α σ (Own α r σ) H F W (f r) Q
def nilR : M (List Rv) := M.ret []
def consR (f : M Rv) (g : M (List Rv)) : M (List Rv) := M.bnd f fun x => M.bnd g fun xs => M.ret (x :: xs)
theorem tR_mono {f : M (List Rv)} {Q Q' : List V → Hp → Prop} (h : tR K α W f σ H Q) (q : ∀ v H1, Q v H1 → Q' v H1) : tR K α W f σ H Q' := by
  obtain ⟨r, F, S, a⟩ := h
  refine ⟨r, F, S, ?_⟩
  cases e : f r with
  | ok x r1 => rw [e] at a; exact fun v H1 F1 b c d => q _ _ (a v H1 F1 b c d)
  | ex x r1 => rw [e] at a; exact a
  | no => rw [e] at a; exact a
theorem Step.widen {O P : Addr → Prop} {O' P' : Addr → Prop} (s : Step O H F H' F' O') (h : ∀ a, O a → P a) (h' : ∀ a, P' a → O' a ∨ P a) : Step P H F H' F' P' :=
  ⟨fun a o q n => s.keep a o q fun z => n (h a z), s.stay, fun a z => (s.nfz a z).imp id fun z => z.imp (h a) id, fun a z => (h' a z).elim (fun z => (s.own a z).imp (h a) id) .inl, s.dom⟩
theorem tm_cons {x : Rv} {v : V} {xs : List Rv} {vs : List V} {a : Addr} (h : Tm (x :: xs) (v :: vs) a) : ((∃ o, x = .own o) ∧ v = .ref a) ∨ Tm xs vs a := by
  obtain ⟨i, o, h1, h2⟩ := h
  cases i with
  | zero => simp at h1 h2; exact .inl ⟨⟨o, h1⟩, h2⟩
  | succ i => exact .inr ⟨i, o, by simpa using h1, by simpa using h2⟩
theorem nilR_ok {Q : List V → Hp → Prop} (h : tR K α W nilR σ H Q) : tNil σ H Q := by
  obtain ⟨r, F, S, h⟩ := h
  exact h [] H F S (Step.refl fun _ z => z.elim id fun ⟨i, o, z, _⟩ => by simp at z) ⟨.nil, fun i j o o' a z => by simp at z⟩
theorem consR_ok {f : M Rv} {g : M (List Rv)} {Q : List V → Hp → Prop} (h : tR K α W (consR f g) σ H Q) : tCons (tE K α W f) (tR K α W g) σ H Q := by
  obtain ⟨r, F, S, h⟩ := h
  refine ⟨r, F, S, ?_⟩
  unfold consR M.bnd at h
  cases e : f r with
  | no => simp only [e] at h; exact h
  | ex x r1 => simp only [e] at h; exact h
  | ok x r1 =>
    simp only [e] at h
    intro v H1 F1 S1 st1 t1
    refine ⟨r1, F1, S1, ?_⟩
    cases e2 : g r1 with
    | no => simp only [e2] at h; exact h
    | ex x r1 => simp only [e2] at h; exact AftX.step h st1 fun _ z => .inl z
    | ok xs r2 =>
      simp only [e2] at h
      intro vs H2 F2 S2 st2 t2
      have sub : ∀ a, Own α r2 σ a → OwnTs α r2 σ xs vs a := fun _ z => .inl z
      refine h (v :: vs) H2 F2 S2 (st1.trans (st2.widen (fun a z => .inl z) fun a z => ?_) fun _ z => z) ⟨.cons (t1.step st2 sub) t2.all, ?_⟩
      · exact (show OwnTs α r2 σ (x :: xs) (v :: vs) a from z).elim (fun z => .inl (.inl z)) fun z => (tm_cons z).elim (fun z => .inr (.inr z)) fun z => .inl (.inr z)
      · have apart : ∀ (o : Ob) (a : Addr), x = .own o → v = .ref a → ¬ Tm xs vs a := fun o a e1 e2 z => by
          subst e1 e2
          obtain ⟨a', u, e3, h3, _, _, h4⟩ := t1
          cases e3
          rcases st2.own a (.inr z) with q | q
          · exact h4 q
          · rw [h3] at q; cases q
        intro i j o o' a h1 h2 h3 h4
        cases i with
        | zero =>
          simp at h1 h2
          cases j with
          | zero => rfl
          | succ j => exact absurd ⟨j, o', by simpa using h3, by simpa using h4⟩ (apart o a h1 h2)
        | succ i =>
          cases j with
          | zero => simp at h3 h4; exact absurd ⟨i, o, by simpa using h1, by simpa using h2⟩ (apart o' a h3 h4)
          | succ j => rw [t2.one i j o o' a (by simpa using h1) (by simpa using h2) (by simpa using h3) (by simpa using h4)]
/-! ### a def's run -/
inductive Ag where
  | val (d : PyData)
  | own (o : Ob)
  | ref (o : Ob)
inductive FR where
  | ret (x : Rv) (os : List Bo)
  | ex (e : Exc) (os : List Bo)
  | no
def entVs : List Ag → Nat → List (Option Sl)
  | [], _ => []
  | .val d :: as, k => some (.val d) :: entVs as k
  | .own o :: as, k => some (.own o) :: entVs as k
  | .ref o :: as, k => some (.bor k) :: entVs as (k + 1)
def entOs : List Ag → List Bo
  | [] => []
  | .val _ :: as => entOs as
  | .own _ :: as => entOs as
  | .ref o :: as => .live o :: entOs as
def entry (n : Nat) (as : List Ag) : En := ⟨entVs as 0 ++ List.replicate (n - as.length) none, entOs as⟩
def finish (x : Out) : FR := match x with
  | .nx r => .ret (.val .none) r.os
  | .rt x r => match x with
    | .val d => .ret (.val d) r.os
    | .own o => .ret (.own o) r.os
    | .at (.slot i) => match look r (.slot i) with
      | some (.live o) => .ret (.own o) r.os
      | some (.dead d) => .ret (.val d) r.os
      | none => .no
    | .at (.obj k) => match frz (.at (.obj k)) r with
      | .ok d r1 => .ret (.val d) r1.os
      | _ => .no
  | .ex e r => .ex e r.os
  | _ => .no
def runF (np n : Nat) (bd : Stm) (as : List Ag) : FR := if as.length = np then finish (bd (entry n as)) else .no
/-- the promise of a def with the body bd: n names, np parameters -/
def spF (K : PySem.W.Frag) (np n : Nat) (bd : Stm) : Sp := fun vs H Q E => vs.length = np ∧ ∃ (as : List Ag) (β : List Addr) (F : Addr → Prop) (N : List Str), N.length = n ∧ SR K β (entry n as) (L2.start N vs) H F ∧
  AftS K β (Own β (entry n as) (L2.start N vs)) H F (fun cls d _ H2 => E cls d H2) (bd (entry n as)) { nx := fun _ H' => Q .non H', rt := Q }
/-! ### the caller's side -/
def agOf (r : En) : Rv → Option (Ag × Option Lo)
  | .val d => some (.val d, none)
  | .own o => some (.own o, none)
  | .at l => match look r l with
    | some (.live o) => some (.ref o, some l)
    | some (.dead d) => some (.val d, none)
    | none => none
def agsOf (r : En) : List Rv → Option (List Ag × List Lo)
  | [] => some ([], [])
  | x :: xs => match agOf r x, agsOf r xs with
    | some (a, some l), some (as, ls) => some (a :: as, l :: ls)
    | some (a, none), some (as, ls) => some (a :: as, ls)
    | _, _ => none
def back : List Lo → List Bo → En → En
  | l :: ls, b :: bs, r => back ls bs (setLo r l b)
  | _, _, r => r
def noDup : List Lo → Bool
  | [] => true
  | l :: ls => !ls.contains l && noDup ls
def callF (G : List Ag → FR) (xs : List Rv) : M Rv := fun r =>
  match agsOf r xs with
  | some (as, ls) => if noDup ls = true then (match G as with
      | .ret x os => if os.length = ls.length then .ok x (back ls os r) else .no
      | .ex e os => if os.length = ls.length then .ex e (back ls os r) else .no
      | .no => .no) else .no
  | none => .no
/-! entering -/
inductive EA (K : PySem.W.Frag) (H : Hp) (F : Addr → Prop) : List Ag → List V → List Addr → Prop
  | nil : EA K H F [] [] []
  | val {v d as vs β} : Fr K H F v d → EA K H F as vs β → EA K H F (.val d :: as) (v :: vs) β
  | own {a u o as vs β} : H a = some u → ObR K H F o u → EA K H F as vs β → EA K H F (.own o :: as) (.ref a :: vs) β
  | ref {a u o as vs β} : H a = some u → ObR K H F o u → EA K H F as vs β → EA K H F (.ref o :: as) (.ref a :: vs) (a :: β)
theorem EA.len : ∀ {as : List Ag} {vs : List V} {β : List Addr}, EA K H F as vs β → as.length = vs.length
  | _, _, _, .nil => rfl
  | _, _, _, .val _ h => by simp [EA.len h]
  | _, _, _, .own _ _ h => by simp [EA.len h]
  | _, _, _, .ref _ _ h => by simp [EA.len h]
theorem EA.slot : ∀ {as : List Ag} {vs : List V} {β : List Addr} (k i : Nat) (s : Sl), EA K H F as vs β → (entVs as k)[i]? = some (some s) →
    (∃ d v, s = .val d ∧ vs[i]? = some v ∧ Fr K H F v d) ∨ (∃ o a u, s = .own o ∧ as[i]? = some (.own o) ∧ vs[i]? = some (.ref a) ∧ H a = some u ∧ ObR K H F o u) ∨ (∃ j a, s = .bor (k + j) ∧ vs[i]? = some (.ref a) ∧ β[j]? = some a)
  | _, _, _, _, _, _, .nil, e => by simp [entVs] at e
  | _, _, _, k, 0, s, .val h1 h, e => by
    simp [entVs] at e
    exact .inl ⟨_, _, e.symm, rfl, h1⟩
  | _, _, _, k, 0, s, .own h1 h2 h, e => by
    simp [entVs] at e
    exact .inr (.inl ⟨_, _, _, e.symm, rfl, rfl, h1, h2⟩)
  | _, _, _, k, 0, s, .ref h1 h2 h, e => by
    simp [entVs] at e
    exact .inr (.inr ⟨0, _, e.symm, rfl, rfl⟩)
  | _, _, _, k, i + 1, s, .val h1 h, e => by
    have e : (entVs _ k)[i]? = some (some s) := e
    simpa using EA.slot k i s h e
  | _, _, _, k, i + 1, s, .own h1 h2 h, e => by
    have e : (entVs _ k)[i]? = some (some s) := e
    simpa using EA.slot k i s h e
  | _, _, _, k, i + 1, s, .ref h1 h2 h, e => by
    have e : (entVs _ (k + 1))[i]? = some (some s) := e
    rcases EA.slot (k + 1) i s h e with ⟨d, v, q1, q2, q3⟩ | ⟨o, a, u, q1, q2, q3⟩ | ⟨j, a, q1, q2, q3⟩
    · exact .inl ⟨d, v, q1, by simpa using q2, q3⟩
    · exact .inr (.inl ⟨o, a, u, q1, by simpa using q2, by simpa using q3⟩)
    · exact .inr (.inr ⟨j + 1, a, by rw [q1]; congr 1; omega, by simpa using q2, by simpa using q3⟩)
theorem EA.obj : ∀ {as : List Ag} {vs : List V} {β : List Addr} (k : Nat) (b : Bo), EA K H F as vs β → (entOs as)[k]? = some b → ∃ o a u, b = .live o ∧ β[k]? = some a ∧ H a = some u ∧ ObR K H F o u
  | _, _, _, _, _, .nil, e => by simp [entOs] at e
  | _, _, _, k, b, .val h1 h, e => EA.obj k b h e
  | _, _, _, k, b, .own h1 h2 h, e => EA.obj k b h e
  | _, _, _, 0, b, .ref h1 h2 h, e => by
    have e : some (Bo.live _) = some b := e
    cases e
    exact ⟨_, _, _, rfl, rfl, h1, h2⟩
  | _, _, _, k + 1, b, .ref h1 h2 h, e => by
    obtain ⟨o, a, u, q1, q2, q3⟩ := EA.obj k b h e
    exact ⟨o, a, u, q1, by simpa using q2, q3⟩
theorem EA.objs : ∀ {as : List Ag} {vs : List V} {β : List Addr}, EA K H F as vs β → (entOs as).length = β.length
  | _, _, _, .nil => rfl
  | _, _, _, .val _ h => (EA.objs h : _)
  | _, _, _, .own _ _ h => (EA.objs h : _)
  | _, _, _, .ref _ _ h => by simp [entOs, EA.objs h]
theorem start_get {N : List Str} {vs : List V} {i : Nat} {v : V} (h : vs[i]? = some v) : (L2.start N vs)[i]? = some (some v) := by
  have hi : i < vs.length := (List.getElem?_eq_some_iff.mp h).1
  unfold L2.start
  rw [List.getElem?_append_left (by simpa using hi), List.getElem?_map, h]
  rfl
theorem start_some {N : List Str} {vs : List V} {i : Nat} {v : V} (h : (L2.start N vs)[i]? = some (some v)) : vs[i]? = some v := by
  unfold L2.start at h
  by_cases hi : i < vs.length
  · rw [List.getElem?_append_left (by simpa using hi), List.getElem?_map] at h
    cases e : vs[i]? with
    | none => rw [e] at h; cases h
    | some w => rw [e] at h; cases h; rfl
  · rw [List.getElem?_append_right (by simpa using hi), List.getElem?_replicate] at h
    split at h <;> cases h
theorem entVs_len : ∀ (as : List Ag) (k : Nat), (entVs as k).length = as.length
  | [], _ => rfl
  | .val _ :: as, k => by simp [entVs, entVs_len as k]
  | .own _ :: as, k => by simp [entVs, entVs_len as k]
  | .ref _ :: as, k => by simp [entVs, entVs_len as (k + 1)]
theorem entry_slot {n : Nat} {as : List Ag} {i : Nat} {s : Sl} (h : (entry n as).vs[i]? = some (some s)) : (entVs as 0)[i]? = some (some s) := by
  have h : (entVs as 0 ++ List.replicate (n - as.length) none)[i]? = some (some s) := h
  by_cases hi : i < (entVs as 0).length
  · rwa [List.getElem?_append_left hi] at h
  · rw [List.getElem?_append_right (by omega), List.getElem?_replicate] at h
    split at h <;> cases h
/-- who is held at an entry -/
theorem entry_holds {N : List Str} {n : Nat} {as : List Ag} {vs : List V} {β : List Addr} (E : EA K H F as vs β) {l : Lo} {a : Addr} (h : Holds β (entry n as) (L2.start N vs) l a) :
    (∃ (i : Nat) (o : Ob), l = .slot i ∧ as[i]? = some (.own o) ∧ vs[i]? = some (.ref a)) ∨ ∃ k : Nat, l = .obj k ∧ β[k]? = some a := by
  cases l with
  | slot i =>
    obtain ⟨⟨o, q⟩, h2⟩ := h
    have h2 := start_some h2
    rcases E.slot 0 i _ (entry_slot q) with ⟨d, v, q1, _⟩ | ⟨o', a', u, q1, q2, q3, q4⟩ | ⟨j, a', q1, _⟩
    · cases q1
    · exact .inl ⟨i, o', rfl, q2, h2⟩
    · cases q1
  | obj k => exact .inr ⟨k, rfl, h.2⟩
theorem entry_SR {N : List Str} {n : Nat} {as : List Ag} {vs : List V} {β : List Addr} (E : EA K H F as vs β) (hN : N.length = n) (hn : vs.length ≤ n)
    (fd : ∀ a, F a → ∃ u, H a = some u) (d1 : ∀ (i j : Nat) (o o' : Ob) (a : Addr), as[i]? = some (.own o) → vs[i]? = some (.ref a) → as[j]? = some (.own o') → vs[j]? = some (.ref a) → i = j)
    (d2 : ∀ (i : Nat) (o : Ob) (a : Addr) (k : Nat), as[i]? = some (.own o) → vs[i]? = some (.ref a) → β[k]? ≠ some a) (d3 : ∀ (k k' : Nat) (a : Addr), β[k]? = some a → β[k']? = some a → k = k')
    (s1 : ∀ (i : Nat) (o : Ob) (a : Addr), as[i]? = some (.own o) → vs[i]? = some (.ref a) → ¬ F a) (s2 : ∀ (k : Nat) (a : Addr), β[k]? = some a → ¬ F a) : SR K β (entry n as) (L2.start N vs) H F where
  len := by
    show (entVs as 0 ++ List.replicate (n - as.length) none).length = (vs.map some ++ List.replicate (N.length - vs.length) none).length
    have e1 := E.len
    simp only [List.length_append, entVs_len, List.length_replicate, List.length_map]
    omega
  slot := fun i s q => by
    rcases E.slot 0 i s (entry_slot q) with ⟨d, v, q1, q2, q3⟩ | ⟨o, a, u, q1, q2, q3, q4, q5⟩ | ⟨j, a, q1, q2, q3⟩
    · subst q1; exact ⟨v, start_get q2, q3⟩
    · subst q1; exact ⟨_, start_get q3, a, u, rfl, q4, q5⟩
    · subst q1; exact ⟨_, start_get q2, a, rfl, by simpa using q3⟩
  obj := fun k b q => by
    obtain ⟨o, a, u, q1, q2, q3, q4⟩ := E.obj k b q
    subst q1
    exact ⟨a, q2, u, q3, q4⟩
  apart := fun l l' a h h' => by
    rcases entry_holds E h with ⟨i, o, rfl, h1, h2⟩ | ⟨k, rfl, h1⟩
    · rcases entry_holds E h' with ⟨j, o', rfl, h1', h2'⟩ | ⟨k', rfl, h1'⟩
      · rw [d1 i j o o' a h1 h2 h1' h2']
      · exact absurd h1' (d2 i o a k' h1 h2)
    · rcases entry_holds E h' with ⟨j, o', rfl, h1', h2'⟩ | ⟨k', rfl, h1'⟩
      · exact absurd h1 (d2 j o' a k h1' h2')
      · rw [d3 k k' a h1 h1']
  sep := fun l a h => by
    rcases entry_holds E h with ⟨i, o, rfl, h1, h2⟩ | ⟨k, rfl, h1⟩
    · exact s1 i o a h1 h2
    · exact s2 k a h1
  fdom := fd
/-- the arguments of a call -/
theorem ags_ea (S : SR K α r σ H F) : ∀ {xs : List Rv} {vs : List V} {as : List Ag} {ls : List Lo}, Paired (TR K α r σ H F) xs vs → agsOf r xs = some (as, ls) →
    ∃ β, EA K H F as vs β ∧ Paired (Holds α r σ) ls β ∧ ∀ (i : Nat) (o : Ob), as[i]? = some (.own o) → xs[i]? = some (.own o)
  | [], _, _, _, .nil, e => by cases e; exact ⟨[], .nil, .nil, fun i o z => by simp at z⟩
  | x :: xs, v :: vs, as, ls, .cons t p, e => by
    unfold agsOf at e
    split at e
    · rename_i a l as1 ls1 q1 q2
      cases e
      obtain ⟨β, E, P, o1⟩ := ags_ea S p q2
      cases x with
      | val d => cases q1
      | own o => cases q1
      | «at» l1 =>
        obtain ⟨b, rfl, hb⟩ := t
        have q1 : (match look r l1 with
          | some (.live o) => some (Ag.ref o, some l1)
          | some (.dead d) => some (.val d, none)
          | none => none) = some (a, some l) := q1
        split at q1
        · rename_i o ho
          cases q1
          have hh := look_holds ho hb
          obtain ⟨b', u, e3, h3, h4⟩ := content_rel S (x := .at l) (b := .live o) ⟨b, rfl, hb⟩ ho
          cases e3
          exact ⟨b :: β, .ref h3 h4 E, .cons hh P, fun i o' z => by
            cases i with
            | zero => simp at z
            | succ i => simpa using o1 i o' (by simpa using z)⟩
        · cases q1
        · cases q1
    · rename_i a as1 ls1 q1 q2
      cases e
      obtain ⟨β, E, P, o1⟩ := ags_ea S p q2
      cases x with
      | val d =>
        cases q1
        exact ⟨β, .val t E, P, fun i o' z => by
          cases i with
          | zero => simp at z
          | succ i => simpa using o1 i o' (by simpa using z)⟩
      | own o =>
        cases q1
        obtain ⟨b, u, rfl, h3, h4, _⟩ := t
        exact ⟨β, .own h3 h4 E, P, fun i o' z => by
          cases i with
          | zero => simpa using z
          | succ i => simpa using o1 i o' (by simpa using z)⟩
      | «at» l1 =>
        have q1 : (match look r l1 with
          | some (.live o) => some (Ag.ref o, some l1)
          | some (.dead d) => some (.val d, none)
          | none => none) = some (a, none) := q1
        split at q1
        · cases q1
        · rename_i d ho
          cases q1
          have := content_rel S (x := .at l1) t ho
          exact ⟨β, .val this E, P, fun i o' z => by
            cases i with
            | zero => simp at z
            | succ i => simpa using o1 i o' (by simpa using z)⟩
        · cases q1
    · cases e
/-! coming back -/
structure SX (K : PySem.W.Frag) (α : List Addr) (r : En) (σ : L2.St) (H : Hp) (F : Addr → Prop) (P : Lo → Prop) : Prop where
  len : r.vs.length = σ.length
  slot : ∀ (i : Nat) (s : Sl), r.vs[i]? = some (some s) → ¬ P (.slot i) → ∃ v : V, σ[i]? = some (some v) ∧ SlR K α H F s v
  obj : ∀ (k : Nat) (b : Bo), r.os[k]? = some b → ¬ P (.obj k) → ∃ a, α[k]? = some a ∧ BoR K H F b a
  apart : ∀ l l' a, ¬ P l → ¬ P l' → Holds α r σ l a → Holds α r σ l' a → l = l'
  sep : ∀ l a, ¬ P l → Holds α r σ l a → ¬ F a
  fdom : ∀ a, F a → ∃ u, H a = some u
theorem setLo_slot {l : Lo} {b : Bo} {i : Nat} {s : Sl} (h : (setLo r l b).vs[i]? = some (some s)) : (l = .slot i ∧ ((∃ o, b = .live o ∧ s = .own o) ∨ ∃ d, b = .dead d ∧ s = .val d)) ∨ (l ≠ .slot i ∧ r.vs[i]? = some (some s)) := by
  cases l with
  | obj k => exact .inr ⟨nofun, by cases b <;> exact h⟩
  | slot j =>
    cases b with
    | live o =>
      rcases set_get (show (r.vs.set j (some (.own o)))[i]? = _ from h) with ⟨e, q⟩ | ⟨e, q⟩
      · subst e; injection q with q; exact .inl ⟨rfl, .inl ⟨o, rfl, q.symm⟩⟩
      · exact .inr ⟨fun z => e (by cases z; rfl), q⟩
    | dead d =>
      rcases set_get (show (r.vs.set j (some (.val d)))[i]? = _ from h) with ⟨e, q⟩ | ⟨e, q⟩
      · subst e; injection q with q; exact .inl ⟨rfl, .inr ⟨d, rfl, q.symm⟩⟩
      · exact .inr ⟨fun z => e (by cases z; rfl), q⟩
theorem setLo_obj {l : Lo} {b c : Bo} {k : Nat} (h : (setLo r l b).os[k]? = some c) : (l = .obj k ∧ c = b) ∨ (l ≠ .obj k ∧ r.os[k]? = some c) := by
  cases l with
  | slot j => exact .inr ⟨nofun, by cases b <;> exact h⟩
  | obj j =>
    have h : (r.os.set j b)[k]? = some c := by cases b <;> exact h
    rcases set_get h with ⟨e, q⟩ | ⟨e, q⟩
    · subst e; exact .inl ⟨rfl, q.symm⟩
    · exact .inr ⟨fun z => e (by cases z; rfl), q⟩
theorem setLo_len {l : Lo} {b : Bo} : (setLo r l b).vs.length = r.vs.length := by
  cases l with
  | slot j => cases b <;> exact List.length_set
  | obj j => cases b <;> rfl
theorem SX.one {P Q : Lo → Prop} (S : SX K α r σ H F P) {l : Lo} {b : Bo} {a : Addr} (hp : ∀ l', P l' → l' = l ∨ Q l') (ha : LoAt α σ l a) (hb : BoR K H F b a) (hl : ∀ o, b = .live o → ¬ F a ∧ ∀ l', ¬ P l' → ¬ Holds α r σ l' a) :
    SX K α (setLo r l b) σ H F Q where
  len := setLo_len.trans S.len
  slot := fun i s q n => by
    rcases setLo_slot q with ⟨e, ⟨o, e1, e2⟩ | ⟨d, e1, e2⟩⟩ | ⟨e, q⟩
    · subst e e1 e2; obtain ⟨u, h1, h2⟩ := hb; exact ⟨.ref a, ha, a, u, rfl, h1, h2⟩
    · subst e e1 e2; exact ⟨.ref a, ha, hb⟩
    · exact S.slot i s q fun z => (hp _ z).elim (fun z => e z.symm) n
  obj := fun k c q n => by
    rcases setLo_obj q with ⟨e, e1⟩ | ⟨e, q⟩
    · subst e e1; exact ⟨a, ha, hb⟩
    · exact S.obj k c q fun z => (hp _ z).elim (fun z => e z.symm) n
  apart := fun l1 l2 x n1 n2 h1 h2 => by
    have addr : ∀ x, LoAt α σ l x → x = a := fun x q => by
      cases l with
      | slot i => have q : σ[i]? = some (some (V.ref x)) := q; have ha : σ[i]? = some (some (V.ref a)) := ha; rw [ha] at q; cases q; rfl
      | obj k => have q : α[k]? = some x := q; have ha : α[k]? = some a := ha; rw [ha] at q; cases q; rfl
    rcases setLo_holds h1 with ⟨e1, o, eb⟩ | ⟨e1, q1⟩
    · subst e1
      have ex := addr x h1.lo
      subst ex
      rcases setLo_holds h2 with ⟨e2, _⟩ | ⟨e2, q2⟩
      · exact e2.symm
      · exact absurd q2 ((hl o eb).2 l2 fun z => (hp _ z).elim e2 n2)
    · rcases setLo_holds h2 with ⟨e2, o, eb⟩ | ⟨e2, q2⟩
      · subst e2
        have ex := addr x h2.lo
        subst ex
        exact absurd q1 ((hl o eb).2 l1 fun z => (hp _ z).elim e1 n1)
      · exact S.apart l1 l2 x (fun z => (hp _ z).elim e1 n1) (fun z => (hp _ z).elim e2 n2) q1 q2
  sep := fun l1 x n1 h1 => by
    rcases setLo_holds h1 with ⟨e1, o, eb⟩ | ⟨e1, q1⟩
    · subst e1
      have : x = a := by
        have q := h1.lo
        cases l1 with
        | slot i => have q : σ[i]? = some (some (V.ref x)) := q; have ha : σ[i]? = some (some (V.ref a)) := ha; rw [ha] at q; cases q; rfl
        | obj k => have q : α[k]? = some x := q; have ha : α[k]? = some a := ha; rw [ha] at q; cases q; rfl
      exact this ▸ (hl o eb).1
    · exact S.sep l1 x (fun z => (hp _ z).elim e1 n1) q1
  fdom := S.fdom
theorem back_ok : ∀ {ls : List Lo} {os : List Bo} {β : List Addr} {r : En}, SX K α r σ H F (fun l => l ∈ ls) → Paired (LoAt α σ) ls β → os.length = ls.length →
    (∀ (k : Nat) (b : Bo) (a : Addr), os[k]? = some b → β[k]? = some a → BoR K H F b a ∧ ∀ o, b = .live o → ¬ F a) → (∀ (k k' : Nat) (o o' : Ob) (a : Addr), os[k]? = some (.live o) → β[k]? = some a → os[k']? = some (.live o') → β[k']? = some a → k = k') → noDup ls = true →
    (∀ l a, l ∉ ls → Holds α r σ l a → ∀ (k : Nat) (o : Ob), os[k]? = some (.live o) → β[k]? ≠ some a) →
    SR K α (back ls os r) σ H F ∧ ∀ l a, Holds α (back ls os r) σ l a → (Holds α r σ l a ∧ l ∉ ls) ∨ ∃ (k : Nat) (o : Ob), ls[k]? = some l ∧ os[k]? = some (.live o) ∧ β[k]? = some a
  | [], [], _, r, S, .nil, _, _, _, _, _ => ⟨⟨S.len, fun i s q => S.slot i s q (by simp), fun k b q => S.obj k b q (by simp), fun l l' a => S.apart l l' a (by simp) (by simp), fun l a => S.sep l a (by simp), S.fdom⟩, fun l a h => .inl ⟨h, by simp⟩⟩
  | [], _ :: _, _, _, _, _, e, _, _, _, _ => by simp at e
  | _ :: _, [], _, _, _, _, e, _, _, _, _ => by simp at e
  | l :: ls, b :: os, a :: β, r, S, .cons h P, e, hb, hd, hn, ho => by
    have hn1 : l ∉ ls ∧ noDup ls = true := by
      have hn : (!ls.contains l && noDup ls) = true := hn
      rw [Bool.and_eq_true] at hn
      exact ⟨by simpa using hn.1, hn.2⟩
    have addr : ∀ x, LoAt α σ l x → x = a := fun x q => by
      cases l with
      | slot i => have q : σ[i]? = some (some (V.ref x)) := q; have h : σ[i]? = some (some (V.ref a)) := h; rw [h] at q; cases q; rfl
      | obj k => have q : α[k]? = some x := q; have h : α[k]? = some a := h; rw [h] at q; cases q; rfl
    have S1 : SX K α (setLo r l b) σ H F (fun l' => l' ∈ ls) := S.one (fun l' z => List.mem_cons.mp z) h (hb 0 b a rfl rfl).1 fun o eb => ⟨(hb 0 b a rfl rfl).2 o eb, fun l' n q => ho l' a n q 0 o (by rw [eb]; rfl) rfl⟩
    obtain ⟨R, ow⟩ := back_ok (os := os) S1 P (by simpa using e) (fun k c x q1 q2 => hb (k + 1) c x (by simpa using q1) (by simpa using q2))
      (fun k k' o o' x q1 q2 q3 q4 => by have := hd (k + 1) (k' + 1) o o' x (by simpa using q1) (by simpa using q2) (by simpa using q3) (by simpa using q4); omega) hn1.2
      (fun l' x n q k o q1 q2 => by
        rcases setLo_holds q with ⟨e1, o', eb⟩ | ⟨e1, q⟩
        · subst e1
          have ex := addr x q.lo
          subst ex
          have := hd 0 (k + 1) o' o x (by rw [eb]; rfl) rfl (by simpa using q1) (by simpa using q2)
          omega
        · exact ho l' x (fun z => (List.mem_cons.mp z).elim e1 n) q (k + 1) o (by simpa using q1) (by simpa using q2))
    refine ⟨R, fun l' x q => ?_⟩
    rcases ow l' x q with ⟨q, n⟩ | ⟨k, o, q1, q2, q3⟩
    · rcases setLo_holds q with ⟨e1, o', eb⟩ | ⟨e1, q⟩
      · subst e1
        exact .inr ⟨0, o', rfl, by rw [eb]; rfl, by rw [addr x q.lo]; rfl⟩
      · exact .inl ⟨q, fun z => (List.mem_cons.mp z).elim e1 n⟩
    · exact .inr ⟨k + 1, o, by simpa using q1, by simpa using q2, by simpa using q3⟩
def callE (G : List Ag → FR) (f : M (List Rv)) : M Rv := M.bnd f fun xs => callF G xs
end Mi

/-! Mi8.lean -/
set_option Elab.async false
set_option linter.all false
set_option maxRecDepth 100000
/-! calls -/
namespace Mi
open PySem L2 PySem.Spec PyProof.Rows
variable {K : PySem.W.Frag} {α : List Addr} {r r' : En} {σ : L2.St} {H H' : Hp} {F F' : Addr → Prop}

theorem paired_get {β γ : Type} {P : β → γ → Prop} : ∀ {xs : List β} {ys : List γ} {k : Nat} {y : γ}, Paired P xs ys → ys[k]? = some y → ∃ x, xs[k]? = some x ∧ P x y
  | _, _, _, _, .nil, h => by simp at h
  | _, _, 0, _, .cons a b, h => by simp at h; subst h; exact ⟨_, rfl, a⟩
  | _, _, k + 1, _, .cons a b, h => by
    obtain ⟨x, h1, h2⟩ := paired_get (k := k) b (by simpa using h)
    exact ⟨x, by simpa using h1, h2⟩
theorem paired_len {β γ : Type} {P : β → γ → Prop} : ∀ {xs : List β} {ys : List γ}, Paired P xs ys → xs.length = ys.length
  | _, _, .nil => rfl
  | _, _, .cons a b => by simp [paired_len b]
theorem noDup_get : ∀ {ls : List Lo} {i j : Nat} {l : Lo}, noDup ls = true → ls[i]? = some l → ls[j]? = some l → i = j
  | [], _, _, _, _, h, _ => by simp at h
  | x :: ls, i, j, l, n, h1, h2 => by
    have n : (!ls.contains x && noDup ls) = true := n
    rw [Bool.and_eq_true] at n
    have nx : x ∉ ls := by simpa using n.1
    cases i with
    | zero =>
      cases j with
      | zero => rfl
      | succ j => simp at h1 h2; subst h1; exact absurd (List.mem_of_getElem? h2) nx
    | succ i =>
      cases j with
      | zero => simp at h1 h2; subst h2; exact absurd (List.mem_of_getElem? h1) nx
      | succ j => exact congrArg Nat.succ (noDup_get (l := l) n.2 (by simpa using h1) (by simpa using h2))
/-- behind a call: from what the callee has left to the caller's state -/
theorem call_end {xs : List Rv} {vs : List V} {ls : List Lo} {β : List Addr} {Oc P : Addr → Prop} {os : List Bo} {x : Rv} {v : V} {Q : VK} {W : L2.WX}
    (S : SR K α r σ H F) (T : TRs K α r σ H F xs vs) (B : Paired (Holds α r σ) ls β) (nd : noDup ls = true) (oc : ∀ a, Oc a → Tm xs vs a ∨ ∃ k : Nat, β[k]? = some a)
    (st : Step Oc H F H' F' P) (hl : os.length = ls.length) (bo : ∀ (k : Nat) (b : Bo), os[k]? = some b → ∃ a, β[k]? = some a ∧ BoR K H' F' b a)
    (lv : ∀ (k : Nat) (o : Ob) (a : Addr), os[k]? = some (.live o) → β[k]? = some a → ¬ F' a) (fd : ∀ a, F' a → ∃ u, H' a = some u)
    (hx : match x with
      | .val d => Fr K H' F' v d
      | .own o => ∃ a u, v = .ref a ∧ H' a = some u ∧ ObR K H' F' o u ∧ ¬ F' a ∧ P a ∧ ∀ (k : Nat) (o' : Ob), os[k]? = some (.live o') → β[k]? ≠ some a
      | .at _ => False)
    (h : Aft K α σ (OwnTs α r σ xs vs) H F W (.ok x (back ls os r)) Q) : Q v H' := by
  -- an address held by the caller, of no argument
  have out : ∀ l a, l ∉ ls → Holds α r σ l a → ¬ Oc a := fun l a n q z => by
    rcases oc a z with z | ⟨k, z⟩
    · obtain ⟨i, o, e1, e2⟩ := z
      obtain ⟨y, e3, t⟩ := paired_get T.all e2
      rw [e1] at e3; cases e3
      obtain ⟨a', u, e4, _, _, _, n2⟩ := t
      cases e4
      exact n2 ⟨l, q⟩
    · obtain ⟨l', e1, q'⟩ := paired_get B z
      have := S.apart l l' a q q'
      subst this
      exact n (List.mem_of_getElem? e1)
  have nF : ∀ l a, l ∉ ls → Holds α r σ l a → ¬ F' a := fun l a n q z => by
    rcases st.nfz a z with z | z | z
    · exact S.sep l a q z
    · exact out l a n q z
    · obtain ⟨_, u, e, _⟩ := q.has S
      rw [e] at z; cases z
  have SX0 : SX K α r σ H' F' (fun l => l ∈ ls) := {
    len := S.len
    slot := fun i s q n => by
      obtain ⟨w, h1, h2⟩ := S.slot i s q
      refine ⟨w, h1, ?_⟩
      cases s with
      | val d => exact Fr.stay st.stay h2
      | own o =>
        obtain ⟨a, u, rfl, h3, h4⟩ := h2
        exact ⟨a, u, rfl, st.keep a u h3 (out _ a n ⟨⟨o, q⟩, h1⟩), h4.stay st.stay⟩
      | bor k => exact h2
    obj := fun k b q n => by
      obtain ⟨a, h1, h2⟩ := S.obj k b q
      refine ⟨a, h1, ?_⟩
      cases b with
      | live o =>
        obtain ⟨u, h3, h4⟩ := h2
        exact ⟨u, st.keep a u h3 (out _ a n ⟨⟨o, q⟩, h1⟩), h4.stay st.stay⟩
      | dead d => exact Fr.stay st.stay h2
    apart := fun l l' a _ _ q q' => S.apart l l' a q q'
    sep := fun l a n q => nF l a n q
    fdom := fd }
  obtain ⟨R, ow⟩ := back_ok SX0 (paired_imp (fun _ _ q => q.lo) B) hl (fun k b a q1 q2 => by
      obtain ⟨a', q3, q4⟩ := bo k b q1
      rw [q2] at q3; cases q3
      exact ⟨q4, fun o e => lv k o a (by rw [q1, e]) q2⟩)
    (fun k k' o o' a q1 q2 q3 q4 => by
      obtain ⟨l, e1, p1⟩ := paired_get B q2
      obtain ⟨l', e2, p2⟩ := paired_get B q4
      have := S.apart l l' a p1 p2
      subst this
      exact noDup_get nd e1 e2) nd
    (fun l a n q k o q1 q2 => by
      obtain ⟨l', e1, p1⟩ := paired_get B q2
      have := S.apart l l' a q p1
      subst this
      exact n (List.mem_of_getElem? e1))
  have sub : ∀ a, Oc a → OwnTs α r σ xs vs a := fun a z => (oc a z).elim .inr fun ⟨k, z⟩ => by
    obtain ⟨l, _, p⟩ := paired_get B z
    exact .inl ⟨l, p⟩
  have own2 : ∀ a, Own α (back ls os r) σ a → OwnTs α r σ xs vs a := fun a ⟨l, q⟩ => by
    rcases ow l a q with ⟨q, _⟩ | ⟨k, o, e1, e2, e3⟩
    · exact .inl ⟨l, q⟩
    · obtain ⟨l', _, p⟩ := paired_get B e3
      exact .inl ⟨l', p⟩
  refine h v H' F' R (st.widen sub fun a z => ?_) ?_
  · rcases z with z | ⟨⟨o, e⟩, e2⟩
    · exact .inr (own2 a z)
    · subst e
      obtain ⟨a', u, e3, _, _, _, p, _⟩ := hx
      rw [e3] at e2; cases e2
      exact .inl p
  · cases x with
    | val d => exact hx
    | «at» l => exact hx.elim
    | own o =>
      obtain ⟨a, u, e3, h1, h2, h3, p, h4⟩ := hx
      refine ⟨a, u, e3, h1, h2, h3, fun ⟨l, q⟩ => ?_⟩
      rcases ow l a q with ⟨q, n⟩ | ⟨k, o', e1, e2, e4⟩
      · rcases st.own a p with z | z
        · exact out l a n q z
        · obtain ⟨_, w, e, _⟩ := q.has S
          rw [e] at z; cases z
      · exact h4 k o' e2 e4
/-- behind a call: from what the callee has left to the caller's state -/
theorem call_state {xs : List Rv} {vs : List V} {ls : List Lo} {β : List Addr} {Oc P : Addr → Prop} {os : List Bo}
    (S : SR K α r σ H F) (T : TRs K α r σ H F xs vs) (B : Paired (Holds α r σ) ls β) (nd : noDup ls = true) (oc : ∀ a, Oc a → Tm xs vs a ∨ ∃ k : Nat, β[k]? = some a)
    (st : Step Oc H F H' F' P) (hl : os.length = ls.length) (bo : ∀ (k : Nat) (b : Bo), os[k]? = some b → ∃ a, β[k]? = some a ∧ BoR K H' F' b a)
    (lv : ∀ (k : Nat) (o : Ob) (a : Addr), os[k]? = some (.live o) → β[k]? = some a → ¬ F' a) (fd : ∀ a, F' a → ∃ u, H' a = some u) : SR K α (back ls os r) σ H' F' ∧ Step (OwnTs α r σ xs vs) H F H' F' (Own α (back ls os r) σ) := by
  -- an address held by the caller, of no argument
  have out : ∀ l a, l ∉ ls → Holds α r σ l a → ¬ Oc a := fun l a n q z => by
    rcases oc a z with z | ⟨k, z⟩
    · obtain ⟨i, o, e1, e2⟩ := z
      obtain ⟨y, e3, t⟩ := paired_get T.all e2
      rw [e1] at e3; cases e3
      obtain ⟨a', u, e4, _, _, _, n2⟩ := t
      cases e4
      exact n2 ⟨l, q⟩
    · obtain ⟨l', e1, q'⟩ := paired_get B z
      have := S.apart l l' a q q'
      subst this
      exact n (List.mem_of_getElem? e1)
  have nF : ∀ l a, l ∉ ls → Holds α r σ l a → ¬ F' a := fun l a n q z => by
    rcases st.nfz a z with z | z | z
    · exact S.sep l a q z
    · exact out l a n q z
    · obtain ⟨_, u, e, _⟩ := q.has S
      rw [e] at z; cases z
  have SX0 : SX K α r σ H' F' (fun l => l ∈ ls) := {
    len := S.len
    slot := fun i s q n => by
      obtain ⟨w, h1, h2⟩ := S.slot i s q
      refine ⟨w, h1, ?_⟩
      cases s with
      | val d => exact Fr.stay st.stay h2
      | own o =>
        obtain ⟨a, u, rfl, h3, h4⟩ := h2
        exact ⟨a, u, rfl, st.keep a u h3 (out _ a n ⟨⟨o, q⟩, h1⟩), h4.stay st.stay⟩
      | bor k => exact h2
    obj := fun k b q n => by
      obtain ⟨a, h1, h2⟩ := S.obj k b q
      refine ⟨a, h1, ?_⟩
      cases b with
      | live o =>
        obtain ⟨u, h3, h4⟩ := h2
        exact ⟨u, st.keep a u h3 (out _ a n ⟨⟨o, q⟩, h1⟩), h4.stay st.stay⟩
      | dead d => exact Fr.stay st.stay h2
    apart := fun l l' a _ _ q q' => S.apart l l' a q q'
    sep := fun l a n q => nF l a n q
    fdom := fd }
  obtain ⟨R, ow⟩ := back_ok SX0 (paired_imp (fun _ _ q => q.lo) B) hl (fun k b a q1 q2 => by
      obtain ⟨a', q3, q4⟩ := bo k b q1
      rw [q2] at q3; cases q3
      exact ⟨q4, fun o e => lv k o a (by rw [q1, e]) q2⟩)
    (fun k k' o o' a q1 q2 q3 q4 => by
      obtain ⟨l, e1, p1⟩ := paired_get B q2
      obtain ⟨l', e2, p2⟩ := paired_get B q4
      have := S.apart l l' a p1 p2
      subst this
      exact noDup_get nd e1 e2) nd
    (fun l a n q k o q1 q2 => by
      obtain ⟨l', e1, p1⟩ := paired_get B q2
      have := S.apart l l' a q p1
      subst this
      exact n (List.mem_of_getElem? e1))
  have sub : ∀ a, Oc a → OwnTs α r σ xs vs a := fun a z => (oc a z).elim .inr fun ⟨k, z⟩ => by
    obtain ⟨l, _, p⟩ := paired_get B z
    exact .inl ⟨l, p⟩
  have own2 : ∀ a, Own α (back ls os r) σ a → OwnTs α r σ xs vs a := fun a ⟨l, q⟩ => by
    rcases ow l a q with ⟨q, _⟩ | ⟨k, o, e1, e2, e3⟩
    · exact .inl ⟨l, q⟩
    · obtain ⟨l', _, p⟩ := paired_get B e3
      exact .inl ⟨l', p⟩
  exact ⟨R, st.widen sub fun a z => .inr (own2 a z)⟩
theorem call_ok {xs : List Rv} {vs : List V} {np n : Nat} {bd : Stm} {Q : VK} {W : L2.WX} (hn : np ≤ n) (S : SR K α r σ H F) (T : TRs K α r σ H F xs vs)
    (h : Aft K α σ (OwnTs α r σ xs vs) H F W (callF (runF np n bd) xs r) Q) : spF K np n bd vs H Q (fun cls d H2 => W cls d σ H2) := by
  unfold callF at h
  cases e : agsOf r xs with
  | none => rw [e] at h; exact h.elim
  | some p =>
    obtain ⟨as, ls⟩ := p
    rw [e] at h
    simp only at h
    split at h
    · rename_i nd
      obtain ⟨β, E, B, ox⟩ := ags_ea S T.all e
      have el := E.len
      unfold runF at h
      by_cases hp0 : as.length = np
      case neg => rw [if_neg hp0] at h; exact h.elim
      rw [if_pos hp0] at h
      have hp : vs.length = np := el.symm.trans hp0
      refine ⟨hp, ?_⟩
      have hNl : (List.replicate n ("" : Str)).length = n := List.length_replicate
      have tm : ∀ (i : Nat) (o : Ob) (a : Addr), as[i]? = some (.own o) → vs[i]? = some (.ref a) → Tm xs vs a := fun i o a q1 q2 => ⟨i, o, ox i o q1, q2⟩
      have tmO : ∀ a, Tm xs vs a → ¬ F a ∧ ¬ Own α r σ a := fun a ⟨i, o, q1, q2⟩ => by
        obtain ⟨y, e3, t⟩ := paired_get T.all q2
        rw [q1] at e3; cases e3
        obtain ⟨a', u, e4, _, _, n1, n2⟩ := t
        cases e4
        exact ⟨n1, n2⟩
      have S0 := entry_SR (n := n) E hNl (by omega) S.fdom (fun i j o o' a q1 q2 q3 q4 => T.one i j o o' a (ox i o q1) q2 (ox j o' q3) q4)
        (fun i o a k q1 q2 q3 => by
          obtain ⟨l, _, p⟩ := paired_get B q3
          exact (tmO a (tm i o a q1 q2)).2 ⟨l, p⟩)
        (fun k k' a q1 q2 => by
          obtain ⟨l, e1, p1⟩ := paired_get B q1
          obtain ⟨l', e2, p2⟩ := paired_get B q2
          have := S.apart l l' a p1 p2
          subst this
          exact noDup_get nd e1 e2)
        (fun i o a q1 q2 => (tmO a (tm i o a q1 q2)).1) (fun k a q => by
          obtain ⟨l, _, p⟩ := paired_get B q
          exact S.sep l a p)
      have oc : ∀ a, Own β (entry n as) (L2.start (List.replicate n ("" : Str)) vs) a → Tm xs vs a ∨ ∃ k : Nat, β[k]? = some a := fun a ⟨l, q⟩ => by
        rcases entry_holds E q with ⟨i, o, _, q1, q2⟩ | ⟨k, _, q1⟩
        · exact .inl (tm i o a q1 q2)
        · exact .inr ⟨k, q1⟩
      refine ⟨as, β, F, List.replicate n "", hNl, S0, ?_⟩
      have lvOf : ∀ {e' : En} {σ' : L2.St} {H' : Hp} {F' : Addr → Prop}, SR K β e' σ' H' F' → ∀ (k : Nat) (o : Ob) (a : Addr), e'.os[k]? = some (.live o) → β[k]? = some a → ¬ F' a := fun S' k o a q1 q2 => S'.sep (.obj k) a ⟨⟨o, q1⟩, q2⟩
      cases eb : bd (entry n as) with
      | no => rw [eb] at h; exact h
      | ex z e' =>
        rw [eb] at h
        have h : (match (FR.ex z e'.os : FR) with
          | .ret x os => if os.length = ls.length then (Res.ok x (back ls os r) : Res Rv) else .no
          | .ex e os => if os.length = ls.length then .ex e (back ls os r) else .no
          | .no => .no) = (if e'.os.length = ls.length then .ex z (back ls e'.os r) else .no) → Aft K α σ (OwnTs α r σ xs vs) H F W (if e'.os.length = ls.length then .ex z (back ls e'.os r) else .no) Q := fun _ => h
        have h := h rfl
        split at h
        · rename_i hl
          intro σ' cls d H' F' S' st ex
          obtain ⟨R, st2⟩ := call_state S T B nd oc st hl S'.obj (lvOf S') S'.fdom
          exact h cls d H' F' R st2 ex
        · exact h.elim
      | bk e' => rw [eb] at h; exact h.elim
      | ct e' => rw [eb] at h; exact h.elim
      | nx e' =>
        rw [eb] at h
        intro σ' H' F' S' st
        simp only [finish] at h
        split at h
        · rename_i hl
          exact call_end (x := .val .none) S T B nd oc st hl S'.obj (lvOf S') S'.fdom .non h
        · exact h.elim
      | rt x e' =>
        rw [eb] at h
        intro v σ' H' F' S' st t
        cases x with
        | val d =>
          simp only [finish] at h
          split at h
          · rename_i hl
            exact call_end (x := .val d) S T B nd oc st hl S'.obj (lvOf S') S'.fdom t h
          · exact h.elim
        | own o =>
          simp only [finish] at h
          split at h
          · rename_i hl
            obtain ⟨a, u, rfl, h1, h2, h3, h4⟩ := t
            exact call_end (x := .own o) S T B nd oc st hl S'.obj (lvOf S') S'.fdom ⟨a, u, rfl, h1, h2, h3, .inr ⟨⟨o, rfl⟩, rfl⟩, fun k o' q1 q2 => h4 ⟨.obj k, ⟨o', q1⟩, q2⟩⟩ h
          · exact h.elim
        | «at» l =>
          cases l with
          | slot i =>
            simp only [finish] at h
            cases el : look e' (.slot i) with
            | none => simp only [el] at h; exact h.elim
            | some b =>
              have t2 := content_rel S' (x := .at (.slot i)) t el
              cases b with
              | dead d =>
                simp only [el] at h
                split at h
                · rename_i hl
                  exact call_end (x := .val d) S T B nd oc st hl S'.obj (lvOf S') S'.fdom t2 h
                · exact h.elim
              | live o =>
                simp only [el] at h
                split at h
                · rename_i hl
                  obtain ⟨a, u, rfl, h1, h2⟩ := t2
                  obtain ⟨a', e3, ha⟩ := t
                  cases e3
                  have hh := look_holds el ha
                  exact call_end (x := .own o) S T B nd oc st hl S'.obj (lvOf S') S'.fdom ⟨a, u, rfl, h1, h2, S'.sep _ a hh, .inl ⟨_, hh⟩, fun k o' q1 q2 => nomatch S'.apart (.slot i) (.obj k) a hh ⟨⟨o', q1⟩, q2⟩⟩ h
                · exact h.elim
          | obj k =>
            simp only [finish] at h
            cases ez : frz (.at (.obj k)) e' with
            | no => simp only [ez] at h; exact h.elim
            | ex z e2 => exact absurd ez frz_ex
            | ok d e2 =>
              simp only [ez] at h
              split at h
              · rename_i hl
                obtain ⟨F2, S2, fr, st2, _⟩ := frz_ok S' t ez
                exact call_end (x := .val d) S T B nd oc (st.trans st2 fun _ z => z) hl S2.obj (lvOf S2) S2.fdom fr h
              · exact h.elim
    · exact h.elim
end Mi

/-! Mi9.lean -/
set_option Elab.async false
set_option linter.all false
set_option maxRecDepth 100000
/-! defs: kept promises under known guards; their calls -/
namespace Mi
open PySem L2 PySem.Spec PyProof.Rows
variable {P : Program} {w : World} {K : PySem.W.Frag} {mg : Str → Option Value} {base : Heap} {α : List Addr} {r : En}

/-- a def keeps its promise wherever no repr is under way -/
structure FnG (P : Program) (w : World) (K : PySem.W.Frag) (mg : Str → Option Value) (base : Heap) (k : Nat) (f : Addr) (fd : FuncData) (ps : List Str) (sp : Sp) : Prop where
  len : ∀ vs H Q E, sp vs H Q E → vs.length = ps.length
  run : ∀ (A : Around) (outer : List Env) (s : Shared) (H : Hp) (args : Args) (us : List Value) (vs : List V) (Q : VK) (E : XK), Room k A → A.guards = some [] → Env0 P w K mg base A outer s H →
    BindsTo s fd args (ps.zip us) → Vals vs us → sp vs H Q E → codeAny (model P w) A (.call (.ref f) args) (L2.CR (L2.CX P w) outer P w H s Q E) s
theorem FnG.mono {j k : Nat} {f : Addr} {fd : FuncData} {ps : List Str} {sp : Sp} (F : FnG P w K mg base j f fd ps sp) (h : j ≤ k) : FnG P w K mg base k f fd ps sp :=
  ⟨F.len, fun A outer s H args us vs Q E hr => F.run A outer s H args us vs Q E (hr.mono h)⟩
/-- a def of the text, from its body -/
theorem fg_of {k n np : Nat} {x qual : Str} {st : Stmt} {f : Addr} {fd : FuncData} {N ps : List Str} {bd : Stm} (F : Fun K x qual st f fd) (S : FnScope N ps (defScope st)) (hN : N.length = n) (hp : ps.length = np)
    (hb : ∀ (cdv : Value) (A : Around) (outer : List Env) (s : Shared) (H : Hp) (β : List Addr) (E : XK), Room k (A.deeper (envOfC qual (defScope st) s.heap.objs.size f cdv)) → A.guards = some [] →
      L2.Takes (cxOf (L2.CX P w) P w K mg base N qual (defScope st) f cdv A outer s H E) (fun cls d _ H2 => E cls d H2) →
      PassesOwn (model P w) (cxOf (L2.CX P w) P w K mg base N qual (defScope st) f cdv A outer s H E).A (cxOf (L2.CX P w) P w K mg base N qual (defScope st) f cdv A outer s H E).env (cxOf (L2.CX P w) P w K mg base N qual (defScope st) f cdv A outer s H E).xe →
      PSs (cxOf (L2.CX P w) P w K mg base N qual (defScope st) f cdv A outer s H E) (defBody st) (tS K β (fun cls d _ H2 => E cls d H2) bd)) : FnG P w K mg base (k + 1) f fd ps (spF K np n bd) := by
  obtain ⟨oc, od, kV, doc, pm, an, cdv, ct, osl, rfl, lk, hcd⟩ := F.ex
  refine ⟨fun vs H Q E h => h.1.trans hp.symm, fun A outer s H args us vs Q E hr hgd e0 hbi rv hsp => ?_⟩
  obtain ⟨hlen, as, β, Fz, N', hN', S0, hA⟩ := hsp
  have KX : K.In s.heap := e0.mod.kin.keeps fun b o e => (e0.bs b o e).1
  have named : ∀ y ∈ ps.zip us, (defScope st).names.lookup y.1 = some .local ∨ ((defScope st).names.lookup y.1 = some .cell ∧ ((cellsFrom (s.heap.objs.size + 1) (defScope st).names []).lookup y.1).isSome = true) := by
    rintro ⟨m, u⟩ hy
    exact (S.par m (List.of_mem_zip hy).1).imp id fun q => ⟨q, PySem.W.cellsFrom_some _ _ _ (.inl q)⟩
  refine codeAny_call_function hr.depth (KX _ _ lk) rfl S.co S.gen rfl (PySem.W.codeRec_of KX hcd) (hbi _ _ _ _ ?_)
  refine wpAny_newFunctionEnv_cells S.kind named fun env he s1 ent => ?_
  subst he
  have lim : s.heap.NoLimit := e0.mod.nolimit.keeps fun b o e => (e0.bs b o e).1
  refine ⟨lim.keeps ent.toInCall.keep, codeAny_func ?_⟩
  have I := inv_start (CX := L2.CX P w) (E := E) S hr.hd e0 (hlen.trans hp.symm) rv ent
  have hst : L2.start N' vs = L2.start N vs := by
    unfold L2.start
    rw [hN', hN]
  rw [hst] at S0 hA
  refine wpAny_mono ((hb cdv A outer s H β E (hr.deeper _) hgd (takes_of rfl rfl rfl rfl) (passes_of rfl)).run [] s1 (L2.start N vs) H _ I ⟨entry n as, Fz, S0, hA⟩) (fun fl s' q => ?_) fun e s' q => q
  cases fl with
  | brk => obtain ⟨_, _, _, z⟩ := q; exact z.elim
  | cont => obtain ⟨_, _, _, z⟩ := q; exact z.elim
  | next => obtain ⟨σ', H', J, z⟩ := q; exact ⟨V.non, H', J.os, J.bare, J.base, J.hok, rfl, z⟩
  | ret u => obtain ⟨v, σ', H', J, rv', z⟩ := q; exact ⟨v, H', J.os, J.bare, J.base, J.hok, rv', z⟩

section
variable {X : Cx} {x : Str} {p pos : Pos} {e : Expr} {es : List Expr} {k np n : Nat} {f : Addr} {fd : FuncData} {ps : List Str} {bd : Stm} {g : M (List Rv)}
theorem run_fg {sp : Sp} {W : L2.WX} {pins : List (Addr × Obj)} {σ : L2.St} {H : Hp} {s : Shared} {Q : VK} {us : List Value} {vs : List V} {args : Args} (F : FnG X.prog X.w X.K X.mg X.base k f fd ps sp) (hr : Room k X.A) (hgd : X.A.guards = some []) (tk : L2.Takes X W)
    (hb : BindsTo s fd args (ps.zip us)) (I : Inv X pins σ H s) (rv : Vals vs us) (h : sp vs H Q (fun cls d H2 => W cls d σ H2)) : codeAny (model X.prog X.w) X.A (.call (.ref f) args) (fun r s' => match r with
      | .ok (.ret v) => EP X pins σ Q v s'
      | .ok _ => False
      | .error e => X.xe e s') s := by
  refine codeAny_mono (F.run X.A X.stack s H args us vs Q _ hr hgd I.env0 hb rv h) fun res s' q => ?_
  match res, q with
  | .ok (.ret u), q => exact I.after q
  | .ok .next, q => exact q
  | .ok .brk, q => exact q
  | .ok .cont, q => exact q
  | .error e, q => exact tk e s' (XE.of_call I (fun _ _ _ h => h) q)
/-- the arguments in a row -/
theorem args_ok {G : List Ag → FR} {σ : L2.St} {H : Hp} {Q : VK} (h : tE K α W (callE G g) σ H Q) : tR K α W g σ H fun vs H1 => ∃ r1 F1 xs, SR K α r1 σ H1 F1 ∧ TRs K α r1 σ H1 F1 xs vs ∧ Aft K α σ (OwnTs α r1 σ xs vs) H1 F1 W (callF G xs r1) Q := by
  obtain ⟨r, F, S, h⟩ := h
  refine ⟨r, F, S, ?_⟩
  unfold callE M.bnd at h
  cases e : g r with
  | no => rw [e] at h; exact h
  | ex z r1 => rw [e] at h; exact h
  | ok xs r1 =>
    rw [e] at h
    exact fun vs H1 F1 S1 st T => ⟨r1, F1, xs, S1, T, h.step st fun _ z => z⟩
theorem ar_nil : PA X [] (tR K α W nilR) := pa_weak pa_nil fun _ _ _ q => nilR_ok q
theorem ar_cons {a : M Rv} (h : PE X e (tE K α W a)) (h2 : PA X es (tR K α W g)) (hs : starEach (e :: es) X.env = (false, eval e X.env) :: starEach es X.env := by rfl) : PA X (e :: es) (tR K α W (consR a g)) := pa_weak (pa_cons h h2 hs) fun _ _ _ q => consR_ok q
/-- f(e, ..) -/
theorem ev_call (F : FnG X.prog X.w X.K X.mg X.base k f fd ps (spF X.K np n bd)) (hr : Room k X.A) (hgd : X.A.guards = some []) (tk : L2.Takes X W) (hg : Gl X x) (hm : X.mg x = some (.ref f)) (hk : PySem.W.keepIn X.K (.ref f) = true) (hb : Binds X.K fd ps [])
    (hps : ps.length = np) (hn : np ≤ n) (ha : PA X (e :: es) (tR X.K α W g)) (hdb : (x == ("__debug__" : Str)) = false := by decide) (he : starEach (e :: es) X.env = (false, eval e X.env) :: starEach es X.env := by rfl)
    (hpl : (backTo pos (starEach es X.env)).any (·.1) = false := by rfl) : PE X (.Call (.Name x p) (e :: es) [] pos) (tE X.K α W (callE (runF np n bd) g)) := ⟨fun pins s σ H Q I h => by
  refine wpAny_Call_Name_kw (ld_glob I hg hm ?_ hdb)
  have key := args_ok h
  refine PySem.W.callWith_K (h₀ := X.base) I.ok.mod.kin hk (thn (ha.run pos pins s σ H _ I key) fun us s1 ⟨vs, H1, I1, rv, r1, F1, xs, S1, T, q⟩ => ⟨I1.kIn, ?_⟩) he hpl
  have sp := call_ok hn S1 T q
  have hl : us.length = ps.length := by rw [← rv.length, hps]; exact sp.1
  have b := hb s1 us I1.kIn (by simpa using hl)
  rw [List.append_nil] at b
  exact wpAny_call (run_fg F hr hgd tk b I1 rv sp)⟩
theorem ev_call0 (F : FnG X.prog X.w X.K X.mg X.base k f fd ps (spF X.K np n bd)) (hr : Room k X.A) (hgd : X.A.guards = some []) (tk : L2.Takes X W) (hg : Gl X x) (hm : X.mg x = some (.ref f)) (hk : PySem.W.keepIn X.K (.ref f) = true) (hb : Binds X.K fd ps [])
    (hps : ps.length = np) (hn : np ≤ n) (hdb : (x == ("__debug__" : Str)) = false := by decide) : PE X (.Call (.Name x p) [] [] pos) (tE X.K α W (callE (runF np n bd) nilR)) := ⟨fun pins s σ H Q I h => by
  refine wpAny_Call_Name_kw (ld_glob I hg hm ?_ hdb)
  have key := args_ok h
  refine PySem.W.callWith_K0 I.kIn hk ?_
  obtain ⟨r1, F1, xs, S1, T, q⟩ := nilR_ok key
  have sp := call_ok hn S1 T q
  have hl : ([] : List Value).length = ps.length := by rw [hps]; exact sp.1
  have b := hb s [] I.kIn (by simpa using hl)
  rw [List.append_nil] at b
  exact wpAny_call (run_fg F hr hgd tk b I .nil sp)⟩
/-- f(k = v, ..), all by name; perm: the parameters' order of the values -/
def permL {β : Type} (pm : List Nat) (xs : List β) : List β := pm.filterMap fun i => xs[i]?
def callK (pm : List Nat) (G : List Ag → FR) (f : M (List Rv)) : M Rv := M.bnd f fun xs => callF G (permL pm xs)
end
end Mi

/-! Mi10.lean -/
set_option Elab.async false
set_option linter.all false
set_option maxRecDepth 100000
/-! loops and comprehensions -/
namespace Mi
open PySem L2 PySem.Spec PyProof.Rows
variable {K : PySem.W.Frag} {α : List Addr} {r r' : En} {σ : L2.St} {H H' : Hp} {F F' : Addr → Prop}

/-- what is walked: the item at a turn (none: the end), the most turns -/
structure Src where
  nth : En → Nat → Option (Option PyData)
  fuel : Nat
/-- an item drawn: the heap as it was, or with a new tuple -/
def Yl (K : PySem.W.Frag) (H : Hp) (F : Addr → Prop) (x : V) (d : PyData) (H' : Hp) : Prop :=
  (H' = H ∧ Fr K H F x d) ∨ ∃ p ts ds, H p = none ∧ H' = upd H p (.tup ts) ∧ x = .ref p ∧ d = .tuple ds ∧ FrAll K H F ts ds
structure SrcOk (K : PySem.W.Frag) (α : List Addr) (s : Src) (J : It) (V : Hp → (Addr → Prop) → Prop) : Prop where
  stay : ∀ H F H' F', V H F → Stay H F H' F' → V H' F'
  turn : ∀ r σ H F i o, SR K α r σ H F → V H F → s.nth r i = some o → match o with
    | none => J.stop i H
    | some d => J.go i H ∧ ∀ x H', J.yld i H x H' → Yl K H F x d H'
def AftI (K : PySem.W.Frag) (α : List Addr) (σ : L2.St) (O : Addr → Prop) (H : Hp) (F : Addr → Prop) (W : L2.WX) (x : Res Src) (R : It → Hp → Prop) : Prop :=
  match x with
  | .ok s e => ∀ J V H' F', SR K α e σ H' F' → Step O H F H' F' (Own α e σ) → SrcOk K α s J V → V H' F' → R J H'
  | .ex x e => AftX K α σ O H F W x e
  | .no => False
/-- an iterable by its evaluator -/
def tI (K : PySem.W.Frag) (α : List Addr) (W : L2.WX) (f : M Src) : TI := fun σ H R => ∃ r F, SR K α r σ H F ∧ AftI K α σ (Own α r σ) H F W (f r) R
theorem pi_weak {X : Cx} {tg e : Expr} {t t' : TI} (h : PI X tg e t) (w : ∀ σ H R, t' σ H R → t σ H R) : PI X tg e t' := ⟨fun pins s σ H R I q => h.run pins s σ H R I (w σ H R q)⟩
theorem pi_or {X : Cx} {tg e : Expr} {t t' : TI} (h : PI X tg e t) (h' : PI X tg e t') : PI X tg e (fun σ H R => t σ H R ∨ t' σ H R) :=
  ⟨fun pins s σ H R I q => q.elim (fun q => h.run pins s σ H R I q) fun q => h'.run pins s σ H R I q⟩
/-! lists and tuples -/
def lstNth (x : Rv) (r : En) (i : Nat) : Option (Option PyData) := match peek r x with
  | some (.list ds) => some ds[i]?
  | _ => none
def tupNth (x : Rv) (r : En) (i : Nat) : Option (Option PyData) := match peek r x with
  | some (.tuple ds) => some ds[i]?
  | _ => none
def lenD : PyData → Nat
  | .list ds => ds.length
  | .tuple ds => ds.length
  | _ => 0
/-- a source that may be walked: frozen, or an object of the caller's -/
def hold (x : Rv) : M Rv := fun r => match x with
  | .at (.obj k) => .ok x r
  | _ => match frz x r with
    | .ok d r1 => .ok (.val d) r1
    | .ex e r1 => .ex e r1
    | .no => .no
def seqI (f : M Rv) : M Src := M.bnd f fun x => M.bnd (hold x) fun y r => match peek r y with
  | some (.list ds) => .ok ⟨lstNth y, ds.length⟩ r
  | some (.tuple ds) => .ok ⟨tupNth y, ds.length⟩ r
  | _ => .no
/-- what a held source leans on -/
def HV (K : PySem.W.Frag) (α : List Addr) (y : Rv) (v : V) (H : Hp) (F : Addr → Prop) : Prop := match y with
  | .val d => Fr K H F v d
  | .at (.obj k) => ∃ a, v = .ref a ∧ α[k]? = some a
  | _ => False
theorem HV.stay {y : Rv} {v : V} (h : HV K α y v H F) (s : Stay H F H' F') : HV K α y v H' F' := by
  cases y with
  | val d => exact Fr.stay s h
  | own o => exact h
  | «at» l => cases l <;> exact h
theorem HV.tr {y : Rv} {v : V} (h : HV K α y v H F) (r : En) (σ : L2.St) : TR K α r σ H F y v := by
  cases y with
  | val d => exact h
  | own o => exact h.elim
  | «at» l => cases l with
    | slot i => exact h.elim
    | obj k => exact h
theorem hold_ok (S : SR K α r σ H F) {x y : Rv} {v : V} (t : TR K α r σ H F x v) (e : hold x r = .ok y r') :
    ∃ F', SR K α r' σ H F' ∧ HV K α y v H F' ∧ Step (OwnT α r σ x v) H F H F' (Own α r' σ) := by
  have gen : (match frz x r with
    | .ok d r1 => (.ok (.val d) r1 : Res Rv)
    | .ex e r1 => .ex e r1
    | .no => .no) = .ok y r' → ∃ F', SR K α r' σ H F' ∧ HV K α y v H F' ∧ Step (OwnT α r σ x v) H F H F' (Own α r' σ) := fun e => by
    cases ez : frz x r with
    | no => rw [ez] at e; cases e
    | ex z r1 => rw [ez] at e; cases e
    | ok d r1 =>
      rw [ez] at e
      cases e
      obtain ⟨F1, S1, fr, st, _⟩ := frz_ok S t ez
      exact ⟨F1, S1, fr, st⟩
  cases x with
  | val d => exact gen e
  | own o => exact gen e
  | «at» l => cases l with
    | slot i => exact gen e
    | obj k => cases e; exact ⟨F, S, t, Step.refl fun _ z => .inl z⟩
theorem hold_ex {x : Rv} {z : Exc} : hold x r ≠ .ex z r' := fun e => by
  have gen : (match frz x r with
    | .ok d r1 => (.ok (.val d) r1 : Res Rv)
    | .ex e r1 => .ex e r1
    | .no => .no) = .ex z r' → False := fun e => by
    cases ez : frz x r with
    | no => rw [ez] at e; cases e
    | ex z r1 => exact absurd ez frz_ex
    | ok d r1 => rw [ez] at e; cases e
  cases x with
  | val d => exact gen e
  | own o => exact gen e
  | «at» l => cases l with
    | slot i => exact gen e
    | obj k => cases e
theorem get_some {β : Type} {xs : List β} {i : Nat} {x : β} (h : xs[i]? = some x) : i < xs.length := (List.getElem?_eq_some_iff.mp h).1
theorem get_none {β : Type} {xs : List β} {i : Nat} (h : xs[i]? = none) : xs.length ≤ i := List.getElem?_eq_none_iff.mp h
theorem src_list {y : Rv} {a : Addr} {n : Nat} : SrcOk K α ⟨lstNth y, n⟩ (Itl K a) (HV K α y (.ref a)) where
  stay := fun _ _ _ _ h s => h.stay s
  turn := fun r σ H F i o S h e => by
    have e : lstNth y r i = some o := e
    unfold lstNth at e
    split at e
    · rename_i ds q
      injection e with e
      subst e
      obtain ⟨a', xs, e1, h1, h2⟩ := (peek_rel S (h.tr r σ) q).list
      cases e1
      cases g : ds[i]? with
      | none => exact ⟨xs, h1, by rw [h2.len]; exact get_none g⟩
      | some d =>
        obtain ⟨x, gx, fx⟩ := h2.get g
        exact ⟨⟨xs, x, h1, gx⟩, fun z H' yl => .inl ⟨yl.1, by
          have := yl.2 xs h1
          rw [gx] at this; cases this
          exact fx⟩⟩
    · cases e
theorem src_tup {y : Rv} {a : Addr} {n : Nat} : SrcOk K α ⟨tupNth y, n⟩ (Itt K a) (HV K α y (.ref a)) where
  stay := fun _ _ _ _ h s => h.stay s
  turn := fun r σ H F i o S h e => by
    have e : tupNth y r i = some o := e
    unfold tupNth at e
    split at e
    · rename_i ds q
      injection e with e
      subst e
      obtain ⟨a', xs, e1, h1, h2⟩ := (peek_rel S (h.tr r σ) q).tup
      cases e1
      cases g : ds[i]? with
      | none => exact ⟨xs, h1, by rw [h2.len]; exact get_none g⟩
      | some d =>
        obtain ⟨x, gx, fx⟩ := h2.get g
        exact ⟨⟨xs, x, h1, gx⟩, fun z H' yl => .inl ⟨yl.1, by
          have := yl.2 xs h1
          rw [gx] at this; cases this
          exact fx⟩⟩
    · cases e
theorem seq_ok {f : M Rv} {R : It → Hp → Prop} (h : tI K α W (seqI f) σ H R) : iList K (tE K α W f) σ H R ∨ iTup K (tE K α W f) σ H R := by
  obtain ⟨r, F, S, h⟩ := h
  unfold seqI M.bnd at h
  cases e : f r with
  | no => simp only [e] at h; exact h.elim
  | ex z r1 => simp only [e] at h; exact .inl ⟨r, F, S, by rw [e]; exact h⟩
  | ok x r1 =>
    simp only [e] at h
    cases e2 : hold x r1 with
    | no => simp only [e2] at h; exact h.elim
    | ex z r2 => exact absurd e2 hold_ex
    | ok y r2 =>
      simp only [e2] at h
      split at h
      · rename_i ds q
        refine .inl ⟨r, F, S, ?_⟩
        rw [e]
        intro v H1 F1 S1 st t
        obtain ⟨F2, S2, hv, st2⟩ := hold_ok S1 t e2
        obtain ⟨a, xs, rfl, h1, h2⟩ := (peek_rel S2 (hv.tr r2 σ) q).list
        exact ⟨a, rfl, ⟨xs, h1⟩, h _ _ H1 F2 S2 (st.trans st2 fun _ z => z) src_list hv⟩
      · rename_i ds q
        refine .inr ⟨r, F, S, ?_⟩
        rw [e]
        intro v H1 F1 S1 st t
        obtain ⟨F2, S2, hv, st2⟩ := hold_ok S1 t e2
        obtain ⟨a, xs, rfl, h1, h2⟩ := (peek_rel S2 (hv.tr r2 σ) q).tup
        exact ⟨a, rfl, ⟨xs, h1⟩, h _ _ H1 F2 S2 (st.trans st2 fun _ z => z) src_tup hv⟩
      · exact h.elim
/-! range(n), range(a, b) -/
def rngNth (lo : Int) (n : Nat) (_ : En) (i : Nat) : Option (Option PyData) := if i < n then some (some (.int (lo + i))) else some none
def rng1 (f : M Rv) : M Src := M.bnd f fun x r => match peek r x with
  | some (.int j) => if -(2 ^ 62) ≤ j ∧ j < 2 ^ 62 then .ok ⟨rngNth 0 j.toNat, j.toNat⟩ r else .no
  | _ => .no
def rng2 (f g : M Rv) : M Src := M.bnd f fun x => M.bnd g fun y r => match peek r x, peek r y with
  | some (.int i), some (.int j) => if (-(2 ^ 62) ≤ i ∧ i < 2 ^ 62) ∧ -(2 ^ 62) ≤ j ∧ j < 2 ^ 62 then .ok ⟨rngNth i (j - i).toNat, (j - i).toNat⟩ r else .no
  | _, _ => .no
theorem src_rng {lo : Int} {n : Nat} : SrcOk K α ⟨rngNth lo n, n⟩ (Itr lo n) (fun _ _ => True) where
  stay := fun _ _ _ _ h s => h
  turn := fun r σ H F i o S h e => by
    have e : rngNth lo n r i = some o := e
    unfold rngNth at e
    split at e
    · rename_i hi
      injection e with e
      subst e
      exact ⟨hi, fun x H' y => .inl ⟨y.1, by rw [y.2]; exact .int _⟩⟩
    · rename_i hi
      injection e with e
      subst e
      exact Nat.le_of_not_lt hi
theorem tE_bndI {f : M Rv} {g : Rv → M Src} {R : It → Hp → Prop} (S : SR K α r σ H F) (h : AftI K α σ (Own α r σ) H F W (M.bnd f g r) R) :
    tE K α W f σ H fun v H1 => ∃ r1 F1 x, SR K α r1 σ H1 F1 ∧ Step (Own α r σ) H F H1 F1 (OwnT α r1 σ x v) ∧ TR K α r1 σ H1 F1 x v ∧ AftI K α σ (Own α r1 σ) H1 F1 W (g x r1) R := by
  refine ⟨r, F, S, ?_⟩
  unfold M.bnd at h
  cases e : f r with
  | ok x r1 =>
    rw [e] at h
    have h : AftI K α σ (Own α r σ) H F W (g x r1) R := h
    intro v H1 F1 a b c
    refine ⟨r1, F1, x, a, b, c, ?_⟩
    cases e2 : g x r1 with
    | no => rw [e2] at h; exact h
    | ex z r2 => rw [e2] at h; exact AftX.step h b fun _ z => .inl z
    | ok s r2 => rw [e2] at h; exact fun J V H' F' S' st' => h J V H' F' S' (b.trans st' fun _ z => .inl z)
  | ex x r1 => rw [e] at h; exact h
  | no => rw [e] at h; exact h.elim
theorem rng1_ok {f : M Rv} {R : It → Hp → Prop} (h : tI K α W (rng1 f) σ H R) : iRng1 (tCons (tE K α W f) tNil) σ H R := by
  obtain ⟨r, F, S, h⟩ := h
  refine tE_mono (tE_bndI S h) fun v H1 ⟨r1, F1, x, S1, st, t, h1⟩ => ?_
  split at h1
  · rename_i j q
    split at h1
    · rename_i hj
      exact ⟨j, by rw [(peek_rel S1 t q).int], hj.1, hj.2, h1 _ _ H1 F1 S1 (Step.refl fun _ z => z) src_rng trivial⟩
    · exact h1.elim
  · exact h1.elim
theorem rng2_ok {f g : M Rv} {R : It → Hp → Prop} (h : tI K α W (rng2 f g) σ H R) : iRng2 (tCons (tE K α W f) (tCons (tE K α W g) tNil)) σ H R := by
  obtain ⟨r, F, S, h⟩ := h
  refine tE_mono (tE_bndI S h) fun v H1 ⟨r1, F1, x, S1, st1, t1, h1⟩ => tE_mono (tE_bndI S1 h1) fun w H2 ⟨r2, F2, y, S2, st2, t2, h2⟩ => ?_
  have t1' := t1.step st2 fun _ z => .inl z
  split at h2
  · rename_i i j q1 q2
    split at h2
    · rename_i hj
      exact ⟨i, j, by rw [(peek_rel S2 t1' q1).int, (peek_rel S2 t2 q2).int], ⟨hj.1.1, hj.1.2, hj.2.1, hj.2.2⟩, h2 _ _ H2 F2 S2 (Step.refl fun _ z => z) src_rng trivial⟩
    · exact h2.elim
  · exact h2.elim
/-! enumerate(xs) -/
def enuNth (x : Rv) (r : En) (i : Nat) : Option (Option PyData) := match peek r x with
  | some (.list ds) => some (ds[i]?.map fun d => .tuple [.int (i : Nat), d])
  | _ => none
def enuI (f : M Rv) : M Src := M.bnd f fun x => M.bnd (hold x) fun y r => match peek r y with
  | some (.list ds) => .ok ⟨enuNth y, ds.length⟩ r
  | _ => .no
theorem src_enu {y : Rv} {a : Addr} {n : Nat} : SrcOk K α ⟨enuNth y, n⟩ (Ite K a) (HV K α y (.ref a)) where
  stay := fun _ _ _ _ h s => h.stay s
  turn := fun r σ H F i o S h e => by
    have e : enuNth y r i = some o := e
    unfold enuNth at e
    split at e
    · rename_i ds q
      injection e with e
      subst e
      obtain ⟨a', xs, e1, h1, h2⟩ := (peek_rel S (h.tr r σ) q).list
      cases e1
      cases g : ds[i]? with
      | none => exact ⟨xs, h1, by rw [h2.len]; exact get_none g⟩
      | some d =>
        obtain ⟨x, gx, fx⟩ := h2.get g
        refine ⟨⟨xs, x, h1, gx⟩, fun z H' ⟨T, x', e1, e2, e3, e4⟩ => .inr ⟨T, _, [.int (i : Nat), d], e2, e3, e1, rfl, .cons (.int _) (.cons ?_ .nil)⟩⟩
        have := e4 xs h1
        rw [gx] at this; cases this
        exact fx
    · cases e
theorem enu_ok {f : M Rv} {R : It → Hp → Prop} (h : tI K α W (enuI f) σ H R) : iEnum K (tCons (tE K α W f) tNil) σ H R := by
  obtain ⟨r, F, S, h⟩ := h
  unfold enuI M.bnd at h
  refine ⟨r, F, S, ?_⟩
  cases e : f r with
  | no => simp only [e] at h; exact h.elim
  | ex z r1 => simp only [e] at h; exact h
  | ok x r1 =>
    simp only [e] at h
    cases e2 : hold x r1 with
    | no => simp only [e2] at h; exact h.elim
    | ex z r2 => exact absurd e2 hold_ex
    | ok y r2 =>
      simp only [e2] at h
      split at h
      · rename_i ds q
        intro v H1 F1 S1 st t
        obtain ⟨F2, S2, hv, st2⟩ := hold_ok S1 t e2
        obtain ⟨a, xs, rfl, h1, h2⟩ := (peek_rel S2 (hv.tr r2 σ) q).list
        exact ⟨a, xs, rfl, h1, h _ _ H1 F2 S2 (st.trans st2 fun _ z => z) src_enu hv⟩
      · exact h.elim
section
variable {X : Cx} {tg l a b : Expr} {f g : M Rv} {p pos : Pos}
theorem iv_seq (hl : PE X l (tE X.K α W f)) : PI X tg l (tI X.K α W (seqI f)) := pi_weak (pi_or (pi_list hl) (pi_tup hl)) fun _ _ _ q => seq_ok q
theorem iv_rng1 (hg : Gl X "range") (hm : X.mg "range" = none) (ha : PE X a (tE K α W f)) (hs : starEach [a] X.env = [(false, eval a X.env)] := by rfl) : PI X tg (.Call (.Name "range" p) [a] [] pos) (tI K α W (rng1 f)) :=
  pi_weak (pi_range1 hg hm (pa_cons ha pa_nil hs) hs) fun _ _ _ q => rng1_ok q
theorem iv_rng2 (hg : Gl X "range") (hm : X.mg "range" = none) (ha : PE X a (tE K α W f)) (hb : PE X b (tE K α W g)) (hs : starEach [a, b] X.env = [(false, eval a X.env), (false, eval b X.env)] := by rfl) (hs2 : starEach [b] X.env = [(false, eval b X.env)] := by rfl) :
    PI X tg (.Call (.Name "range" p) [a, b] [] pos) (tI K α W (rng2 f g)) := pi_weak (pi_range2 hg hm (pa_cons ha (pa_cons hb pa_nil hs2) (by rw [hs, hs2])) hs hs2) fun _ _ _ q => rng2_ok q
theorem iv_enu {elts : List Expr} {kk : Nat} {tpos : Pos} (hg : Gl X "enumerate") (hm : X.mg "enumerate" = none) (ha : PE X a (tE X.K α W f)) (hs : starEach [a] X.env = [(false, eval a X.env)] := by rfl) :
    PI X (.Tuple elts kk tpos) (.Call (.Name "enumerate" p) [a] [] pos) (tI X.K α W (enuI f)) := pi_weak (pi_enum hg hm (pa_cons ha pa_nil hs) hs) fun _ _ _ q => enu_ok q
end
/-! ### targets of loops -/
structure TgOk (K : PySem.W.Frag) (α : List Addr) (g : TG) (tg : PyData → En → Option En) (T : List Nat) : Prop where
  go : ∀ (r r1 : En) (σ : L2.St) (H : Hp) (F : Addr → Prop) (x : V) (d : PyData) (Q : L2.St → Hp → Prop), SR K α r σ H F → Fr K H F x d → tg d r = some r1 →
    (∀ σ', SR K α r1 σ' H F → (∀ a, Own α r1 σ' a → Own α r σ a) → wipe σ' T = wipe σ T → Q σ' H) → g x σ H Q
theorem wipe_set (v : Option V) : ∀ (T : List Nat) (σ : L2.St) (i : Nat), i ∈ T → wipe (σ.set i v) T = wipe σ T
  | [], _, _, h => by simp at h
  | t :: T, σ, i, h => by
    unfold wipe
    by_cases e : i ∈ T
    · rw [wipe_set v T σ i e]
    · have e2 : i = t := (List.mem_cons.mp h).elim id fun z => absurd z e
      subst e2
      have comm : ∀ (T : List Nat) (σ : L2.St), i ∉ T → wipe (σ.set i v) T = (wipe σ T).set i v := by
        intro T
        induction T with
        | nil => intro σ _; rfl
        | cons t T ih =>
          intro σ n
          unfold wipe
          rw [ih σ fun z => n (List.mem_cons_of_mem _ z), List.set_comm]
          exact fun z => n (by rw [z]; exact List.mem_cons_self)
      rw [comm T σ e, List.set_set]
theorem tg_name (i : Nat) : TgOk K α (gName i) (fun d r => some (put r i (.val d))) [i] := ⟨fun r r1 σ H F x d Q S h e q => by
  cases e
  refine q _ (S.put (s := .val d) h fun o a z => nomatch z) (fun a z => ?_) (wipe_set _ [i] σ i (by simp))
  rcases put_own z with z | ⟨⟨o, z⟩, _⟩
  · exact z
  · cases z⟩
def tgTup (is : List Nat) (d : PyData) (r : En) : Option En := match d with
  | .tuple ds => bindL is ds r
  | _ => none
theorem gNames_w {T : List Nat} : ∀ {is : List Nat} {ds : List PyData} {vs : List V} {r r1 : En} {σ : L2.St} {H : Hp} {F : Addr → Prop} {Q : L2.St → Hp → Prop}, (∀ i ∈ is, i ∈ T) → SR K α r σ H F → FrAll K H F vs ds → bindL is ds r = some r1 →
    (∀ σ', SR K α r1 σ' H F → (∀ a, Own α r1 σ' a → Own α r σ a) → wipe σ' T = wipe σ T → Q σ' H) → vs.length = is.length ∧ gNames is vs σ H Q
  | [], [], _, _, _, _, _, _, _, _, S, .nil, e, q => by cases e; exact ⟨rfl, rfl, q _ S (fun _ z => z) rfl⟩
  | i :: is, d :: ds, v :: vs, r, r1, σ, H, F, Q, hT, S, .cons h1 h2, e, q => by
    have S1 : SR K α (put r i (.val d)) (σ.set i (some v)) H F := S.put (s := .val d) h1 fun o a z => nomatch z
    have own : ∀ a, Own α (put r i (.val d)) (σ.set i (some v)) a → Own α r σ a := fun a z => by
      rcases put_own z with z | ⟨⟨o, z⟩, _⟩
      · exact z
      · cases z
    obtain ⟨e1, e2⟩ := gNames_w (T := T) (Q := Q) (fun j hj => hT j (List.mem_cons_of_mem _ hj)) S1 h2 e fun σ' S' o w => q σ' S' (fun a z => own a (o a z)) (w.trans (wipe_set _ T σ i (hT i List.mem_cons_self)))
    exact ⟨by simp [e1], v, vs, rfl, e2⟩
theorem tg_tup (is : List Nat) : TgOk K α (gTup K is.length (gNames is)) (tgTup is) is := ⟨fun r r1 σ H F x d Q S h e q => by
  cases d with
  | tuple ds =>
    obtain ⟨a, xs, rfl, h1, h2⟩ := (Pk.fr h).tup
    obtain ⟨e1, e2⟩ := gNames_w (T := is) (Q := Q) (fun _ z => z) S h2 e q
    exact ⟨a, xs, rfl, h1, e1, e2⟩
  | _ => cases e⟩
end Mi

/-! Mi11.lean -/
set_option Elab.async false
set_option linter.all false
set_option maxRecDepth 100000
/-! for, while, comprehensions -/
namespace Mi
open PySem L2 PySem.Spec PyProof.Rows
variable {K : PySem.W.Frag} {α : List Addr} {r r' : En} {σ : L2.St} {H H' : Hp} {F F' : Addr → Prop}

def forN (nth : En → Nat → Option (Option PyData)) (tg : PyData → En → Option En) (bd : Stm) : Nat → Nat → Stm
  | m, i, r => match nth r i with
    | none => .no
    | some none => .nx r
    | some (some d) => match m with
      | 0 => .no
      | m + 1 => match tg d r with
        | none => .no
        | some r1 => match bd r1 with
          | .nx r2 => forN nth tg bd m (i + 1) r2
          | .ct r2 => forN nth tg bd m (i + 1) r2
          | .bk r2 => .nx r2
          | o => o
def forS (it : M Src) (tg : PyData → En → Option En) (bd : Stm) : Stm := ofM it fun s r => forN s.nth tg bd s.fuel 0 r
theorem yl_sr (S : SR K α r σ H F) {x : V} {d : PyData} (y : Yl K H F x d H') : SR K α r σ H' F ∧ Fr K H' F x d ∧ Step (Own α r σ) H F H' F (Own α r σ) := by
  rcases y with ⟨e, f⟩ | ⟨p, ts, ds, hp, e, e2, e3, f⟩
  · subst e; exact ⟨S, f, Step.refl fun _ z => z⟩
  · subst e e2 e3
    exact ⟨S.new _ hp, .tup (.inl (.inl upd_same)) (f.stay (stay_new S _ hp)), step_new S _ hp fun a z => .inl z⟩
theorem for_ok {it : M Src} {g : TG} {tg : PyData → En → Option En} {T : List Nat} {bd : Stm} {D : Ends} (ht : TgOk K α g tg T) (h : tS K α W (forS it tg bd) D σ H) : tFor (tI K α W it) g (tS K α W bd) D σ H := by
  obtain ⟨r, F, S, h⟩ := h
  refine ⟨r, F, S, ?_⟩
  unfold forS ofM at h
  cases e : it r with
  | no => rw [e] at h; exact h
  | ex z r1 => rw [e] at h; exact h σ
  | ok s r1 =>
    rw [e] at h
    have h : AftS K α (Own α r σ) H F W (forN s.nth tg bd s.fuel 0 r1) D := h
    intro J V H1 F1 S1 st1 so v1
    refine ⟨fun i m σ H => ∃ r F, SR K α r σ H F ∧ V H F ∧ AftS K α (Own α r σ) H F W (forN s.nth tg bd m i r) D, ⟨s.fuel, r1, F1, S1, v1, h.step st1 fun _ z => z⟩, ?_⟩
    rintro i m σ H ⟨r, F, S, v, h⟩
    unfold forN at h
    cases en : s.nth r i with
    | none => simp only [en] at h; exact h.elim
    | some o =>
      have tn := so.turn r σ H F i o S v en
      cases o with
      | none => simp only [en] at h; exact .inl ⟨tn, AftS.go S h fun _ z => z⟩
      | some d =>
        simp only [en] at h
        obtain ⟨go, yl⟩ := tn
        cases m with
        | zero => exact h.elim
        | succ m =>
          simp only at h
          cases et : tg d r with
          | none => simp only [et] at h; exact h.elim
          | some r2 =>
            simp only [et] at h
            refine .inr ⟨go, fun σ' H' => ∃ r F, SR K α r σ' H' F ∧ V H' F ∧ AftS K α (Own α r σ') H' F W (forN s.nth tg bd m (i + 1) r) D, fun σ' H' q => ⟨m, Nat.lt_succ_self m, q⟩, fun x H' y => ?_⟩
            obtain ⟨S2, fx, st2⟩ := yl_sr S (yl x H' y)
            refine ht.go r r2 σ H' F x d _ S2 fx et fun σ3 S3 ow _ => ⟨r2, F, S3, ?_⟩
            have st3 : Step (Own α r σ) H F H' F (Own α r2 σ3) := st2.more fun a z => ow a z
            have v3 : V H' F := so.stay _ _ _ _ v st2.stay
            cases eb : bd r2 with
            | no => simp only [eb] at h; exact h
            | ex z r3 => simp only [eb] at h; exact AftS.step (x := .ex z r3) (D := D) h st3 fun _ z => z
            | rt z r3 => simp only [eb] at h; exact AftS.step (D := D) h st3 fun _ z => z
            | bk r3 => simp only [eb] at h; exact AftS.step (x := .nx r3) (D := D) h st3 fun _ z => z
            | nx r3 =>
              simp only [eb] at h
              intro σ4 H4 F4 S4 st4
              exact ⟨r3, F4, S4, so.stay _ _ _ _ v3 st4.stay, h.step (st3.trans st4 fun _ z => z) fun _ z => z⟩
            | ct r3 =>
              simp only [eb] at h
              intro σ4 H4 F4 S4 st4
              exact ⟨r3, F4, S4, so.stay _ _ _ _ v3 st4.stay, h.step (st3.trans st4 fun _ z => z) fun _ z => z⟩
/-! while, of at most so many turns -/
def whlN (t : M Bool) (bd : Stm) : Nat → Stm
  | 0, _ => .no
  | m + 1, r => match t r with
    | .no => .no
    | .ex e r1 => .ex e r1
    | .ok false r1 => .nx r1
    | .ok true r1 => match bd r1 with
      | .nx r2 => whlN t bd m r2
      | .ct r2 => whlN t bd m r2
      | .bk r2 => .nx r2
      | o => o
theorem whl_ok {t : M Bool} {bd : Stm} {D : Ends} {m : Nat} (h : tS K α W (whlN t bd m) D σ H) : tWhile (tT K α W t) (tS K α W bd) D σ H := by
  refine ⟨fun m σ H => tS K α W (whlN t bd m) D σ H, ⟨m, h⟩, ?_⟩
  rintro m σ H ⟨r, F, S, h⟩
  cases m with
  | zero => exact h.elim
  | succ m =>
    unfold whlN at h
    refine ⟨r, F, S, ?_⟩
    cases e : t r with
    | no => simp only [e] at h; exact h
    | ex z r1 => simp only [e] at h; exact h σ
    | ok b r1 =>
      simp only [e] at h
      intro H1 F1 S1 st1
      cases b with
      | false => exact iteF (AftS.go (O := Own α r1 σ) S1 (AftS.step (x := .nx r1) (D := D) h st1 fun _ z => z) fun _ z => z)
      | true =>
        refine iteT ⟨fun σ' H' => tS K α W (whlN t bd m) D σ' H', fun σ' H' q => ⟨m, Nat.lt_succ_self m, q⟩, r1, F1, S1, ?_⟩
        cases eb : bd r1 with
        | no => simp only [eb] at h; exact h
        | ex z r3 => simp only [eb] at h; exact AftS.step (x := .ex z r3) (D := D) h st1 fun _ z => z
        | rt z r3 => simp only [eb] at h; exact AftS.step (D := D) h st1 fun _ z => z
        | bk r3 => simp only [eb] at h; exact AftS.step (x := .nx r3) (D := D) h st1 fun _ z => z
        | nx r3 => simp only [eb] at h; exact fun σ4 H4 F4 S4 st4 => ⟨r3, F4, S4, h.step (st1.trans st4 fun _ z => z) fun _ z => z⟩
        | ct r3 => simp only [eb] at h; exact fun σ4 H4 F4 S4 st4 => ⟨r3, F4, S4, h.step (st1.trans st4 fun _ z => z) fun _ z => z⟩
section
variable {X : Cx} {tg i c : Expr} {body : List Stmt} {it : M Src} {g : TG} {tgf : PyData → En → Option En} {T : List Nat} {bd : Stm} {t : M Bool} {pos : Pos}
theorem sv_for (hp : PassesOwn (model X.prog X.w) X.A X.env X.xe) (hc : X.calm = true) (hi : PI X tg i (tI K α W it)) (hg : PG X tg g) (ht : TgOk K α g tgf T) (hb : PSs X body (tS K α W bd)) (hs : ∀ x, foldedSetIterable i X.env x = pure x := by intro _; rfl) : PS X (.For tg i body [] pos) (tS K α W (forS it tgf bd)) := ps_weak (ps_for hp hc hi hg hb hs) fun _ _ _ q => for_ok ht q
theorem sv_while (m : Nat) (hp : PassesOwn (model X.prog X.w) X.A X.env X.xe) (hc : PT X c (tT K α W t)) (hb : PSs X body (tS K α W bd)) : PS X (.While c body [] pos) (tS K α W (whlN t bd m)) := ps_weak (ps_while hp hc hb) fun _ _ _ q => whl_ok q
end
/-! ### [e for x in xs if t] -/
def wipeV (r : En) : List Nat → En
  | [] => r
  | v :: vs => { wipeV r vs with vs := (wipeV r vs).vs.set v none }
/-- the names of the comprehension as they stood ahead -/
def restV (r0 r : En) : List Nat → En
  | [] => r
  | v :: vs => { restV r0 r vs with vs := (restV r0 r vs).vs.set v (r0.vs[v]?.join) }
def calm (r : En) : List Nat → Bool
  | [] => true
  | v :: vs => (match r.vs[v]? with
    | some (some (.own _)) => false
    | some (some (.bor _)) => false
    | _ => true) && calm r vs
def lcN (nth : En → Nat → Option (Option PyData)) (tg : PyData → En → Option En) (T : List Nat) (tt : M Bool) (f : M Rv) : Nat → Nat → List PyData → M (List PyData)
  | m, i, acc, r => match nth r i with
    | none => .no
    | some none => .ok acc r
    | some (some d) => match m with
      | 0 => .no
      | m + 1 => match tg d (wipeV r T) with
        | none => .no
        | some r1 => match tt r1 with
          | .no => .no
          | .ex e r2 => .no
          | .ok false r2 => lcN nth tg T tt f m (i + 1) acc (wipeV r2 T)
          | .ok true r2 => match M.bnd f frz r2 with
            | .no => .no
            | .ex e r3 => .no
            | .ok y r3 => if acc.length < sizeLine then lcN nth tg T tt f m (i + 1) (acc ++ [y]) (wipeV r3 T) else .no
def lcE (it : M Src) (tg : PyData → En → Option En) (T : List Nat) (tt : M Bool) (f : M Rv) : M Rv := M.bnd it fun s r => if calm r T = true then
    (match lcN s.nth tg T tt f s.fuel 0 [] (wipeV r T) with
    | .no => .no
    | .ex e r1 => .no
    | .ok acc r1 => .ok (.own (.lst acc)) (restV r r1 T)) else .no
theorem wipeV_get : ∀ (T : List Nat) {r : En} {i : Nat} {s : Sl}, (wipeV r T).vs[i]? = some (some s) → i ∉ T ∧ r.vs[i]? = some (some s)
  | [], _, _, _, h => ⟨by simp, h⟩
  | t :: T, r, i, s, h => by
    rcases set_get (show ((wipeV r T).vs.set t none)[i]? = some (some s) from h) with ⟨e, q⟩ | ⟨e, q⟩
    · cases q
    · obtain ⟨h1, h2⟩ := wipeV_get T q
      exact ⟨fun z => (List.mem_cons.mp z).elim (fun z => e z.symm) h1, h2⟩
theorem wipeV_os : ∀ (T : List Nat) (r : En), (wipeV r T).os = r.os
  | [], _ => rfl
  | t :: T, r => wipeV_os T r
theorem wipeV_len : ∀ (T : List Nat) (r : En), (wipeV r T).vs.length = r.vs.length
  | [], _ => rfl
  | t :: T, r => by show ((wipeV r T).vs.set t none).length = _; rw [List.length_set]; exact wipeV_len T r
theorem wipe_get : ∀ (T : List Nat) {σ : L2.St} {i : Nat}, i ∉ T → (wipe σ T)[i]? = σ[i]?
  | [], _, _, _ => rfl
  | t :: T, σ, i, h => by
    unfold wipe
    rw [List.getElem?_set_ne (fun e => h (by rw [e]; exact List.mem_cons_self))]
    exact wipe_get T fun z => h (List.mem_cons_of_mem _ z)
theorem wipe_holds {T : List Nat} {l : Lo} {a : Addr} (h : Holds α (wipeV r T) (wipe σ T) l a) : Holds α r σ l a := by
  cases l with
  | slot i =>
    obtain ⟨⟨o, q⟩, h2⟩ := h
    obtain ⟨n, q2⟩ := wipeV_get T q
    rw [wipe_get T n] at h2
    exact ⟨⟨o, q2⟩, h2⟩
  | obj k =>
    obtain ⟨⟨o, q⟩, h2⟩ := h
    rw [wipeV_os] at q
    exact ⟨⟨o, q⟩, h2⟩
theorem SR.wipe (S : SR K α r σ H F) (T : List Nat) : SR K α (wipeV r T) (wipe σ T) H F where
  len := by rw [wipeV_len, wipe_length]; exact S.len
  slot := fun i s q => by
    obtain ⟨n, q2⟩ := wipeV_get T q
    obtain ⟨v, h1, h2⟩ := S.slot i s q2
    exact ⟨v, by rw [wipe_get T n]; exact h1, h2⟩
  obj := fun k b q => S.obj k b (by rw [wipeV_os] at q; exact q)
  apart := fun l l' a h h' => S.apart l l' a (wipe_holds h) (wipe_holds h')
  sep := fun l a h => S.sep l a (wipe_holds h)
  fdom := S.fdom
theorem restV_get : ∀ (T : List Nat) {r0 r : En} {i : Nat} {s : Sl}, (restV r0 r T).vs[i]? = some (some s) → (i ∈ T ∧ r0.vs[i]? = some (some s)) ∨ (i ∉ T ∧ r.vs[i]? = some (some s))
  | [], _, _, _, _, h => .inr ⟨by simp, h⟩
  | t :: T, r0, r, i, s, h => by
    rcases set_get (show ((restV r0 r T).vs.set t (r0.vs[t]?.join))[i]? = some (some s) from h) with ⟨e, q⟩ | ⟨e, q⟩
    · subst e
      refine .inl ⟨List.mem_cons_self, ?_⟩
      cases g : r0.vs[t]? with
      | none => rw [g] at q; cases q
      | some x => rw [g] at q; rw [show x = some s from q]
    · rcases restV_get T q with ⟨h1, h2⟩ | ⟨h1, h2⟩
      · exact .inl ⟨List.mem_cons_of_mem _ h1, h2⟩
      · exact .inr ⟨fun z => (List.mem_cons.mp z).elim (fun z => e z.symm) h1, h2⟩
theorem restV_os : ∀ (T : List Nat) (r0 r : En), (restV r0 r T).os = r.os
  | [], _, _ => rfl
  | t :: T, r0, r => restV_os T r0 r
theorem restV_len : ∀ (T : List Nat) (r0 r : En), (restV r0 r T).vs.length = r.vs.length
  | [], _, _ => rfl
  | t :: T, r0, r => by show ((restV r0 r T).vs.set t _).length = _; rw [List.length_set]; exact restV_len T r0 r
theorem calm_get : ∀ {T : List Nat} {r : En} {i : Nat} {s : Sl}, calm r T = true → i ∈ T → r.vs[i]? = some (some s) → ∃ d, s = .val d
  | [], _, _, _, _, h, _ => by simp at h
  | t :: T, r, i, s, c, h, q => by
    have c : (match r.vs[t]? with
      | some (some (.own _)) => false
      | some (some (.bor _)) => false
      | _ => true) = true ∧ calm r T = true := Bool.and_eq_true_iff.mp c
    rcases List.mem_cons.mp h with e | e
    · subst e
      have c1 := c.1
      rw [q] at c1
      cases s with
      | val d => exact ⟨d, rfl⟩
      | own o => cases c1
      | bor k => cases c1
    · exact calm_get c.2 e q
/-- behind a comprehension -/
theorem SR.rest {r0 : En} {H0 : Hp} {F0 : Addr → Prop} {T : List Nat} (S0 : SR K α r0 σ H0 F0) (S : SR K α r (L2.wipe σ T) H F) (st : Stay H0 F0 H F) (c : calm r0 T = true) :
    SR K α (restV r0 r T) σ H F ∧ ∀ a, Own α (restV r0 r T) σ a → Own α r (L2.wipe σ T) a := by
  have ow : ∀ l a, Holds α (restV r0 r T) σ l a → Holds α r (L2.wipe σ T) l a := fun l a h => by
    cases l with
    | slot i =>
      obtain ⟨⟨o, q⟩, h2⟩ := h
      rcases restV_get T q with ⟨h3, h4⟩ | ⟨h3, h4⟩
      · obtain ⟨d, e⟩ := calm_get c h3 h4
        cases e
      · exact ⟨⟨o, h4⟩, by rw [wipe_get T h3]; exact h2⟩
    | obj k =>
      obtain ⟨⟨o, q⟩, h2⟩ := h
      rw [restV_os] at q
      exact ⟨⟨o, q⟩, h2⟩
  refine ⟨⟨by rw [restV_len, S.len, wipe_length], fun i s q => ?_, fun k b q => S.obj k b (by rw [restV_os] at q; exact q), fun l l' a h h' => S.apart l l' a (ow _ _ h) (ow _ _ h'), fun l a h => S.sep l a (ow _ _ h), S.fdom⟩, fun a ⟨l, h⟩ => ⟨l, ow l a h⟩⟩
  rcases restV_get T q with ⟨h3, h4⟩ | ⟨h3, h4⟩
  · obtain ⟨v, h1, h2⟩ := S0.slot i s h4
    obtain ⟨d, e⟩ := calm_get c h3 h4
    subst e
    exact ⟨v, h1, Fr.stay st h2⟩
  · obtain ⟨v, h1, h2⟩ := S.slot i s h4
    rw [wipe_get T h3] at h1
    exact ⟨v, h1, h2⟩
theorem wipe_wipe : ∀ (T : List Nat) (σ : L2.St), L2.wipe (L2.wipe σ T) T = L2.wipe σ T := fun T σ => by
  have idem : ∀ (T U : List Nat) (σ : L2.St), (∀ t ∈ T, t ∈ U) → wipe (wipe σ U) T = wipe σ U := by
    intro T U σ
    induction T with
    | nil => intro _; rfl
    | cons t T ih =>
      intro h
      show (wipe (wipe σ U) T).set t none = wipe σ U
      rw [ih fun x hx => h x (List.mem_cons_of_mem _ hx)]
      apply List.ext_getElem?
      intro i
      by_cases e : t = i
      · subst e
        have hn : ∀ (U : List Nat) (σ : L2.St), t ∈ U → ∀ x, (wipe σ U)[t]? = some x → x = none := by
          intro U
          induction U with
          | nil => intro σ h; simp at h
          | cons u U ih2 =>
            intro σ h x hx
            rcases set_get (show ((wipe σ U).set u none)[t]? = some x from hx) with ⟨e, q⟩ | ⟨e, q⟩
            · exact q.symm
            · exact ih2 σ ((List.mem_cons.mp h).elim (fun z => absurd z.symm e) id) x q
        by_cases hl : t < (wipe σ U).length
        · rw [List.getElem?_set_self hl, List.getElem?_eq_getElem hl]
          have := hn U σ (h t List.mem_cons_self) _ (List.getElem?_eq_getElem hl)
          rw [this]
        · rw [List.getElem?_eq_none (by simpa using hl), List.getElem?_eq_none (by simpa using hl)]
      · rw [List.getElem?_set_ne e]
  exact idem T T σ fun _ h => h
end Mi

/-! Mi12.lean -/
set_option Elab.async false
set_option linter.all false
set_option maxRecDepth 100000
/-! comprehensions -/
namespace Mi
open PySem L2 PySem.Spec PyProof.Rows
variable {K : PySem.W.Frag} {α : List Addr} {r r' : En} {σ : L2.St} {H H' : Hp} {F F' : Addr → Prop}

/-- a new list that stands aside -/
theorem TR.move {σ' : L2.St} {O' : Addr → Prop} {o : Ob} {v : V} (h : TR K α r σ H F (.own o) v) (s : Step (Own α r σ) H F H' F' O') (ho : ∀ a, Own α r' σ' a → O' a) : TR K α r' σ' H' F' (.own o) v := by
  obtain ⟨a, u, e, hH, hO, hF, hN⟩ := h
  refine ⟨a, u, e, s.keep a u hH hN, hO.stay s.stay, fun z => ?_, fun z => ?_⟩
  · rcases s.nfz a z with z | z | z
    · exact hF z
    · exact hN z
    · rw [hH] at z; cases z
  · rcases s.own a (ho a z) with z | z
    · exact hN z
    · rw [hH] at z; cases z
theorem TR.grow {D : Addr} {acc : List PyData} {y : V} {d : PyData} (S : SR K α r σ H F) (h : TR K α r σ H F (.own (.lst acc)) (.ref D)) (fy : Fr K H F y d) :
    ∃ xs, H D = some (.lst xs) ∧ xs.length = acc.length ∧ SR K α r σ (upd H D (.lst (xs ++ [y]))) F ∧ TR K α r σ (upd H D (.lst (xs ++ [y]))) F (.own (.lst (acc ++ [d]))) (.ref D) ∧ Stay H F (upd H D (.lst (xs ++ [y]))) F ∧
      Step (fun a => Own α r σ a ∨ a = D) H F (upd H D (.lst (xs ++ [y]))) F (fun a => Own α r σ a ∨ a = D) := by
  obtain ⟨a, u, e, hH, ⟨xs, rfl, fr⟩, hF, hN⟩ := h
  cases e
  have st : Stay H F (upd H D (.lst (xs ++ [y]))) F := ⟨fun _ h => h, fun x q => upd_ne (fun e => hF (by rw [← e]; exact q)), fun x w q i => by
    by_cases e : x = D
    · subst e; rw [hH] at q; cases q; cases i
    · rw [upd_ne e]; exact q⟩
  refine ⟨xs, hH, fr.len, S.over st (fun x q => upd_ne fun e => hN (by rw [← e]; exact q)) (fun x ⟨l, q⟩ => S.sep l x q) (fun x q => ?_), ⟨D, _, rfl, upd_same, ⟨_, rfl, (fr.stay st).app (.cons (fy.stay st) .nil)⟩, hF, hN⟩, st,
    ⟨fun x o q n => by rw [upd_ne (show x ≠ D from fun e => n (.inr e))]; exact q, st, fun x q => .inl q, fun x q => .inl q, fun x q => ?_⟩⟩
  · obtain ⟨w, q2⟩ := S.fdom x q
    exact ⟨w, by rw [upd_ne (show x ≠ D from fun e => hF (by rw [← e]; exact q))]; exact q2⟩
  · by_cases e : x = D
    · subst e; rw [upd_same] at q; cases q
    · rwa [upd_ne e] at q
/-- the state and the new list, in a turn -/
structure Tn (K : PySem.W.Frag) (α : List Addr) (O0 : Addr → Prop) (H0 : Hp) (F0 : Addr → Prop) (H1 : Hp) (F1 : Addr → Prop) (V : Hp → (Addr → Prop) → Prop) (D : Addr) (acc : List PyData) (r : En) (σ : L2.St) (H : Hp) (F : Addr → Prop) : Prop where
  sr : SR K α r σ H F
  v : V H F
  tr : TR K α r σ H F (.own (.lst acc)) (.ref D)
  stay : Stay H1 F1 H F
  step : Step O0 H0 F0 H F (fun a => Own α r σ a ∨ a = D)
theorem Tn.next {O0 : Addr → Prop} {H0 H1 : Hp} {F0 F1 : Addr → Prop} {V : Hp → (Addr → Prop) → Prop} {D : Addr} {acc : List PyData} {σ' : L2.St} {O' : Addr → Prop} (t : Tn K α O0 H0 F0 H1 F1 V D acc r σ H F) (hv : ∀ H F H' F', V H F → Stay H F H' F' → V H' F')
    (S : SR K α r' σ' H' F') (s : Step (Own α r σ) H F H' F' O') (ho : ∀ a, Own α r' σ' a → O' a) : Tn K α O0 H0 F0 H1 F1 V D acc r' σ' H' F' :=
  ⟨S, hv _ _ _ _ t.v s.stay, t.tr.move s ho, t.stay.trans s.stay, t.step.trans (s.widen (P := fun a => Own α r σ a ∨ a = D) (fun _ z => .inl z) fun a z => z.elim (fun z => .inl (ho a z)) fun z => .inr (.inr z)) fun _ z => z⟩
theorem lc_ok {it : M Src} {g : TG} {tg : PyData → En → Option En} {T : List Nat} {tt : M Bool} {f : M Rv} {Q : VK} (ht : TgOk K α g tg T) (h : tE K α W (lcE it tg T tt f) σ H Q) : tLc (tI K α W it) g (tT K α W0 tt) (tE K α W0 f) T σ H Q := by
  obtain ⟨r, F, S, h⟩ := h
  refine ⟨r, F, S, ?_⟩
  unfold lcE M.bnd at h
  cases e : it r with
  | no => simp only [e] at h; exact h
  | ex z r1 => simp only [e] at h; exact h
  | ok s r1 =>
    simp only [e] at h
    intro J V H1 F1 S1 st1 so v1 D hD
    by_cases hc : calm r1 T = true
    case neg => rw [if_neg hc] at h; exact h.elim
    rw [if_pos hc] at h
    -- what is wanted of the rest of the loop
    let Pw : Res (List PyData) → Prop := fun x => Aft K α σ (Own α r σ) H F W (match x with
      | .no => .no
      | .ex e r2 => .no
      | .ok acc r2 => .ok (.own (.lst acc)) (restV r1 r2 T)) Q
    have h : Pw (lcN s.nth tg T tt f s.fuel 0 [] (wipeV r1 T)) := h
    have S1w := S1.wipe T
    refine ⟨fun i m H' => ∃ rc F' acc, Tn K α (Own α r σ) H F H1 F1 V D acc rc (L2.wipe σ T) H' F' ∧ Pw (lcN s.nth tg T tt f m i acc rc), ⟨s.fuel, wipeV r1 T, F1, [], ⟨S1w.new _ hD, so.stay _ _ _ _ v1 (stay_new S1 _ hD),
      ⟨D, _, rfl, upd_same, ⟨[], rfl, .nil⟩, notF_new S1 hD, notOwn_new S1w hD⟩, stay_new S1 _ hD, st1.trans (step_new S1 _ hD fun a z => z.imp (fun ⟨l, q⟩ => ⟨l, wipe_holds q⟩) id) fun _ z => z⟩, h⟩, ?_⟩
    rintro i m H2 ⟨rc, F2, acc, t, h⟩
    unfold lcN at h
    cases en : s.nth rc i with
    | none => simp only [en] at h; exact h.elim
    | some o =>
      have tn := so.turn rc _ H2 F2 i o t.sr t.v en
      cases o with
      | none =>
        simp only [en] at h
        obtain ⟨R, ow⟩ := SR.rest S1 t.sr t.stay hc
        refine .inl ⟨tn, h (.ref D) H2 F2 R (t.step.more fun a z => z.imp (ow a) fun ⟨_, z⟩ => by injection z with z; exact z.symm) ?_⟩
        obtain ⟨a, u, e1, e2, e3, e4, e5⟩ := t.tr
        exact ⟨a, u, e1, e2, e3, e4, fun z => e5 (ow a z)⟩
      | some d =>
        simp only [en] at h
        obtain ⟨go, yl⟩ := tn
        cases m with
        | zero => exact h.elim
        | succ m =>
          simp only at h
          cases et : tg d (wipeV rc T) with
          | none => simp only [et] at h; exact h.elim
          | some r2 =>
            simp only [et] at h
            refine .inr ⟨go, fun H' => ∃ rc F' acc, Tn K α (Own α r σ) H F H1 F1 V D acc rc (L2.wipe σ T) H' F' ∧ Pw (lcN s.nth tg T tt f m (i + 1) acc rc), fun H' q => ⟨m, Nat.lt_succ_self m, q⟩, fun x H' y => ?_⟩
            have Sw : SR K α (wipeV rc T) (L2.wipe σ T) H2 F2 := by
              have q := t.sr.wipe T
              rwa [wipe_wipe] at q
            have tw : Tn K α (Own α r σ) H F H1 F1 V D acc (wipeV rc T) (L2.wipe σ T) H2 F2 := t.next so.stay Sw (Step.refl fun _ z => z) fun a ⟨l, q⟩ => by
              rw [← wipe_wipe] at q
              exact ⟨l, wipe_holds q⟩
            obtain ⟨S3, fx, st3⟩ := yl_sr Sw (yl x H' y)
            refine ht.go (wipeV rc T) r2 (L2.wipe σ T) H' F2 x d _ S3 fx et fun σ3 S4 ow4 w4 => ?_
            have w4 : L2.wipe σ3 T = L2.wipe σ T := w4.trans (wipe_wipe T σ)
            have t4 : Tn K α (Own α r σ) H F H1 F1 V D acc r2 σ3 H' F2 := tw.next so.stay S4 st3 ow4
            refine ⟨w4, r2, F2, S4, ?_⟩
            cases ett : tt r2 with
            | no => simp only [ett] at h; exact h
            | ex z r3 => simp only [ett] at h; exact h.elim
            | ok b r3 =>
              simp only [ett] at h
              intro H5 F5 S5 st5
              have t5 : Tn K α (Own α r σ) H F H1 F1 V D acc r3 σ3 H5 F5 := t4.next so.stay S5 st5 fun _ z => z
              have toW : ∀ {acc : List PyData} {r3 : En} {H5 : Hp} {F5 : Addr → Prop}, Tn K α (Own α r σ) H F H1 F1 V D acc r3 σ3 H5 F5 → Tn K α (Own α r σ) H F H1 F1 V D acc (wipeV r3 T) (L2.wipe σ T) H5 F5 := fun {acc r3 H5 F5} t5 => by
                have Sw5 := t5.sr.wipe T
                rw [w4] at Sw5
                exact t5.next so.stay Sw5 (Step.refl fun _ z => z) fun a ⟨l, q⟩ => by
                  rw [← w4] at q
                  exact ⟨l, wipe_holds q⟩
              cases b with
              | false =>
                refine iteF ?_
                exact ⟨wipeV r3 T, F5, acc, toW t5, h⟩
              | true =>
                refine iteT ⟨r3, F5, S5, ?_⟩
                have h : Pw (match M.bnd f frz r3 with
                  | .no => .no
                  | .ex e r3 => .no
                  | .ok y r3 => if acc.length < sizeLine then lcN s.nth tg T tt f m (i + 1) (acc ++ [y]) (wipeV r3 T) else .no) := h
                unfold M.bnd at h
                cases ef : f r3 with
                | no => simp only [ef] at h; exact h
                | ex z r4 => simp only [ef] at h; exact h.elim
                | ok z r4 =>
                  simp only [ef] at h
                  intro yv H6 F6 S6 st6 tz
                  cases ez : frz z r4 with
                  | no => simp only [ez] at h; exact h.elim
                  | ex w r5 => exact absurd ez frz_ex
                  | ok dy r5 =>
                    simp only [ez] at h
                    obtain ⟨F7, S7, fr7, st7, _⟩ := frz_ok S6 tz ez
                    have t7 : Tn K α (Own α r σ) H F H1 F1 V D acc r5 σ3 H6 F7 := t5.next so.stay S7 (st6.trans st7 fun _ z => z) fun _ z => z
                    obtain ⟨xs, h1, h2, h3, h4, h5, h6⟩ := t7.tr.grow t7.sr fr7
                    split at h
                    · rename_i hz
                      refine ⟨xs, h1, by rw [h2]; exact hz, ?_⟩
                      exact ⟨wipeV r5 T, F7, acc ++ [dy], toW ⟨h3, so.stay _ _ _ _ t7.v h5, h4, t7.stay.trans h5, t7.step.trans h6 fun _ z => z⟩, h⟩
                    · exact h.elim
def yesB : M Bool := M.ret true
section
variable {X : Cx} {elt tg iter c : Expr} {ifs : List Expr} {scope : Scope} {own : List (Str × Nat)} {pos spos : Pos} {it : M Src} {g : TG} {tgf : PyData → En → Option En} {tt : M Bool} {f : M Rv}
theorem ts_nil : PTs X [] (tT K α W yesB) := ⟨fun pins s σ H Q I h => pts_nil.run pins s σ H Q I (tB_ret h)⟩
theorem ts_one (h : PT X c (tT K α W0 tt)) : PTs X [c] (tT K α W0 tt) := pts_one h
theorem ev_lc {T : List Nat} (hT : own.map (·.2) = T) (hc : X.calm = true) (hN : X.N.Nodup) (hi : PI X tg iter (tI K α W it)) (ok : BlkOk X.N X.env.scope scope own)
    (hg : ∀ (s : Shared) (H : Hp) (C : Addr) (cl : List (Str × Addr)) (fp : List Addr), PG (X.blk s H scope (compEnvC scope cl C X.env) fp) tg g) (ht : ∀ (s : Shared) (H : Hp) (C : Addr) (cl : List (Str × Addr)) (fp : List Addr), PTs (X.blk s H scope (compEnvC scope cl C X.env) fp) ifs (tT K α W0 tt))
    (he : ∀ (s : Shared) (H : Hp) (C : Addr) (cl : List (Str × Addr)) (fp : List Addr), PE (X.blk s H scope (compEnvC scope cl C X.env) fp) elt (tE K α W0 f)) (htg : TgOk K α g tgf T) (hs : ∀ x, foldedSetIterable iter X.env x = pure x := by intro _; rfl) :
    PE X (.ListComp elt [⟨tg, iter, ifs, 0⟩] scope pos) (tE K α W (lcE it tgf T tt f)) := pe_weak (pe_lc hc hN hi ok hg ht he hs) fun σ H Q q => by
  rw [hT]
  exact lc_ok htg q
/-- y = [..] -/
theorem sv_setLc {i : Nat} {y : Str} {py : Pos} {T : List Nat} (hT : own.map (·.2) = T) (hc : X.calm = true) (hN : X.N.Nodup) (hy : X.N[i]? = some y) (hyl : X.env.scope.names.lookup y = some .local)
    (hsw : swapsWith (.ListComp elt [⟨tg, iter, ifs, 0⟩] scope pos) (some (.Name y py)) spos.line X.env = pure true) (hi : PI X tg iter (tI K α W it)) (ok : BlkOk X.N X.env.scope scope own)
    (hg : ∀ (s : Shared) (H : Hp) (C : Addr) (cl : List (Str × Addr)) (fp : List Addr), PG (X.blk s H scope (compEnvC scope cl C X.env) fp) tg g) (ht : ∀ (s : Shared) (H : Hp) (C : Addr) (cl : List (Str × Addr)) (fp : List Addr), PTs (X.blk s H scope (compEnvC scope cl C X.env) fp) ifs (tT K α W0 tt))
    (he : ∀ (s : Shared) (H : Hp) (C : Addr) (cl : List (Str × Addr)) (fp : List Addr), PE (X.blk s H scope (compEnvC scope cl C X.env) fp) elt (tE K α W0 f)) (htg : TgOk K α g tgf T) (hs : ∀ x, foldedSetIterable iter X.env x = pure x := by intro _; rfl) :
    PS X (.Assign [.Name y py] (.ListComp elt [⟨tg, iter, ifs, 0⟩] scope pos) spos) (tS K α W (setS i (lcE it tgf T tt f))) := ps_weak (ps_setLc hc hN hy hyl hsw hi ok hg ht he hs) fun D σ H ⟨r, F, S, h⟩ => by
  rw [hT]
  exact lc_ok htg (tE_mono (ofM_E S h) fun v H1 ⟨r1, F1, x, S1, st, tr, h1⟩ => bind_ok S1 tr h1)
end
end Mi

/-! Mi13.lean -/
set_option Elab.async false
set_option linter.all false
set_option maxRecDepth 100000
/-! the end of a law -/
namespace Mi
open PySem L2 PySem.Spec PyProof.Rows

/-- a def of the program's top, to be called by its name -/
structure Def (P : Program) (w : World) (K : PySem.W.Frag) (mg : Str → Option Value) (base : Heap) (x : Str) (k np n : Nat) (bd : Stm) : Prop where
  ex : ∃ (f : Addr) (fd : FuncData) (ps : List Str), mg x = some (.ref f) ∧ PySem.W.keepIn K (.ref f) = true ∧ Binds K fd ps [] ∧ ps.length = np ∧ FnG P w K mg base k f fd ps (spF K np n bd)
theorem Def.mono {P : Program} {w : World} {K : PySem.W.Frag} {mg : Str → Option Value} {base : Heap} {x : Str} {j k np n : Nat} {bd : Stm} (D : Def P w K mg base x j np n bd) (h : j ≤ k) : Def P w K mg base x k np n bd := by
  obtain ⟨f, fd, ps, h1, h2, h3, h4, h5⟩ := D.ex
  exact ⟨f, fd, ps, h1, h2, h3, h4, h5.mono h⟩
section
variable {X : Cx} {x : Str} {p pos : Pos} {e : Expr} {es : List Expr} {k np n : Nat} {bd : Stm} {g : M (List Rv)} {α : List Addr}
theorem ev_callD (D : Def X.prog X.w X.K X.mg X.base x k np n bd) (hr : Room k X.A) (hgd : X.A.guards = some []) (tk : L2.Takes X W) (hg : Gl X x) (hn : np ≤ n) (ha : PA X (e :: es) (tR X.K α W g)) (hdb : (x == ("__debug__" : Str)) = false := by decide)
    (he : starEach (e :: es) X.env = (false, eval e X.env) :: starEach es X.env := by rfl) (hpl : (backTo pos (starEach es X.env)).any (·.1) = false := by rfl) : PE X (.Call (.Name x p) (e :: es) [] pos) (tE X.K α W (callE (runF np n bd) g)) := by
  obtain ⟨f, fd, ps, h1, h2, h3, h4, h5⟩ := D.ex
  exact ev_call h5 hr hgd tk hg h1 h2 h3 h4 hn ha hdb he hpl
theorem ev_callD0 (D : Def X.prog X.w X.K X.mg X.base x k np n bd) (hr : Room k X.A) (hgd : X.A.guards = some []) (tk : L2.Takes X W) (hg : Gl X x) (hn : np ≤ n) (hdb : (x == ("__debug__" : Str)) = false := by decide) : PE X (.Call (.Name x p) [] [] pos) (tE X.K α W (callE (runF np n bd) nilR)) := by
  obtain ⟨f, fd, ps, h1, h2, h3, h4, h5⟩ := D.ex
  exact ev_call0 h5 hr hgd tk hg h1 h2 h3 h4 hn hdb
end
def pyInts (ns : List Int) : PyData := .list (ns.map PyData.int)
theorem fr_pyInts {K : PySem.W.Frag} {H : Hp} {F : Addr → Prop} : ∀ ns : List Int, FrAll K H F (ns.map V.int) (ns.map PyData.int)
  | [] => .nil
  | n :: ns => .cons (.int n) (fr_pyInts ns)
/-- what a law's run over its script wants -/
theorem law_sp {K : PySem.W.Frag} {n : Nat} {bd : Stm} {H : Hp} {a : Addr} {ns : List Int} (hn : 1 ≤ n) (fr : Fr K H (fun _ => False) (.ref a) (pyInts ns)) (h : runF 1 n bd [.val (pyInts ns)] = .ret (.val (.bool true)) []) :
    spF K 1 n bd [.ref a] H (fun v _ => v = .bl true) E0 := by
  have S : SR K [] ⟨[some (.val (pyInts ns))], []⟩ [some (.ref a)] H (fun _ => False) := {
    len := rfl
    slot := fun i s q => by
      cases i with
      | zero =>
        have q : some (some (Sl.val (pyInts ns))) = some (some s) := q
        cases q
        exact ⟨.ref a, rfl, fr⟩
      | succ i => simp at q
    obj := fun k b q => by simp at q
    apart := fun l l' a h _ => by
      cases l with
      | slot i =>
        obtain ⟨⟨o, q⟩, _⟩ := h
        cases i with
        | zero => cases q
        | succ i => simp at q
      | obj k => obtain ⟨_, q⟩ := h; simp at q
    sep := fun _ _ _ z => z
    fdom := fun _ z => z.elim }
  refine call_ok (W := W0) (α := []) (r := ⟨[some (.val (pyInts ns))], []⟩) (σ := [some (.ref a)]) (F := fun _ => False) (xs := [.val (pyInts ns)]) hn S ⟨.cons fr .nil, fun i j o o' a h => by
    cases i with
    | zero => cases h
    | succ i => simp at h⟩ ?_
  unfold callF
  have e1 : agsOf ⟨[some (.val (pyInts ns))], []⟩ [Rv.val (pyInts ns)] = some ([.val (pyInts ns)], []) := rfl
  rw [e1]
  simp only [noDup, if_true, h]
  intro v H' F' _ _ t
  cases (show Fr K H' F' v (.bool true) from t)
  rfl
/-- the law's call, at the heap behind the top -/
theorem law_run {P : Program} {w : World} {K : PySem.W.Frag} {mg mb : Str → Option Value} {k n : Nat} {fa a : Addr} {fd : FuncData} {x : Str} {bd : Stm} {s₁ : Shared} {vs : List Value} {ns : List Int}
    (KX : K.In s₁.heap) (hns : s₁.heap.Ns mainGlobals mg) (hb : s₁.heap.Ns builtinsNs mb) (hbb : ∀ x : Str, x ≠ "__name__" → mb x = bootBuiltins x) (hlim : s₁.heap.NoLimit) (hg : s₁.gens = #[])
    (ha : s₁.heap.get? a = some { cls := .type "list", data := .seq vs.toArray }) (hi : IntsAre vs ns) (hl : ns.length ≤ sizeLine) (hr : Room k callerA)
    (hF : ∀ base : Heap, K.In base → base.Ns mainGlobals mg → FnG P w K mg base k fa fd [x] (spF K 1 n bd)) (hbind : ∀ (s : Shared) (u : Value), BindsTo s fd ⟨[u], []⟩ [(x, u)]) (hn : 1 ≤ n)
    (hrun : runF 1 n bd [.val (pyInts ns)] = .ret (.val (.bool true)) []) :
    codeAny (model P w) callerA (.call (.ref fa) ⟨[.ref a], []⟩) (fun r s' => r = .ok (.ret (.bool true)) ∧ OldK s₁.heap s'.heap ∧ s'.os = s₁.os ∧ AllBare s'.gens) s₁ := by
  have rv := vals_ints hi
  have lv : ns.length = vs.length := by have := rv.length; simpa using this
  -- from a heap that tells nothing but, perhaps, the script
  have go : ∀ H : Hp, Fr K H (fun _ => False) (.ref a) (pyInts ns) → HOk P w H s₁.heap → (∀ b u, H b = some u → b = a ∧ K.lookup a = none ∧ ∃ o xs, u = .frz o (.lst xs)) →
      codeAny (model P w) callerA (.call (.ref fa) ⟨[.ref a], []⟩) (fun r s' => r = .ok (.ret (.bool true)) ∧ OldK s₁.heap s'.heap ∧ s'.os = s₁.os ∧ AllBare s'.gens) s₁ := by
    intro H fr ok only
    have dicts : ∀ {b : Addr} {m : Str → Option Value}, s₁.heap.Ns b m → (hidT s₁.heap H).Ns b m := by
      rintro b m ⟨o, es, ep, e, d, rest⟩
      refine ⟨o, es, ep, hidT_get e ?_, d, rest⟩
      cases q : H b with
      | none => rfl
      | some u =>
        obtain ⟨rfl, _⟩ := only b u q
        rw [ha] at e; cases e; cases d
    have KB : K.In (hidT s₁.heap H) := fun b o e => hidT_get (KX b o e) (by
      cases q : H b with
      | none => rfl
      | some u =>
        obtain ⟨rfl, z, _⟩ := only b u q
        rw [z] at e; cases e)
    have md : Mod K mg (hidT s₁.heap H) := by
      obtain ⟨mc, h1, h2⟩ := hlim
      exact ⟨KB, dicts hns, ⟨mb, dicts hb, hbb⟩, ⟨mc, dicts h1, h2⟩⟩
    have e0 : Env0 P w K mg (hidT s₁.heap H) callerA [] s₁ H := ⟨rfl, md, fun b o e => of_hidT e, Nat.le_of_eq (hidT_size _ _), trivial, fun b z => absurd (show b ∈ ([] : List Addr) from z) (by simp), ok, .of_eq hg⟩
    refine codeAny_mono ((hF _ KB (dicts hns)).run callerA [] s₁ H ⟨[.ref a], []⟩ [.ref a] [.ref a] _ E0 hr rfl e0 (hbind s₁ (.ref a)) (.cons rfl .nil) (law_sp hn fr hrun)) fun res s' q => ?_
    match res, q with
    | .error e, q => obtain ⟨_, _, _, _, _, _, _, _, _, _, _, _, z⟩ := q; exact (show False from z).elim
    | .ok .next, q => exact q.elim
    | .ok .brk, q => exact q.elim
    | .ok .cont, q => exact q.elim
    | .ok (.ret u), ⟨v, H', os, bare, un, ok', r', z⟩ =>
      cases (show v = .bl true from z)
      cases (show u = Value.bool true from r')
      refine ⟨rfl, OldK.of_keep fun b o e => ?_, os, bare⟩
      cases g : H b with
      | none => exact un.keep b o e g (fun z => absurd (show b ∈ ([] : List Addr) from z) (by simp)) (by simp)
      | some w =>
        obtain ⟨_, _, ob, xs, rfl⟩ := only b w g
        have g1 := (ok b _ g).1
        have g2 := (ok' b _ (un.frzs b ob _ g)).1
        rw [e] at g1; cases g1
        exact g2
  cases hk : K.lookup a with
  | some o =>
    have e := KX a o hk
    rw [ha] at e; cases e
    exact go (fun _ => none) (.klst ⟨vs, _, hk, by omega, rv⟩ (fr_pyInts ns)) (fun b u z => nomatch z) fun b u z => nomatch z
  | none =>
    refine go (fun b => if b = a then some (.frz { cls := .type "list", data := .seq vs.toArray } (.lst (ns.map V.int))) else none) (.frz (if_pos rfl) (fr_pyInts ns)) (fun b u z => ?_) fun b u z => ?_
    · have z : (if b = a then some (HO.frz { cls := .type "list", data := .seq vs.toArray } (.lst (ns.map V.int))) else none) = some u := z
      by_cases e : b = a
      · rw [if_pos e] at z; cases z; subst e
        exact ⟨ha, by rw [List.length_map]; exact hl, vs, _, rv, ha⟩
      · rw [if_neg e] at z; cases z
    · have z : (if b = a then some (HO.frz { cls := .type "list", data := .seq vs.toArray } (.lst (ns.map V.int))) else none) = some u := z
      by_cases e : b = a
      · rw [if_pos e] at z; cases z
        exact ⟨e, hk, _, _, rfl⟩
      · rw [if_neg e] at z; cases z
/-- the goal that k_head leaves, by the run of the law's evaluator -/
theorem law_end {l : PySem.W.OpenLaw} {n k : Nat} {q : Program} {loose : List Str} {XP : (Str → Option Value) → Heap → Prop} {YP : World → Heap → Prop} {d : DefRec} {K : Params → PySem.W.Frag} {x : Str} {bd : Stm}
    (hm : l.most = some 63) (hdf : d.params.defaults = []) (hr : Room k callerA) (hY : ∀ (w : World) (h : Heap), YP w h → (K w.params).In h)
    (hF : ∀ (w : World) (mg : Str → Option Value) (fa : Addr) (h : Heap), (K w.params).In h → h.Ns mainGlobals mg → mg d.name = some (.ref fa) →
      ∃ fd : FuncData, (∀ (s : Shared) (u : Value), BindsTo s fd ⟨[u], []⟩ [(x, u)]) ∧ ∀ base : Heap, (K w.params).In base → base.Ns mainGlobals mg → FnG l.prog w (K w.params) mg base k fa fd [x] (spF (K w.params) 1 n bd))
    (hn : 1 ≤ n) (hrun : ∀ ns : List Int, ns.length ≤ 63 → (∀ z ∈ ns, Builtin.Int.intBits z ≤ 1048576) → runF 1 n bd [.val (pyInts ns)] = .ret (.val (.bool true)) []) :
    PySem.W.WalkO q loose XP YP l.row.toRowW d [] (fun f vs => PySem.call f vs) := by
  refine Att.attach_callB hm hdf fun w s₀ s₁ mg mb fa o pm cd doc a vs ns G Y ho hd hcd hmg hobj hints hlen hbits hg => ?_
  obtain ⟨fd, hb, hf⟩ := hF w mg fa _ (hY w _ Y) G.T.g hmg
  exact law_run (hY w _ Y) G.T.g G.T.b G.T.builtins G.T.nolimit hg hobj hints (Nat.le_trans hlen (by decide)) hr hf hb hn (hrun ns hlen hbits)
end Mi

/-! Mi14.lean -/
set_option Elab.async false
set_option linter.all false
set_option maxRecDepth 100000
/-! built-ins by their data -/
namespace Mi
open PySem L2 PySem.Spec PyProof.Rows
variable {K : PySem.W.Frag} {α : List Addr} {r r' : En} {σ : L2.St} {H H' : Hp} {F F' : Addr → Prop}

theorem call1_ok {ro : List V → Hp → VK → Prop} {g : PyData → Option Rv} (hs : Op1 K (fun x H Q => ro [x] H Q) g) {fa : M Rv} {Q : VK} (h : tE K α W (unE g fa) σ H Q) : tCB ro (tCons (tE K α W fa) tNil) σ H Q := t1_ok hs h
theorem call2_ok {ro : List V → Hp → VK → Prop} {g : PyData → PyData → Option Rv} (hs : Op2 K (fun x y H Q => ro [x, y] H Q) g) {fa fb : M Rv} {Q : VK} (h : tE K α W (binE g fa fb) σ H Q) : tCB ro (tCons (tE K α W fa) (tCons (tE K α W fb) tNil)) σ H Q := tOp_ok hs h
section
variable {X : Cx} {a b e : Expr} {fa fb f : M Rv} {pos p : Pos} {id : String} {x : Str} {ro : List V → Hp → VK → Prop}
theorem ev_b1 {g : PyData → Option Rv} (hc : CallR X (.builtin id) ro) (hs : Op1 K (fun x H Q => ro [x] H Q) g) (hg : Gl X x) (hm : X.mg x = none) (hv : bootBuiltins x = some (.builtin id)) (ha : PE X a (tE K α W fa)) (hn : x ≠ "__name__" := by decide) (hdb : (x == ("__debug__" : Str)) = false := by decide)
    (he : starEach [a] X.env = (false, eval a X.env) :: starEach [] X.env := by rfl) : PE X (.Call (.Name x p) [a] [] pos) (tE K α W (unE g fa)) := pe_weak (pe_callB hc hg hm hv (pa_cons ha pa_nil he) hn hdb he rfl) fun _ _ _ q => call1_ok hs q
theorem ev_t1 {g : PyData → Option Rv} (hc : CallR X (.type id) ro) (hs : Op1 K (fun x H Q => ro [x] H Q) g) (hg : Gl X x) (hm : X.mg x = none) (hv : bootBuiltins x = some (.type id)) (ha : PE X a (tE K α W fa)) (hn : x ≠ "__name__" := by decide) (hdb : (x == ("__debug__" : Str)) = false := by decide)
    (he : starEach [a] X.env = (false, eval a X.env) :: starEach [] X.env := by rfl) : PE X (.Call (.Name x p) [a] [] pos) (tE K α W (unE g fa)) := pe_weak (pe_callTy hc hg hm hv (pa_cons ha pa_nil he) hn hdb he rfl) fun _ _ _ q => call1_ok hs q
theorem ev_b2 {g : PyData → PyData → Option Rv} (hc : CallR X (.builtin id) ro) (hs : Op2 K (fun x y H Q => ro [x, y] H Q) g) (hg : Gl X x) (hm : X.mg x = none) (hv : bootBuiltins x = some (.builtin id)) (ha : PE X a (tE K α W fa)) (hb : PE X b (tE K α W fb)) (hn : x ≠ "__name__" := by decide) (hdb : (x == ("__debug__" : Str)) = false := by decide)
    (he : starEach [a, b] X.env = (false, eval a X.env) :: starEach [b] X.env := by rfl) (he2 : starEach [b] X.env = (false, eval b X.env) :: starEach [] X.env := by rfl) (hpl : (backTo pos (starEach [b] X.env)).any (·.1) = false := by rfl) : PE X (.Call (.Name x p) [a, b] [] pos) (tE K α W (binE g fa fb)) :=
  pe_weak (pe_callB hc hg hm hv (pa_cons ha (pa_cons hb pa_nil he2) he) hn hdb he hpl) fun _ _ _ q => call2_ok hs q
end
/-! len, list, tuple, int, str -/
def gLen : PyData → Option Rv
  | .str x => if x.length ≤ sizeLine then some (vI x.length) else none
  | .list ds => some (vI ds.length)
  | .tuple ds => some (vI ds.length)
  | _ => none
theorem o_len : Op1 K (fun x H Q => ∃ y n, [x] = [y] ∧ LenV K y H n ∧ Q (.int n) H) gLen := fun H F x d z Q px h q => by
  unfold gLen at h
  split at h
  · obtain ⟨h1, rfl⟩ := opt_if h
    have e := px.str
    subst e
    exact ⟨_, _, rfl, ⟨h1, rfl⟩, q.val _ _ rfl (.int _)⟩
  · cases h
    obtain ⟨a, xs, rfl, h1, h2⟩ := px.list
    exact ⟨_, xs.length, rfl, .inl ⟨xs, h1, rfl⟩, by rw [h2.len]; exact q.val _ _ rfl (.int _)⟩
  · cases h
    obtain ⟨a, xs, rfl, h1, h2⟩ := px.tup
    exact ⟨_, xs.length, rfl, .inr ⟨xs, h1, rfl⟩, by rw [h2.len]; exact q.val _ _ rfl (.int _)⟩
  · cases h
def gList : PyData → Option Rv
  | .list ds => some (.own (.lst ds))
  | .tuple ds => some (.own (.lst ds))
  | _ => none
theorem o_list : Op1 K (fun x H Q => ∃ p ys, [x] = [.ref p] ∧ (SqL K H p ys ∨ SqT K H p ys) ∧ ∀ l, H l = none → Q (.ref l) (upd H l (.lst ys))) gList := fun H F x d z Q px h q => by
  unfold gList at h
  split at h
  · cases h
    obtain ⟨a, xs, rfl, h1, h2⟩ := px.list
    exact ⟨a, xs, rfl, .inl h1, fun l hl => q.new _ _ l rfl hl h2⟩
  · cases h
    obtain ⟨a, xs, rfl, h1, h2⟩ := px.tup
    exact ⟨a, xs, rfl, .inr h1, fun l hl => q.new _ _ l rfl hl h2⟩
  · cases h
def gTuple : PyData → Option Rv
  | .list ds => some (.val (.tuple ds))
  | .tuple ds => some (.val (.tuple ds))
  | _ => none
theorem o_tuple : Op1 K (fun x H Q => ∃ p ys, [x] = [.ref p] ∧ ((SqL K H p ys ∧ ∀ l, H l = none → Q (.ref l) (upd H l (.tup ys))) ∨ (SqT K H p ys ∧ Q (.ref p) H))) gTuple := fun H F x d z Q px h q => by
  unfold gTuple at h
  split at h
  · cases h
    obtain ⟨a, xs, rfl, h1, h2⟩ := px.list
    exact ⟨a, xs, rfl, .inl ⟨h1, fun l hl => q.tup _ _ l rfl hl h2⟩⟩
  · cases h
    obtain ⟨a, xs, rfl, h1, h2⟩ := px.tup
    exact ⟨a, xs, rfl, .inr ⟨h1, q.val _ _ rfl (.tup h1 h2)⟩⟩
  · cases h
def gIntB : PyData → Option Rv
  | .int i => some (vI i)
  | .bool k => some (vI (if k then 1 else 0))
  | _ => none
theorem o_intB : Op1 K (fun x H Q => (∃ i, [x] = [.int i] ∧ Q (.int i) H) ∨ ∃ k, [x] = [.bl k] ∧ Q (.int (if k then 1 else 0)) H) gIntB := fun H F x d z Q px h q => by
  unfold gIntB at h
  split at h
  · cases h; have e := px.int; subst e; exact .inl ⟨_, rfl, q.val _ _ rfl (.int _)⟩
  · cases h; have e := px.bl; subst e; exact .inr ⟨_, rfl, q.val _ _ rfl (.int _)⟩
  · cases h
def gIntS : PyData → Option Rv
  | .str a => if a.length ≤ 640 then (PySem.intText? a).map vI else none
  | _ => none
theorem o_intS : Op1 K (fun x H Q => ∃ a n, [x] = [.str a] ∧ PySem.intText? a = some n ∧ a.length ≤ 640 ∧ Q (.int n) H) gIntS := fun H F x d z Q px h q => by
  unfold gIntS at h
  split at h
  · split at h
    · rename_i hz
      obtain ⟨n, h1, rfl⟩ := Option.map_eq_some_iff.mp h
      have e := px.str
      subst e
      exact ⟨_, n, rfl, h1, hz, q.val _ _ rfl (.int _)⟩
    · cases h
  · cases h
def gStrI : PyData → Option Rv
  | .int i => if i.natAbs.log2 < 1920 then some (vS (toString i)) else none
  | _ => none
theorem o_strI : Op1 K (fun x H Q => ∃ i, [x] = [.int i] ∧ i.natAbs.log2 < 1920 ∧ Q (.str (toString i)) H) gStrI := fun H F x d z Q px h q => by
  unfold gStrI at h
  split at h
  · obtain ⟨h1, rfl⟩ := opt_if h
    have e := px.int
    subst e
    exact ⟨_, rfl, h1, q.val _ _ rfl (.str _)⟩
  · cases h
/-! max, min of two; sum, any, all of a list -/
def gMax2 : PyData → PyData → Option Rv := gI2 fun i j => some (vI (if j > i then j else i))
theorem o_max2 : Op2 K (fun x y H Q => ∃ i j, [x, y] = [.int i, .int j] ∧ Q (.int (if j > i then j else i)) H) gMax2 := fun H F x y d e z Q px py h q => by
  obtain ⟨i, j, rfl, rfl, h⟩ := gI2_inv h
  cases h
  exact ⟨i, j, by rw [px.int, py.int], q.val _ _ rfl (.int _)⟩
def gMin2 : PyData → PyData → Option Rv := gI2 fun i j => some (vI (if j < i then j else i))
theorem o_min2 : Op2 K (fun x y H Q => ∃ i j, [x, y] = [.int i, .int j] ∧ Q (.int (if j < i then j else i)) H) gMin2 := fun H F x y d e z Q px py h q => by
  obtain ⟨i, j, rfl, rfl, h⟩ := gI2_inv h
  cases h
  exact ⟨i, j, by rw [px.int, py.int], q.val _ _ rfl (.int _)⟩
def intsOf : List PyData → Option (List Int)
  | [] => some []
  | .int i :: ds => (intsOf ds).map (i :: ·)
  | _ => none
theorem intsOf_map : ∀ {ds : List PyData} {ns : List Int}, intsOf ds = some ns → ds = ns.map PyData.int
  | [], ns, h => by cases h; rfl
  | .int i :: ds, ns, h => by
    obtain ⟨ms, h1, rfl⟩ := Option.map_eq_some_iff.mp (show (intsOf ds).map (i :: ·) = some ns from h)
    rw [intsOf_map h1]; rfl
  | .none :: _, _, h => by cases h
  | .bool _ :: _, _, h => by cases h
  | .str _ :: _, _, h => by cases h
  | .list _ :: _, _, h => by cases h
  | .tuple _ :: _, _, h => by cases h
  | .dict _ :: _, _, h => by cases h
theorem intsOf_of : ∀ ns : List Int, intsOf (ns.map PyData.int) = some ns
  | [] => rfl
  | n :: ns => by show (intsOf (ns.map PyData.int)).map (n :: ·) = _; rw [intsOf_of ns]; rfl
theorem FrAll.ints : ∀ {ns : List Int} {xs : List V}, FrAll K H F xs (ns.map PyData.int) → xs = ns.map V.int
  | [], _, .nil => rfl
  | n :: ns, _, .cons h1 h2 => by cases h1; rw [FrAll.ints h2]; rfl
def boolsOf : List PyData → Option (List Bool)
  | [] => some []
  | .bool i :: ds => (boolsOf ds).map (i :: ·)
  | _ => none
theorem boolsOf_map : ∀ {ds : List PyData} {ns : List Bool}, boolsOf ds = some ns → ds = ns.map PyData.bool
  | [], ns, h => by cases h; rfl
  | .bool i :: ds, ns, h => by
    obtain ⟨ms, h1, rfl⟩ := Option.map_eq_some_iff.mp (show (boolsOf ds).map (i :: ·) = some ns from h)
    rw [boolsOf_map h1]; rfl
  | .none :: _, _, h => by cases h
  | .int _ :: _, _, h => by cases h
  | .str _ :: _, _, h => by cases h
  | .list _ :: _, _, h => by cases h
  | .tuple _ :: _, _, h => by cases h
  | .dict _ :: _, _, h => by cases h
theorem boolsOf_of : ∀ ns : List Bool, boolsOf (ns.map PyData.bool) = some ns
  | [] => rfl
  | n :: ns => by show (boolsOf (ns.map PyData.bool)).map (n :: ·) = _; rw [boolsOf_of ns]; rfl
theorem FrAll.bools : ∀ {ns : List Bool} {xs : List V}, FrAll K H F xs (ns.map PyData.bool) → xs = ns.map V.bl
  | [], _, .nil => rfl
  | n :: ns, _, .cons h1 h2 => by cases h1; rw [FrAll.bools h2]; rfl
def gSum : PyData → Option Rv
  | .list ds => (intsOf ds).map fun ns => vI ns.sum
  | _ => none
theorem o_sum : Op1 K (fun x H Q => rSum K [x] H Q) gSum := fun H F x d z Q px h q => by
  unfold gSum at h
  split at h
  · obtain ⟨ns, h1, rfl⟩ := Option.map_eq_some_iff.mp h
    obtain ⟨a, xs, rfl, e1, e2⟩ := px.list
    have := intsOf_map h1
    subst this
    have := e2.ints
    subst this
    exact ⟨a, ns, rfl, e1, q.val _ _ rfl (.int _)⟩
  · cases h
def gAny : PyData → Option Rv
  | .list ds => (boolsOf ds).map fun ns => vB (ns.any id)
  | _ => none
theorem o_any : Op1 K (fun x H Q => rAny K [x] H Q) gAny := fun H F x d z Q px h q => by
  unfold gAny at h
  split at h
  · obtain ⟨ns, h1, rfl⟩ := Option.map_eq_some_iff.mp h
    obtain ⟨a, xs, rfl, e1, e2⟩ := px.list
    have := boolsOf_map h1
    subst this
    have := e2.bools
    subst this
    exact ⟨a, ns, rfl, e1, q.val _ _ rfl (.bl _)⟩
  · cases h
def gAll : PyData → Option Rv
  | .list ds => (boolsOf ds).map fun ns => vB (ns.all id)
  | _ => none
theorem o_all : Op1 K (fun x H Q => rAll K [x] H Q) gAll := fun H F x d z Q px h q => by
  unfold gAll at h
  split at h
  · obtain ⟨ns, h1, rfl⟩ := Option.map_eq_some_iff.mp h
    obtain ⟨a, xs, rfl, e1, e2⟩ := px.list
    have := boolsOf_map h1
    subst this
    have := e2.bools
    subst this
    exact ⟨a, ns, rfl, e1, q.val _ _ rfl (.bl _)⟩
  · cases h
/-- the least of a list -/
def leastI : List Int → Option Int
  | [] => none
  | n :: ns => some (ns.foldl (fun a b => if b < a then b else a) n)
theorem foldl_least : ∀ (ns : List Int) (n : Int), (ns.foldl (fun a b => if b < a then b else a) n = n ∨ ns.foldl (fun a b => if b < a then b else a) n ∈ ns) ∧ ns.foldl (fun a b => if b < a then b else a) n ≤ n ∧ ∀ y ∈ ns, ns.foldl (fun a b => if b < a then b else a) n ≤ y
  | [], n => ⟨.inl rfl, Int.le_refl _, fun y h => nomatch h⟩
  | m :: ns, n => by
    obtain ⟨h1, h2, h3⟩ := foldl_least ns (if m < n then m else n)
    simp only [List.foldl_cons]
    refine ⟨?_, ?_, fun y hy => ?_⟩
    · rcases h1 with h1 | h1
      · rw [h1]
        split
        · exact .inr List.mem_cons_self
        · exact .inl rfl
      · exact .inr (List.mem_cons_of_mem _ h1)
    · refine Int.le_trans h2 ?_
      split <;> omega
    · rcases List.mem_cons.mp hy with e | e
      · subst e
        refine Int.le_trans h2 ?_
        split <;> omega
      · exact h3 y e
theorem leastI_is {ns : List Int} {m : Int} (h : m ∈ ns) (hl : ∀ y ∈ ns, m ≤ y) : leastI ns = some m := by
  cases ns with
  | nil => cases h
  | cons n ns =>
    obtain ⟨h1, h2, h3⟩ := foldl_least ns n
    have a : ns.foldl (fun a b => if b < a then b else a) n ∈ n :: ns := h1.elim (fun e => by rw [e]; exact List.mem_cons_self) fun e => List.mem_cons_of_mem _ e
    have b := hl _ a
    have c : ns.foldl (fun a b => if b < a then b else a) n ≤ m := (List.mem_cons.mp h).elim (fun e => by rw [e]; exact h2) fun e => h3 m e
    show some _ = some m
    rw [Int.le_antisymm c b]
def gMin : PyData → Option Rv
  | .list ds => (intsOf ds).bind fun ns => (leastI ns).map vI
  | _ => none
theorem o_min : Op1 K (fun x H Q => rMin K [x] H Q) gMin := fun H F x d z Q px h q => by
  unfold gMin at h
  split at h
  · obtain ⟨ns, h1, h2⟩ := Option.bind_eq_some_iff.mp h
    obtain ⟨m, h3, rfl⟩ := Option.map_eq_some_iff.mp h2
    obtain ⟨a, xs, rfl, e1, e2⟩ := px.list
    have := intsOf_map h1
    subst this
    have := e2.ints
    subst this
    refine ⟨a, ns, rfl, e1, ?_, fun k hk hl => ?_⟩
    · cases ns with
      | nil => cases h3
      | cons n ns => exact Nat.succ_pos _
    · have e := leastI_is hk hl
      rw [h3] at e; cases e
      exact q.val _ _ rfl (.int _)
  · cases h
/-- sorted(a list of ints) -/
def gSortI : PyData → Option Rv
  | .list ds => (intsOf ds).bind fun ns => if ns.length < 64 then some (.own (.lst ((ns.mergeSort (fun a b => decide (a ≤ b))).map PyData.int))) else none
  | _ => none
theorem sorted_one : ∀ {xs ys : List Int}, xs.Perm ys → xs.Pairwise (· ≤ ·) → ys.Pairwise (· ≤ ·) → xs = ys
  | [], ys, p, _, _ => by have := p.length_eq; cases ys with
    | nil => rfl
    | cons y ys => simp at this
  | x :: xs, [], p, _, _ => by have := p.length_eq; simp at this
  | x :: xs, y :: ys, p, h1, h2 => by
    have e : x = y := by
      have a : x ∈ y :: ys := p.mem_iff.mp List.mem_cons_self
      have b : y ∈ x :: xs := p.mem_iff.mpr List.mem_cons_self
      have h1' := (List.pairwise_cons.mp h1).1
      have h2' := (List.pairwise_cons.mp h2).1
      rcases List.mem_cons.mp a with e | e
      · exact e
      · rcases List.mem_cons.mp b with e' | e'
        · exact e'.symm
        · have := h2' x e
          have := h1' y e'
          omega
    subst e
    rw [sorted_one (List.Perm.cons_inv p) (List.pairwise_cons.mp h1).2 (List.pairwise_cons.mp h2).2]
theorem mergeSort_is {xs ns : List Int} (p : xs.Perm ns) (h : xs.Pairwise (· ≤ ·)) : ns.mergeSort (fun a b => decide (a ≤ b)) = xs := by
  refine (sorted_one (p.trans (List.mergeSort_perm ns _).symm) h ?_).symm
  have := List.pairwise_mergeSort (le := fun a b : Int => decide (a ≤ b)) (fun a b c h1 h2 => by simp at *; omega) (fun a b => by simp; omega) ns
  exact this.imp fun h => by simpa using h
theorem fr_intsAll {K : PySem.W.Frag} {H : Hp} {F : Addr → Prop} (ns : List Int) : FrAll K H F (ns.map V.int) (ns.map PyData.int) := fr_pyInts ns
theorem o_sortI : Op1 K (fun x H Q => rSorted K [x] H Q) gSortI := fun H F x d z Q px h q => by
  unfold gSortI at h
  split at h
  · obtain ⟨ns, h1, h2⟩ := Option.bind_eq_some_iff.mp h
    obtain ⟨h3, rfl⟩ := opt_if h2
    obtain ⟨a, xs, rfl, e1, e2⟩ := px.list
    have := intsOf_map h1
    subst this
    have := e2.ints
    subst this
    refine ⟨a, ns, rfl, e1, h3, fun ns' p hp hw hn => q.new _ _ p rfl hn ?_⟩
    rw [mergeSort_is hp hw]
    exact fr_intsAll ns'
  · cases h
/-! repr -/
mutual
theorem dp_noDict {K : PySem.W.Frag} {H : Hp} : ∀ {v : V} {d : PyData}, Dp K H v d → d.hasDict = false
  | _, _, .non => by simp only [PyData.hasDict]
  | _, _, .bl _ => by simp only [PyData.hasDict]
  | _, _, .int _ => by simp only [PyData.hasDict]
  | _, _, .str _ => by simp only [PyData.hasDict]
  | _, _, .lst _ h => by simp only [PyData.hasDict]; exact dp_noDictAll h
  | _, _, .tup _ h => by simp only [PyData.hasDict]; exact dp_noDictAll h
theorem dp_noDictAll {K : PySem.W.Frag} {H : Hp} : ∀ {v : List V} {d : List PyData}, DpAll K H v d → PyData.hasDictAll d = false
  | _, _, .nil => by simp only [PyData.hasDictAll]
  | _, _, .cons h1 h2 => by simp only [PyData.hasDictAll, dp_noDict h1, dp_noDictAll h2, Bool.or_false]
end
def gRepr (d : PyData) : Option Rv := if (d.showable && decide (d.shown.length ≤ sizeLine) && decide (d.depth < 60)) = true then some (vS d.shown) else none
def rRepr (K : PySem.W.Frag) : List V → Hp → VK → Prop := fun xs H Q => ∃ x d, xs = [x] ∧ Dp K H x d ∧ d.showable = true ∧ d.shown.length ≤ sizeLine ∧ d.depth < 60 ∧ Q (.str d.shown) H
theorem call_reprD {X : Cx} (hgd : X.A.guards = some []) (hu : X.A.units + 64 < cLine) : CallR X (.builtin "repr") (rRepr X.K) := fun pins s σ H xs us Q I rv h => by
  obtain ⟨x, d, rfl, hd, h1, h2, h3, q⟩ := h
  obtain ⟨u, rfl, ru⟩ := vals1 rv
  obtain ⟨as, rd⟩ := Dp.reads I d x u hd ru
  have nd := dp_noDict hd
  have fin : ∀ (h' : Heap) (t tk : Tok), (∀ b o, s.heap.get? b = some o → h'.get? b = some o) → EP X pins σ Q (.str d.shown t) { s with heap := h', toks := tk } := fun h' t tk k => ⟨.str d.shown, H, I.kept k, ⟨t, rfl⟩, q⟩
  cases u with
  | ref a => exact repr_of_reads' rd h1 (PyData.noDict_hsm nd) hgd (by omega) (fun _ _ e => e) (fun h' t tk k => fin h' t tk k) h2
  | none => cases rd; exact PySem.P.repr_of_none ⟨.str (PyData.shown .none), H, I.tok _, ⟨s.toks, by simp [PyData.shown]⟩, q⟩
  | bool b => cases rd; exact PySem.P.repr_of_bool ⟨.str (PyData.shown (.bool b)), H, I.tok _, ⟨s.toks, by simp [PyData.shown]⟩, q⟩
  | int i t => cases rd; exact PySem.P.repr_of_int (by simpa [PyData.showable] using h1) ⟨.str (PyData.shown (.int i)), H, I.tok _, ⟨s.toks, by simp [PyData.shown]⟩, q⟩
  | str y t => cases rd; exact PySem.P.repr_of_str ⟨.str (PyData.shown (.str y)), H, I.tok _, ⟨s.toks, by simp [PyData.shown]⟩, q⟩ (by simpa [PyData.shown] using h2)
  | _ => cases rd
theorem o_repr : Op1 K (fun x H Q => rRepr K [x] H Q) gRepr := fun H F x d z Q px h q => by
  obtain ⟨h1, rfl⟩ := opt_if h
  simp only [Bool.and_eq_true, decide_eq_true_eq] at h1
  exact ⟨x, d, rfl, px.dp, h1.1.1, h1.1.2, h1.2, q.val _ _ rfl (.str _)⟩
end Mi

/-! Mi15.lean -/
set_option Elab.async false
set_option linter.all false
set_option maxRecDepth 100000
/-! objects changed: methods, stores; slices; two names at once -/
namespace Mi
open PySem L2 PySem.Spec PyProof.Rows
variable {K : PySem.W.Frag} {α : List Addr} {r r' : En} {σ : L2.St} {H H' : Hp} {F F' : Addr → Prop}

/-- the list of a name changed by a method: what becomes of it, what comes back -/
def mutF (x : Rv) (up : List PyData → List PyData → Option (List PyData × PyData)) (as : List PyData) : M Rv := fun r => match x with
  | .at l => match look r l with
    | some (.live (.lst ds)) => match up ds as with
      | some (ds', e) => .ok (.val e) (setLo r l (.live (.lst ds')))
      | none => .no
    | _ => .no
  | _ => .no
def isLst (x : Rv) : M Rv := fun r => match peek r x with
  | some (.list _) => .ok x r
  | _ => .no
def mutE (i : Nat) (up : List PyData → List PyData → Option (List PyData × PyData)) (g : M (List PyData)) : M Rv := M.bnd (nmE i) fun x => M.bnd (isLst x) fun x => M.bnd g fun as => mutF x up as
def MutR (K : PySem.W.Frag) (ro : V → List V → Hp → VK → Prop) (up : List PyData → List PyData → Option (List PyData × PyData)) : Prop :=
  ∀ (H : Hp) (F : Addr → Prop) (a : Addr) (xs vs : List V) (ds as ds' : List PyData) (e : PyData) (Q : VK), H a = some (.lst xs) → FrAll K H F xs ds → FrAll K H F vs as → up ds as = some (ds', e) →
    (∀ y ys, Fr K H F y e → FrAll K H F ys ds' → Q y (upd H a (.lst ys))) → ro (.ref a) vs H Q
theorem mutF_ok {ro : V → List V → Hp → VK → Prop} {up : List PyData → List PyData → Option (List PyData × PyData)} (hm : MutR K ro up) {x : Rv} {v : V} {vs : List V} {as : List PyData} {Q : VK} (S : SR K α r σ H F) (t : TR K α r σ H F x v) (fr : FrAll K H F vs as)
    (h : Aft K α σ (Own α r σ) H F W (mutF x up as r) Q) : ro v vs H Q := by
  cases x with
  | val d => exact h.elim
  | own o => exact h.elim
  | «at» l =>
    unfold mutF at h
    simp only at h
    obtain ⟨a, rfl, ha⟩ := t
    split at h
    · rename_i ds q
      split at h
      · rename_i ds' e q2
        obtain ⟨a', u, e1, h1, xs, rfl, h2⟩ := content_rel S (x := .at l) (b := .live (.lst ds)) ⟨a, rfl, ha⟩ q
        cases e1
        refine hm H F a xs vs ds as ds' e Q h1 h2 fr q2 fun y ys fy fys => ?_
        obtain ⟨S', st, ow⟩ := S.write q ha (o' := .lst ds') (u' := .lst ys) ⟨ys, rfl, fys⟩
        exact h y _ F S' (st.more fun z q => q.elim id fun ⟨⟨_, z⟩, _⟩ => nomatch z) (fy.stay st.stay)
      · exact h.elim
    · exact h.elim
theorem isLst_ok {x : Rv} {g : Rv → M Rv} {O : Addr → Prop} {Q : VK} (h : Aft K α σ O H F W (M.bnd (isLst x) g r) Q) : ∃ ds, peek r x = some (.list ds) ∧ Aft K α σ O H F W (g x r) Q := by
  unfold M.bnd isLst at h
  cases ep : peek r x with
  | none => simp only [ep] at h; exact h.elim
  | some d =>
    cases d with
    | list ds => simp only [ep] at h; exact ⟨ds, rfl, h⟩
    | _ => simp only [ep] at h; exact h.elim
theorem tL_bnd {f : M (List PyData)} {g : List PyData → M Rv} {Q : VK} (S : SR K α r σ H F) (h : Aft K α σ (Own α r σ) H F W (M.bnd f g r) Q) :
    tL K α W f σ H fun vs H1 => ∃ r1 F1 ds, SR K α r1 σ H1 F1 ∧ Step (Own α r σ) H F H1 F1 (Own α r1 σ) ∧ FrAll K H1 F1 vs ds ∧ Aft K α σ (Own α r1 σ) H1 F1 W (g ds r1) Q := by
  refine ⟨r, F, S, ?_⟩
  unfold M.bnd at h
  cases e : f r with
  | ok x r1 =>
    rw [e] at h
    exact fun v H1 F1 a b c => ⟨r1, F1, x, a, b, c, h.step b fun _ z => z⟩
  | ex x r1 => rw [e] at h; exact h
  | no => rw [e] at h; exact h.elim
theorem mut_ok {ro : V → List V → Hp → VK → Prop} {up : List PyData → List PyData → Option (List PyData × PyData)} (hm : MutR K ro up) {i : Nat} {g : M (List PyData)} {Q : VK} (h : tE K α W (mutE i up g) σ H Q) :
    tBM K "list" ro (tE K α W (nmE i)) (tL K α W g) σ H Q := by
  obtain ⟨r, F, S, h⟩ := h
  refine tE_mono (tE_bnd S h) fun x H1 ⟨r1, F1, x1, S1, st1, t1, h1⟩ => ?_
  obtain ⟨ds, ep, h2⟩ := isLst_ok h1
  obtain ⟨a, xs, e, hs, _⟩ := (peek_rel S1 t1 ep).list
  subst e
  refine ⟨.inl ⟨rfl, xs, hs⟩, tL_mono (tL_bnd S1 h2) fun vs H2 ⟨r2, F2, as, S2, st2, fr, h3⟩ => ?_⟩
  exact mutF_ok hm S2 (t1.step st2 fun _ z => z) fr h3
theorem mut0_ok {ro : V → List V → Hp → VK → Prop} {up : List PyData → List PyData → Option (List PyData × PyData)} (hm : MutR K ro up) {i : Nat} {Q : VK} (h : tE K α W (mutE i up nilL) σ H Q) :
    tBM0 K "list" ro (tE K α W (nmE i)) σ H Q := by
  obtain ⟨r, F, S, h⟩ := h
  refine tE_mono (tE_bnd S h) fun x H1 ⟨r1, F1, x1, S1, st1, t1, h1⟩ => ?_
  obtain ⟨ds, ep, h2⟩ := isLst_ok h1
  obtain ⟨a, xs, e, hs, _⟩ := (peek_rel S1 t1 ep).list
  subst e
  exact ⟨.inl ⟨rfl, xs, hs⟩, mutF_ok hm S1 t1 .nil h2⟩
def uApp (ds as : List PyData) : Option (List PyData × PyData) := match as with
  | [d] => if ds.length < sizeLine then some (ds ++ [d], .none) else none
  | _ => none
theorem m_app : MutR K rAppend uApp := fun H F a xs vs ds as ds' e Q hH fx fv h q => by
  unfold uApp at h
  split at h
  · obtain ⟨h1, h2⟩ := opt_if h
    cases h2
    match vs, fv with
    | [v], .cons f1 .nil => exact ⟨a, xs, v, rfl, rfl, hH, by rw [fx.len]; exact h1, q _ _ .non (fx.app (.cons f1 .nil))⟩
  · cases h
def uPop0 (ds as : List PyData) : Option (List PyData × PyData) := match as with
  | [] => ds[ds.length - 1]?.map fun e => (ds.dropLast, e)
  | _ => none
theorem FrAll.dropLast {v : List V} {d : List PyData} (h : FrAll K H F v d) : FrAll K H F v.dropLast d.dropLast := by
  rw [List.dropLast_eq_take, List.dropLast_eq_take, h.len]
  exact h.take _
theorem m_pop0 : MutR K rPop uPop0 := fun H F a xs vs ds as ds' e Q hH fx fv h q => by
  unfold uPop0 at h
  split at h
  · obtain ⟨w, h1, h2⟩ := Option.map_eq_some_iff.mp h
    cases h2
    cases fv
    obtain ⟨x, gx, f1⟩ := fx.get h1
    exact ⟨a, xs, x, rfl, rfl, hH, by rw [fx.len]; exact gx, q _ _ f1 fx.dropLast⟩
  · cases h
def uPop (ds as : List PyData) : Option (List PyData × PyData) := match as with
  | [.int i] => if -(2 ^ 63) ≤ i ∧ i < 2 ^ 63 then (ixN ds.length i).bind fun k => ds[k]?.map fun e => (ds.eraseIdx k, e) else none
  | _ => none
theorem m_pop : MutR K rPopAt uPop := fun H F a xs vs ds as ds' e Q hH fx fv h q => by
  unfold uPop at h
  split at h
  · split at h
    · rename_i hi
      obtain ⟨k, h1, h2⟩ := Option.bind_eq_some_iff.mp h
      obtain ⟨w, h3, h4⟩ := Option.map_eq_some_iff.mp h2
      cases h4
      match vs, fv with
      | [_], .cons (.int i) .nil =>
        obtain ⟨x, gx, f1⟩ := fx.get h3
        exact ⟨a, xs, i, k, x, rfl, rfl, hH, hi.1, hi.2, by rw [fx.len]; exact (ixN_seq h1).1, gx, q _ _ f1 (fx.erase k)⟩
    · cases h
  · cases h
def uRev (ds as : List PyData) : Option (List PyData × PyData) := match as with
  | [] => some (ds.reverse, .none)
  | _ => none
theorem m_rev : MutR K rReverse uRev := fun H F a xs vs ds as ds' e Q hH fx fv h q => by
  unfold uRev at h
  split at h
  · cases h; cases fv; exact ⟨a, xs, rfl, rfl, hH, q _ _ .non fx.rev⟩
  · cases h
def uClr (ds as : List PyData) : Option (List PyData × PyData) := match as with
  | [] => some ([], .none)
  | _ => none
theorem m_clr : MutR K rClear uClr := fun H F a xs vs ds as ds' e Q hH fx fv h q => by
  unfold uClr at h
  split at h
  · cases h; cases fv; exact ⟨a, xs, rfl, rfl, hH, q _ _ .non .nil⟩
  · cases h
/-- xs.extend(ys), ys any list -/
def rExtX (K : PySem.W.Frag) : V → List V → Hp → VK → Prop := fun x vs H Q => ∃ l b xs zs, x = .ref l ∧ vs = [.ref b] ∧ H l = some (.lst xs) ∧ Lx K H b zs ∧ xs.length + zs.length ≤ sizeLine ∧ Q .non (upd H l (.lst (xs ++ zs)))
theorem mt_extX {X : Cx} : MtM X "list.extend" (rExtX X.K) := fun pins s σ H x vs v us Q I rx rv h => by
  obtain ⟨l, b, xs, zs, rfl, rfl, hH, hB, hz, q⟩ := h
  cases rx
  obtain ⟨u, rfl, ru⟩ := rv.one
  cases ru
  obtain ⟨_, its, n, r1, _, e1⟩ := I.lstM hH
  obtain ⟨its2, n2, r2, _, e2⟩ := lx_obj I hB
  have l1 := r1.length
  have l2 := r2.length
  have small : its.toArray.size + its2.toArray.size ≤ sizeLine := by simp only [List.size_toArray]; omega
  have nl : ¬ (!its.toArray.isEmpty && Builtin.List.listTooLong (its.toArray.size + its2.toArray.size)) = true := by
    rw [notLongL small]
    simp
  have sl : its2.length ≤ sizeLine := by omega
  refine call_meets F.slot_list_extend ⟨_, e1, rfl⟩ F.entry_list_extend (F.args_list_extend_2 _ _) (AutoSeq1.list_extend_list_list_0 l its.toArray n b its2.toArray n2 nl (by simp only [List.size_toArray]; omega) (by simp only [List.size_toArray] at *; omega)) ⟨e1, e2, ?_⟩
  exact ⟨.non, _, I.lset (its' := its ++ its2) hH e1 (by simp) (Vals.append r1 r2) (by rw [List.length_append]; omega), rfl, q⟩
def uExt (ds as : List PyData) : Option (List PyData × PyData) := match as with
  | [.list es] => if ds.length + es.length ≤ sizeLine then some (ds ++ es, .none) else none
  | _ => none
theorem m_ext : MutR K (rExtX K) uExt := fun H F a xs vs ds as ds' e Q hH fx fv h q => by
  unfold uExt at h
  split at h
  · obtain ⟨h1, h2⟩ := opt_if h
    cases h2
    match vs, fv with
    | [v], .cons f1 .nil =>
      obtain ⟨b, ys, rfl, l1, f2⟩ := f1.lx
      exact ⟨a, b, xs, ys, rfl, rfl, hH, l1, by rw [fx.len, f2.len]; exact h1, q _ _ .non (fx.app f2)⟩
  · cases h
section
variable {X : Cx} {e : Expr} {g : M (List PyData)} {i : Nat} {ro : V → List V → Hp → VK → Prop} {up : List PyData → List PyData → Option (List PyData × PyData)}
theorem ev_mut (h : PE X e (tBM X.K "list" ro (tE X.K α W (nmE i)) (tL X.K α W g))) (hu : MutR X.K ro up) : PE X e (tE X.K α W (mutE i up g)) := pe_weak h fun _ _ _ q => mut_ok hu q
theorem ev_mut0 (h : PE X e (tBM0 X.K "list" ro (tE X.K α W (nmE i)))) (hu : MutR X.K ro up) : PE X e (tE X.K α W (mutE i up nilL)) := pe_weak h fun _ _ _ q => mut0_ok hu q
end
/-! reading methods of lists: xs.count(y) -/
def metE (g : PyData → List PyData → Option Rv) (f : M Rv) (a : M (List PyData)) : M Rv := M.bnd f fun x => M.bnd (isLst x) fun x => M.bnd a fun as r => match peek r x with
  | some d => match g d as with
    | some z => .ok z r
    | none => .no
  | none => .no
def MetR (K : PySem.W.Frag) (ro : V → List V → Hp → VK → Prop) (g : PyData → List PyData → Option Rv) : Prop :=
  ∀ (H : Hp) (F : Addr → Prop) (x : V) (vs : List V) (d : PyData) (as : List PyData) (z : Rv) (Q : VK), Pk K H F x d → FrAll K H F vs as → g d as = some z → Fin K H F z Q → ro x vs H Q
theorem met_ok {ro : V → List V → Hp → VK → Prop} {gm : PyData → List PyData → Option Rv} (hm : MetR K ro gm) {f : M Rv} {g : M (List PyData)} {Q : VK} (h : tE K α W (metE gm f g) σ H Q) :
    tBM K "list" ro (tE K α W f) (tL K α W g) σ H Q := by
  obtain ⟨r, F, S, h⟩ := h
  refine tE_mono (tE_bnd S h) fun x H1 ⟨r1, F1, x1, S1, st1, t1, h1⟩ => ?_
  obtain ⟨ds, ep, h2⟩ := isLst_ok h1
  obtain ⟨a, xs, e, hs, _⟩ := (peek_rel S1 t1 ep).list
  subst e
  refine ⟨.inl ⟨rfl, xs, hs⟩, tL_mono (tL_bnd S1 h2) fun vs H2 ⟨r2, F2, as, S2, st2, fr, h3⟩ => ?_⟩
  cases e1 : peek r2 x1 with
  | none => simp only [e1] at h3; exact h3.elim
  | some d =>
    simp only [e1] at h3
    cases e2 : gm d as with
    | none => simp only [e2] at h3; exact h3.elim
    | some z =>
      simp only [e2] at h3
      exact hm H2 F2 _ vs d as z Q (peek_rel S2 (t1.step st2 fun _ z => z) e1) fr e2 (Aft.fin S2 h3)
def flatD : PyData → Bool
  | .none => true
  | .bool _ => true
  | .int _ => true
  | .str _ => true
  | _ => false
def flatV' : PyData → V
  | .bool b => .bl b
  | .int i => .int i
  | .str x => .str x
  | _ => .non
theorem flat_fr {v : V} {d : PyData} (h : Fr K H F v d) (e : flatD d = true) : flatV v = true ∧ v = flatV' d := by
  cases h <;> first | exact ⟨rfl, rfl⟩ | cases e
theorem flat_eq {v w : V} {d e : PyData} (h : Fr K H F v d) (h' : Fr K H F w e) (fd : flatD d = true) (fe : flatD e = true) : eqV v w = PyData.eqv d e := by
  have h1 := (flat_fr h fd).2
  have h2 := (flat_fr h' fe).2
  subst h1 h2
  clear h h'
  cases d <;> first | (cases fd; done) | (cases e <;> first | (cases fe; done) | rfl)
theorem FrAll.flat {v : List V} {d : List PyData} (h : FrAll K H F v d) (e : d.all flatD = true) : v.all flatV = true := by
  induction d generalizing v with
  | nil => cases h; rfl
  | cons d ds ih =>
    cases h with
    | cons h1 h2 =>
      have e := Bool.and_eq_true_iff.mp (show (flatD d && ds.all flatD) = true from e)
      exact Bool.and_eq_true_iff.mpr ⟨(flat_fr h1 e.1).1, ih h2 e.2⟩
theorem FrAll.count {v : List V} {d : List PyData} {w : V} {e : PyData} (h : FrAll K H F v d) (h' : Fr K H F w e) (fd : d.all flatD = true) (fe : flatD e = true) : v.countP (fun y => eqV y w) = d.countP fun z => PyData.eqv z e := by
  induction d generalizing v with
  | nil => cases h; rfl
  | cons d ds ih =>
    cases h with
    | cons h1 h2 =>
      have fd := Bool.and_eq_true_iff.mp (show (flatD d && ds.all flatD) = true from fd)
      rw [List.countP_cons, List.countP_cons, ih h2 fd.2, flat_eq h1 h' fd.1 fe]
def rCntV (K : PySem.W.Frag) : V → List V → Hp → VK → Prop := fun x ys H Q => ∃ p xs y, x = .ref p ∧ ys = [y] ∧ Lx K H p xs ∧ flatV y = true ∧ xs.all flatV = true ∧ Q (.int (xs.countP fun z => eqV z y : Nat)) H
def absEq (y : V) (u : Value) : Bool := match absV u with
  | some z => eqV z y
  | none => false
theorem count_vals (y : V) : ∀ {xs : List V} {us : List Value}, Vals xs us → us.countP (absEq y) = xs.countP fun z => eqV z y
  | _, _, .nil => rfl
  | _, _, .cons r t => by
    rw [List.countP_cons, List.countP_cons, count_vals y t]
    unfold absEq
    rw [r.abs]
theorem vals_mem : ∀ {xs : List V} {us : List Value} {u : Value}, Vals xs us → u ∈ us → ∃ x ∈ xs, RelV x u
  | _, _, _, .nil, h => nomatch h
  | _, _, _, .cons r t, h => (List.mem_cons.mp h).elim (fun e => ⟨_, List.mem_cons_self, e ▸ r⟩) fun h => by
    obtain ⟨x, h1, h2⟩ := vals_mem t h
    exact ⟨x, List.mem_cons_of_mem _ h1, h2⟩
theorem mt_cntV {X : Cx} : MtR X "list.count" (rCntV X.K) := fun pins s σ H x ys v us Q I rx ry h => by
  obtain ⟨p, xs, y, rfl, rfl, hl, fy, fx, q⟩ := h
  cases rx
  obtain ⟨u, rfl, ru⟩ := ry.one
  obtain ⟨its, n, rv, _, ho⟩ := lx_obj I hl
  refine call_meets PySem.F.slot_list_count ⟨_, ho, rfl⟩ PySem.F.entry_list_count (PySem.F.args_list_count_2 _ _) (SeqAt.list_countAt p its.toArray n none #[] u (absEq y)) ⟨ho, fun z hz => ?_, ?_⟩
  · obtain ⟨x, h1, h2⟩ := vals_mem rv (by simpa using hz)
    have e : absEq y z = eqV x y := by unfold absEq; rw [h2.abs]
    rw [e]
    exact eqAt_V h2 ru (List.all_eq_true.mp fx x h1) fy
  · refine ⟨.int (xs.countP fun z => eqV z y : Nat), H, I.tok _, ⟨s.toks, ?_⟩, q⟩
    rw [← count_vals y rv]
def gCnt (d : PyData) (as : List PyData) : Option Rv := match d, as with
  | .list ds, [e] => if (ds.all flatD && flatD e) = true then some (vI (ds.countP fun z => PyData.eqv z e : Nat)) else none
  | _, _ => none
theorem o_cnt : MetR K (rCntV K) gCnt := fun H F x vs d as z Q px fr h q => by
  unfold gCnt at h
  split at h
  · obtain ⟨h1, rfl⟩ := opt_if h
    obtain ⟨f1, f2⟩ := Bool.and_eq_true_iff.mp h1
    obtain ⟨a, xs, rfl, l, fx⟩ := px.lx
    match vs, fr with
    | [v], .cons fv .nil => exact ⟨a, xs, v, rfl, rfl, l, (flat_fr fv f2).1, fx.flat f1, by rw [fx.count fv f1 f2]; exact q.val _ _ rfl (.int _)⟩
  · cases h
theorem ev_met {X : Cx} {e : Expr} {f : M Rv} {g : M (List PyData)} {ro : V → List V → Hp → VK → Prop} {gm : PyData → List PyData → Option Rv} (h : PE X e (tBM X.K "list" ro (tE X.K α W f) (tL X.K α W g))) (hm : MetR X.K ro gm) : PE X e (tE X.K α W (metE gm f g)) := pe_weak h fun _ _ _ q => met_ok hm q
/-! ### xs[i] = e -/
def stoF (d : PyData) (o i : Rv) (r : En) : Out := match o with
  | .at l => match look r l, peek r i with
    | some (.live (.lst ds)), some (.int k) => match ixN ds.length k with
      | some n => .nx (setLo r l (.live (.lst (ds.set n d))))
      | none => .no
    | _, _ => .no
  | _ => .no
def stoS (f : M Rv) (j : Nat) (g : M Rv) : Stm := ofM f fun x => ofM (frz x) fun d => ofM (nmE j) fun o => ofM g fun i => stoF d o i
theorem stoF_ok {d : PyData} {o i : Rv} {v vo vi : V} {D : Ends} {O : Addr → Prop} (S : SR K α r σ H F) (fv : Fr K H F v d) (t1 : TR K α r σ H F o vo) (t2 : TR K α r σ H F i vi) (ho : ∀ a, Own α r σ a → O a) (h : AftS K α O H F W (stoF d o i r) D) :
    rSetL vo vi v H fun H3 => D.nx σ H3 := by
  cases o with
  | val d => exact h.elim
  | own o => exact h.elim
  | «at» l =>
    unfold stoF at h
    simp only at h
    split at h
    · rename_i ds k q1 q2
      split at h
      · rename_i n q3
        obtain ⟨a, rfl, ha⟩ := t1
        obtain ⟨a', u, e1, h1, xs, rfl, h2⟩ := content_rel S (x := .at l) (b := .live (.lst ds)) ⟨a, rfl, ha⟩ q1
        cases e1
        have e := (peek_rel S t2 q2).int
        subst e
        obtain ⟨S', st, ow⟩ := S.write q1 ha (o' := .lst (ds.set n d)) (u' := .lst (xs.set n v)) ⟨_, rfl, h2.set fv n⟩
        exact ⟨a, xs, k, n, rfl, rfl, h1, by rw [h2.len]; exact q3, h σ _ F S' (st.widen ho fun z q => .inl q)⟩
      · exact h.elim
    · exact h.elim
theorem sto_ok {f : M Rv} {j : Nat} {g : M Rv} {D : Ends} (h : tS K α W (stoS f j g) D σ H) : tAsg (tE K α W f) (gSub (tE K α W (nmE j)) (tE K α W g) rSetL) D σ H := by
  obtain ⟨r, F, S, h⟩ := h
  refine tE_mono (ofM_E S h) fun v H1 ⟨r1, F1, x, S1, st1, t1, h1⟩ => ?_
  unfold ofM at h1
  cases ez : frz x r1 with
  | no => simp only [ez] at h1; exact h1.elim
  | ex w r5 => exact absurd ez frz_ex
  | ok d r2 =>
    simp only [ez] at h1
    obtain ⟨F2, S2, fv, st2, _⟩ := frz_ok S1 t1 ez
    have h2 : AftS K α (Own α r2 σ) H1 F2 W (ofM (nmE j) (fun o => ofM g fun i => stoF d o i) r2) D := AftS.step h1 st2 fun _ z => z
    refine tE_mono (ofM_E S2 h2) fun vo H3 ⟨r3, F3, o, S3, st3, t3, h3⟩ => ?_
    have h3' : AftS K α (Own α r3 σ) H3 F3 W (ofM g (fun i => stoF d o i) r3) D := AftS.step h3 (Step.refl (O' := Own α r3 σ) fun _ z => .inl z) fun _ z => z
    refine tE_mono (ofM_E S3 h3') fun vi H4 ⟨r4, F4, i, S4, st4, t4, h4⟩ => ?_
    exact stoF_ok S4 (Fr.stay st4.stay (Fr.stay st3.stay fv)) (t3.step st4 fun _ z => .inl z) t4 (fun _ z => .inl z) h4
theorem sv_sto {X : Cx} {e : Expr} {f g : M Rv} {j : Nat} {pos : Pos} {tg : Expr} (he : PE X e (tE K α W f)) (hg : PG X tg (gSub (tE K α W (nmE j)) (tE K α W g) rSetL)) (hs : swapsWithSole [tg] e pos.line X.env = pure false := by rfl) (hw : swappedStores [tg] e X.env = pure none := by rfl)
    (h1 : (assignEach [tg] X.env).map (·.2) = [assign tg X.env] := by rfl) : PS X (.Assign [tg] e pos) (tS K α W (stoS f j g)) := ps_weak (ps_asg he hg hs hw h1) fun _ _ _ q => sto_ok q
/-! ### x[a:b] -/
def optI (f : Option (M Rv)) : M (Option Int) := match f with
  | none => M.ret none
  | some f => M.bnd f fun x r => match peek r x with
    | some (.int i) => .ok (some i) r
    | _ => .no
def cutD (xs : List PyData) (lo hi : Option Int) : List PyData := (xs.drop (HT.sIx xs.length 0 lo)).take (HT.sIx xs.length xs.length hi - HT.sIx xs.length 0 lo)
def gSl (d : PyData) (lo hi : Option Int) : Option Rv := match d with
  | .list ds => some (.own (.lst (cutD ds lo hi)))
  | .tuple ds => some (.val (.tuple (cutD ds lo hi)))
  | .str z => if z.length ≤ sizeLine then some (vS (cutS z lo hi)) else none
  | _ => none
def slE (f : M Rv) (lo hi : Option (M Rv)) : M Rv := M.bnd f fun x => M.bnd (optI lo) fun l => M.bnd (optI hi) fun h r => match (peek r x).bind fun d => gSl d l h with
  | some z => .ok z r
  | none => .no
theorem FrAll.cut {xs : List V} {ds : List PyData} (h : FrAll K H F xs ds) (lo hi : Option Int) : FrAll K H F (cutV xs lo hi) (cutD ds lo hi) := by
  unfold cutV cutD
  rw [h.len]
  exact (h.drop _).take _
def tO' (K : PySem.W.Frag) (α : List Addr) (W : L2.WX) (f : M (Option Int)) : TO := tB' K α W f
theorem tE_bndO {β : Type} {f : M Rv} {g : Rv → M β} {Q : β → Hp → Prop} (S : SR K α r σ H F) (h : AftB K α σ (Own α r σ) H F W (M.bnd f g r) Q) :
    tE K α W f σ H fun v H1 => ∃ r1 F1 x, SR K α r1 σ H1 F1 ∧ TR K α r1 σ H1 F1 x v ∧ AftB K α σ (Own α r1 σ) H1 F1 W (g x r1) Q := tE_mono (tE_bndB S h) fun v H1 ⟨r1, F1, x, a, b, c, d⟩ => ⟨r1, F1, x, a, c, d⟩
theorem optI_ok {f : M Rv} {Q : Option Int → Hp → Prop} (h : tB' K α W (optI (some f)) σ H Q) : tPart (tE K α W f) σ H Q := by
  obtain ⟨r, F, S, h⟩ := h
  refine tE_mono (tE_bndO S h) fun v H1 ⟨r1, F1, x, S1, t, h1⟩ => ?_
  split at h1
  · rename_i i q
    exact ⟨i, (peek_rel S1 t q).int, AftB.here S1 h1⟩
  · exact h1.elim
def rSlX (K : PySem.W.Frag) : V → Option Int → Option Int → Hp → VK → Prop := fun x lo hi H Q => rSlL K x lo hi H Q ∨ rSlA K x lo hi H Q ∨ rSlS x lo hi H Q
theorem sl_any {X : Cx} : L2.SlR X (rSlX X.K) := sl_list.or (sl_tupA.or sl_str)
theorem o_sl {x : V} {d : PyData} {lo hi : Option Int} {z : Rv} {Q : VK} (px : Pk K H F x d) (h : gSl d lo hi = some z) (q : Fin K H F z Q) : rSlX K x lo hi H Q := by
  unfold gSl at h
  split at h
  · cases h
    obtain ⟨a, xs, rfl, e1, r1⟩ := px.list
    exact .inl ⟨a, xs, rfl, e1, fun p hp => q.new _ _ p rfl hp (r1.cut lo hi)⟩
  · cases h
    obtain ⟨a, xs, rfl, e1, r1⟩ := px.tup
    refine .inr (.inl ⟨a, xs, rfl, e1, fun w => ?_, fun _ p hp => q.tup _ _ p rfl hp (r1.cut lo hi)⟩)
    refine q.val _ _ rfl (.tup e1 ?_)
    have c := r1.cut lo hi
    have e : cutV xs lo hi = xs := by
      unfold cutV
      rw [w.1, w.2]
      simp
    rwa [e] at c
  · obtain ⟨h1, rfl⟩ := opt_if h
    have e := px.str
    subst e
    exact .inr (.inr ⟨_, rfl, h1, q.val _ _ rfl (.str _)⟩)
  · cases h
theorem tB_bndK {β γ : Type} {f : M β} {g : β → M γ} {P : Res γ → Prop} (hno : ¬ P .no) (S : SR K α r σ H F) (hex : ∀ x e, P (.ex x e) → AftX K α σ (Own α r σ) H F W x e) (h : P (M.bnd f g r)) {Q : β → Hp → Prop}
    (q : ∀ b H1 r1 F1, SR K α r1 σ H1 F1 → Step (Own α r σ) H F H1 F1 (Own α r1 σ) → P (g b r1) → Q b H1) : tB' K α W f σ H Q := by
  refine ⟨r, F, S, ?_⟩
  unfold M.bnd at h
  cases e : f r with
  | no => rw [e] at h; exact absurd h hno
  | ex z r1 => rw [e] at h; exact hex _ _ h
  | ok b r1 => rw [e] at h; exact fun H1 F1 S1 st => q b H1 r1 F1 S1 st h
theorem sl_ok {f : M Rv} {lo hi : Option (M Rv)} {tl th : TO} (hl : ∀ σ H Q, tB' K α W (optI lo) σ H Q → tl σ H Q) (hh : ∀ σ H Q, tB' K α W (optI hi) σ H Q → th σ H Q) {Q : VK} (h : tE K α W (slE f lo hi) σ H Q) : tSl (rSlX K) (tE K α W f) tl th σ H Q := by
  obtain ⟨r, F, S, h⟩ := h
  refine tE_mono (tE_bnd S h) fun x H1 ⟨r1, F1, x1, S1, st1, t1, h1⟩ => hl _ _ _ ?_
  refine tB_bndK (P := fun z => Aft K α σ (Own α r1 σ) H1 F1 W z Q) (fun z => z) S1 (fun _ _ z => z) h1 fun l H2 r2 F2 S2 st2 h2 => hh _ _ _ ?_
  have h2 := h2.step st2 fun _ z => z
  refine tB_bndK (P := fun z => Aft K α σ (Own α r2 σ) H2 F2 W z Q) (fun z => z) S2 (fun _ _ z => z) h2 fun u H3 r3 F3 S3 st3 h3 => ?_
  have h3 := h3.step st3 fun _ z => z
  split at h3
  · rename_i z q
    obtain ⟨d, q1, q2⟩ := Option.bind_eq_some_iff.mp q
    exact o_sl (peek_rel S3 ((t1.step st2 fun _ z => z).step st3 fun _ z => z) q1) q2 (Aft.fin S3 h3)
  · exact h3.elim
section
variable {X : Cx} {e a b : Expr} {f fa fb : M Rv} {pos p2 : Pos}
theorem ev_sl (he : PE X e (tE X.K α W f)) : PE X (.Subscript e (.Slice none none none p2) pos) (tE X.K α W (slE f none none)) := pe_weak (pe_slice sl_any he po_none po_none) fun _ _ _ q => sl_ok (fun _ _ _ z => tB_ret z) (fun _ _ _ z => tB_ret z) q
theorem ev_slL (he : PE X e (tE X.K α W f)) (ha : PE X a (tE X.K α W fa)) : PE X (.Subscript e (.Slice (some a) none none p2) pos) (tE X.K α W (slE f (some fa) none)) := pe_weak (pe_slice sl_any he (po_some ha) po_none) fun _ _ _ q => sl_ok (fun _ _ _ z => optI_ok z) (fun _ _ _ z => tB_ret z) q
theorem ev_slH (he : PE X e (tE X.K α W f)) (hb : PE X b (tE X.K α W fb)) : PE X (.Subscript e (.Slice none (some b) none p2) pos) (tE X.K α W (slE f none (some fb))) := pe_weak (pe_slice sl_any he po_none (po_some hb)) fun _ _ _ q => sl_ok (fun _ _ _ z => tB_ret z) (fun _ _ _ z => optI_ok z) q
theorem ev_slLH (he : PE X e (tE X.K α W f)) (ha : PE X a (tE X.K α W fa)) (hb : PE X b (tE X.K α W fb)) : PE X (.Subscript e (.Slice (some a) (some b) none p2) pos) (tE X.K α W (slE f (some fa) (some fb))) := pe_weak (pe_slice sl_any he (po_some ha) (po_some hb)) fun _ _ _ q => sl_ok (fun _ _ _ z => optI_ok z) (fun _ _ _ z => optI_ok z) q
end
end Mi

/-! Mi16.lean -/
set_option Elab.async false
set_option linter.all false
set_option maxRecDepth 100000
/-! constants of the top; two names at once; repeated lists; ranges as lists -/
namespace Mi
open PySem L2 PySem.Spec PyProof.Rows
variable {K : PySem.W.Frag} {α : List Addr} {r r' : En} {σ : L2.St} {H H' : Hp} {F F' : Addr → Prop}
theorem u65 {A : Around} {k : Nat} (hr : Room k A) : A.units + 65 < cLine := by have := hr.un; omega
theorem ev_gint {X : Cx} {x : Str} {pos : Pos} {i : Int} (hg : Gl X x) (h : ∃ t, X.mg x = some (.int i t)) (hd : (x == ("__debug__" : Str)) = false := by decide) : PE X (.Name x pos) (tE K α W (kE (.int i))) := by
  obtain ⟨t, h⟩ := h
  exact ev_k (v := .int i) (pe_glob hg h ⟨t, rfl⟩ hd) fun _ _ => .int i
theorem ev_gstr {X : Cx} {x : Str} {pos : Pos} {i : Str} (hg : Gl X x) (h : ∃ t, X.mg x = some (.str i t)) (hd : (x == ("__debug__" : Str)) = false := by decide) : PE X (.Name x pos) (tE K α W (kE (.str i))) := by
  obtain ⟨t, h⟩ := h
  exact ev_k (v := .str i) (pe_glob hg h ⟨t, rfl⟩ hd) fun _ _ => .str i
/-! a, b = x, y -/
def deS (x : Rv) : M Rv := fun r => match x with
  | .at (.slot j) => match frz (.at (.slot j)) r with
    | .ok d r1 => .ok (.val d) r1
    | _ => .no
  | _ => .ok x r
def slOf (r : En) : Rv → Option Sl
  | .val d => some (.val d)
  | .own o => some (.own o)
  | .at (.obj k) => match r.os[k]? with
    | some (.live _) => some (.bor k)
    | some (.dead d) => some (.val d)
    | none => none
  | .at (.slot _) => none
def parS (i j : Nat) (g : M (List Rv)) : Stm := fun r => match g r with
  | .ok [x, y] r1 => match deS x r1 with
    | .ok x r2 => match deS y r2 with
      | .ok y r3 => match slOf r3 x, slOf r3 y with
        | some s, some t => .nx (put (put r3 i s) j t)
        | _, _ => .no
      | _ => .no
    | _ => .no
  | .ex e r1 => .ex e r1
  | _ => .no
theorem deS_ok (S : SR K α r σ H F) {x y : Rv} {v : V} (t : TR K α r σ H F x v) (e : deS x r = .ok y r') : ∃ F', SR K α r' σ H F' ∧ TR K α r' σ H F' y v ∧ Step (Own α r σ) H F H F' (Own α r' σ) ∧
    (∀ a, Own α r' σ a → Own α r σ a) ∧ ((∃ o, y = .own o) → x = y) := by
  have same : .ok x r = (.ok y r' : Res Rv) → ∃ F', SR K α r' σ H F' ∧ TR K α r' σ H F' y v ∧ Step (Own α r σ) H F H F' (Own α r' σ) ∧ (∀ a, Own α r' σ a → Own α r σ a) ∧ ((∃ o, y = .own o) → x = y) := fun e => by
    cases e; exact ⟨F, S, t, Step.refl fun _ z => z, fun _ z => z, fun _ => rfl⟩
  cases x with
  | val d => exact same e
  | own o => exact same e
  | «at» l =>
    cases l with
    | obj k => exact same e
    | slot j =>
      have e : (match frz (.at (.slot j)) r with
        | .ok d r1 => (.ok (.val d) r1 : Res Rv)
        | _ => .no) = .ok y r' := e
      split at e
      · rename_i d r1 q
        cases e
        obtain ⟨F', S', fr, st, ow⟩ := frz_ok S t q
        exact ⟨F', S', fr, st.widen (fun a z => z.elim id fun ⟨⟨_, z⟩, _⟩ => nomatch z) fun a z => .inl z, fun a z => ow a z, fun ⟨_, z⟩ => nomatch z⟩
      · cases e
theorem slOf_ok (S : SR K α r σ H F) {x : Rv} {v : V} {s : Sl} (t : TR K α r σ H F x v) (e : slOf r x = some s) : SlR K α H F s v ∧ (∀ o, s = .own o → x = .own o) ∧ (∀ o a, s = .own o → v = .ref a → ¬ F a ∧ ¬ Own α r σ a) := by
  cases x with
  | val d => cases e; exact ⟨t, nofun, nofun⟩
  | own o =>
    cases e
    obtain ⟨a, u, rfl, h1, h2, h3, h4⟩ := t
    exact ⟨⟨a, u, rfl, h1, h2⟩, fun o z => by cases z; rfl, fun o' a' _ z => by cases z; exact ⟨h3, h4⟩⟩
  | «at» l =>
    cases l with
    | slot j => cases e
    | obj k =>
      obtain ⟨a, rfl, ha⟩ := t
      have e : (match r.os[k]? with
        | some (.live _) => some (.bor k)
        | some (.dead d) => some (.val d)
        | none => none) = some s := e
      split at e
      · cases e; exact ⟨⟨a, rfl, ha⟩, nofun, nofun⟩
      · rename_i d q
        cases e
        obtain ⟨a', h1, h2⟩ := S.obj _ _ q
        have ha : α[k]? = some a := ha
        rw [h1] at ha; cases ha
        exact ⟨h2, nofun, nofun⟩
      · cases e
theorem par_ok {g : M (List Rv)} {i j : Nat} {D : Ends} (S : SR K α r σ H F) (h : AftS K α (Own α r σ) H F W (parS i j g r) D) :
    tR K α W g σ H fun vs H1 => ∃ v w, vs = [v, w] ∧ D.nx ((σ.set i (some v)).set j (some w)) H1 := by
  refine ⟨r, F, S, ?_⟩
  unfold parS at h
  cases e : g r with
  | no => rw [e] at h; exact h.elim
  | ex x r1 => rw [e] at h; exact h σ
  | ok xs r1 =>
    rw [e] at h
    intro vs H1 F1 S1 st1 t1
    obtain ⟨all, one⟩ := t1
    match xs, vs, all, h with
    | [x, y], [v, w], .cons tx (.cons ty .nil), h =>
      refine ⟨v, w, rfl, ?_⟩
      cases e1 : deS x r1 with
      | no => simp only [e1] at h; exact h.elim
      | ex z r2 => simp only [e1] at h; exact h.elim
      | ok x' r2 =>
        simp only [e1] at h
        cases e2 : deS y r2 with
        | no => simp only [e2] at h; exact h.elim
        | ex z r3 => simp only [e2] at h; exact h.elim
        | ok y' r3 =>
          simp only [e2] at h
          obtain ⟨F2, S2, tx2, st2, ow2, sx⟩ := deS_ok S1 tx e1
          obtain ⟨F3, S3, ty3, st3, ow3, sy⟩ := deS_ok S2 (ty.step st2 fun a z => z) e2
          have tx3 := tx2.step st3 fun a z => z
          cases e3 : slOf r3 x' with
          | none => simp only [e3] at h; exact h.elim
          | some s =>
            cases e4 : slOf r3 y' with
            | none => simp only [e3, e4] at h; exact h.elim
            | some t =>
              simp only [e3, e4] at h
              obtain ⟨rs, os, ns⟩ := slOf_ok S3 tx3 e3
              obtain ⟨rt, ot, nt⟩ := slOf_ok S3 ty3 e4
              have far : ∀ o o' a, s = .own o → v = .ref a → t = .own o' → w = .ref a → False := fun o o' a z1 z2 z3 z4 => by
                have ex : x = .own o := by rw [sx ⟨o, os o z1⟩]; exact os o z1
                have ey : y = .own o' := by rw [sy ⟨o', ot o' z3⟩]; exact ot o' z3
                have := one 0 1 o o' a (by simp [ex]) (by simp [z2]) (by simp [ey]) (by simp [z4])
                cases this
              have S4 := S3.put (i := i) rs ns
              have S5 := S4.put (i := j) rt fun o a z1 z2 => ⟨(nt o a z1 z2).1, fun z => (put_own z).elim (nt o a z1 z2).2 fun ⟨⟨o', z3⟩, z4⟩ => far o' o a z3 z4 z1 z2⟩
              have wide : ∀ a, Own α r1 σ a → OwnTs α r1 σ [x, y] [v, w] a := fun a z => .inl z
              have st12 := st1.trans (st2.widen wide fun a z => .inr (.inl (ow2 a z))) fun a z => z
              have st13 := st12.trans st3 fun a z => z
              refine h _ H1 F3 S5 ?_
              have fresh : ∀ (q : V) (u : Rv) (k : Nat) (a : Addr), (∃ o, [x, y][k]? = some (.own o)) → [v, w][k]? = some (.ref a) → OwnTs α r1 σ [x, y] [v, w] a := fun q u k a ⟨o, z1⟩ z2 => .inr ⟨k, o, z1, z2⟩
              have low : ∀ a, Own α (put (put r3 i s) j t) ((σ.set i (some v)).set j (some w)) a → OwnTs α r1 σ [x, y] [v, w] a := fun a z => by
                rcases put_own z with z | ⟨⟨o, z1⟩, z2⟩
                · rcases put_own z with z | ⟨⟨o, z1⟩, z2⟩
                  · exact .inl (ow2 a (ow3 a z))
                  · exact .inr ⟨0, o, by rw [sx ⟨o, os o z1⟩, os o z1]; rfl, by rw [z2]; rfl⟩
                · exact .inr ⟨1, o, by rw [sy ⟨o, ot o z1⟩, ot o z1]; rfl, by rw [z2]; rfl⟩
              exact ⟨st13.keep, st13.stay, st13.nfz, fun a z => st1.own a (low a z), st13.dom⟩
theorem sv_par {X : Cx} {i j : Nat} {x y : Str} {a b : Expr} {g : M (List Rv)} {px py pt pos : Pos} {kt k2 pt2} (hc : X.calm = true) (hN : X.N.Nodup) (hi : X.N[i]? = some x) (hj : X.N[j]? = some y) (hij : i ≠ j)
    (hx : X.env.scope.names.lookup x = some .local) (hy : X.env.scope.names.lookup y = some .local) (ha : PA X [a, b] (tR X.K α W g))
    (hw : swappedStores [.Tuple [.Name x px, .Name y py] kt pt] (.Tuple [a, b] k2 pt2) X.env = pure (some [x, y]) := by rfl)
    (hs : swapsWithSole [.Tuple [.Name x px, .Name y py] kt pt] (.Tuple [a, b] k2 pt2) pos.line X.env = pure false := by rfl) :
    PS X (.Assign [.Tuple [.Name x px, .Name y py] kt pt] (.Tuple [a, b] k2 pt2) pos) (tS X.K α W (parS i j g)) := ps_weak (ps_par hc hN hi hj hij hx hy ha hw hs) fun D σ H ⟨r, F, S, h⟩ => par_ok S h
end Mi

/-! Mi17.lean -/
set_option Elab.async false
set_option linter.all false
set_option maxRecDepth 100000
/-! lists repeated; ranges as lists; two sequences side by side; types -/
namespace Mi
open PySem L2 PySem.Spec PyProof.Rows
variable {K : PySem.W.Frag} {α : List Addr} {r r' : En} {σ : L2.St} {H H' : Hp} {F F' : Addr → Prop}
theorem FrAll.repl {v : List V} {d : List PyData} (h : FrAll K H F v d) : ∀ n : Nat, FrAll K H F (List.replicate n v).flatten (List.replicate n d).flatten
  | 0 => .nil
  | n + 1 => by rw [List.replicate_succ, List.replicate_succ, List.flatten_cons, List.flatten_cons]; exact h.app (h.repl n)
def repE (f g : M Rv) : M Rv := M.bnd f fun x => M.bnd g fun y r => match x, peek r y with
  | .own (.lst ds), some (.int k) => if (-(2 ^ 63) ≤ k ∧ k < 2 ^ 63) ∧ ds.length * k.toNat ≤ sizeLine then .ok (.own (.lst (List.replicate k.toNat ds).flatten)) r else .no
  | _, _ => .no
theorem rep_ok {f g : M Rv} {Q : VK} (h : tE K α W (repE f g) σ H Q) : tOp rRep (tE K α W f) (tE K α W g) σ H Q := by
  obtain ⟨r, F, S, h⟩ := h
  refine tE_mono (tE_bnd S h) fun x H1 ⟨r1, F1, x1, S1, st1, t1, h1⟩ => ?_
  refine tE_mono (tE_bnd S1 h1) fun y H2 ⟨r2, F2, x2, S2, st2, t2, h2⟩ => ?_
  have t1' := t1.step st2 fun a z => .inl z
  split at h2
  · rename_i ds k q _
    split at h2
    · rename_i c
      obtain ⟨a, u, rfl, hH, ⟨xs, rfl, fr⟩, _, _⟩ := t1'
      exact ⟨a, k, xs, rfl, (peek_rel S2 t2 q).int, hH, c.1.1, c.1.2, by rw [fr.len]; exact c.2, fun p hp => (Aft.fin S2 h2).new _ _ p rfl hp (fr.repl _)⟩
    · exact h2.elim
  · exact h2.elim
theorem ev_rep {X : Cx} {a b : Expr} {pos : Pos} {f g : M Rv} (ha : PE X a (tE K α W f)) (hb : PE X b (tE K α W g)) : PE X (.BinOp a .Mult b pos) (tE K α W (repE f g)) := pe_weak (pe_op op_rep ha hb) fun _ _ _ q => rep_ok q
/-! list(range(n)) -/
def rgD (a b : Int) : List PyData := (List.range (b - a).toNat).map fun i => PyData.int (a + (i : Nat))
theorem rgD_fr (a b : Int) : FrAll K H F (rgV a b) (rgD a b) := by
  unfold rgV rgD
  induction List.range (b - a).toNat with
  | nil => exact .nil
  | cons x xs ih => exact .cons (.int _) ih
def lrgE (f : M Rv) : M Rv := M.bnd f fun x r => match peek r x with
  | some (.int j) => if 0 ≤ j ∧ j ≤ 16777216 then .ok (.own (.lst (rgD 0 j))) r else .no
  | _ => .no
theorem lrg_ok {f : M Rv} {Q : VK} (h : tE K α W (lrgE f) σ H Q) : tLstRg (tRg1 (tE K α W f)) σ H Q := by
  obtain ⟨r, F, S, h⟩ := h
  refine tE_mono (tE_bnd S h) fun x H1 ⟨r1, F1, x1, S1, st1, t1, h1⟩ => ?_
  split at h1
  · rename_i j q
    split at h1
    · rename_i c
      exact ⟨j, (peek_rel S1 t1 q).int, RgOk.of_le (Int.le_refl 0) c.2 (by decide) c.1, fun p hp => (Aft.fin S1 h1).new _ _ p rfl hp (rgD_fr 0 j)⟩
    · exact h1.elim
  · exact h1.elim
theorem ev_lrg {X : Cx} {a : Expr} {p p2 pos pos2 : Pos} {f : M Rv} (hc : X.calm = true) (hg : Gl X "list") (hm : X.mg "list" = none) (hg2 : Gl X "range") (hm2 : X.mg "range" = none) (ha : PE X a (tE K α W f)) (na : starEach [a] X.env = (false, eval a X.env) :: starEach [] X.env := by rfl)
    (na2 : starEach [Expr.Call (.Name "range" p2) [a] [] pos2] X.env = (false, eval (Expr.Call (.Name "range" p2) [a] [] pos2) X.env) :: starEach [] X.env := by rfl) :
    PE X (.Call (.Name "list" p) [.Call (.Name "range" p2) [a] [] pos2] [] pos) (tE K α W (lrgE f)) := pe_weak (pe_listRg hc hg hm (prg_1 hg2 hm2 ha na) na2) fun _ _ _ q => lrg_ok q
/-! zip(xs, ys) -/
def zipNth (x y : Rv) (r : En) (i : Nat) : Option (Option PyData) := match peek r x, peek r y with
  | some (.list ds), some (.list es) => some (match ds[i]?, es[i]? with
    | some d, some e => some (.tuple [d, e])
    | _, _ => none)
  | _, _ => none
def zipTh (x y : Rv) (r : En) (i : Nat) : Option (Option PyData) := match peek r x, peek r y with
  | some (.tuple ds), some (.tuple es) => some (match ds[i]?, es[i]? with
    | some d, some e => some (.tuple [d, e])
    | _, _ => none)
  | _, _ => none
def zipI (f g : M Rv) : M Src := M.bnd f fun x => M.bnd (hold x) fun x => M.bnd g fun y => M.bnd (hold y) fun y r => match peek r x, peek r y with
  | some (.list ds), some (.list es) => .ok ⟨zipNth x y, min ds.length es.length⟩ r
  | some (.tuple ds), some (.tuple es) => .ok ⟨zipTh x y, min ds.length es.length⟩ r
  | _, _ => .no
theorem src_zip {x y : Rv} {a b : Addr} {n : Nat} : SrcOk K α ⟨zipNth x y, n⟩ (Itz K a b) (fun H F => HV K α x (.ref a) H F ∧ HV K α y (.ref b) H F) where
  stay := fun _ _ _ _ h s => ⟨h.1.stay s, h.2.stay s⟩
  turn := fun r σ H F i o S h e => by
    have e : zipNth x y r i = some o := e
    unfold zipNth at e
    split at e
    · rename_i ds es q1 q2
      injection e with e
      subst e
      obtain ⟨a', xs, e1, h1, h2⟩ := (peek_rel S (h.1.tr r σ) q1).list
      cases e1
      obtain ⟨b', ys, e1, h3, h4⟩ := (peek_rel S (h.2.tr r σ) q2).list
      cases e1
      cases g : ds[i]? with
      | none => exact ⟨xs, ys, h1, h3, .inl (by rw [h2.len]; exact get_none g)⟩
      | some d =>
        cases g2 : es[i]? with
        | none => exact ⟨xs, ys, h1, h3, .inr (by rw [h4.len]; exact get_none g2)⟩
        | some e =>
          obtain ⟨u, gu, fu⟩ := h2.get g
          obtain ⟨w, gw, fw⟩ := h4.get g2
          refine ⟨⟨xs, ys, u, w, h1, h3, gu, gw⟩, fun z H' ⟨T, u', w', e1, e2, e3, e4, e5⟩ => .inr ⟨T, _, [d, e], e2, e3, e1, rfl, .cons ?_ (.cons ?_ .nil)⟩⟩
          · have := e4 xs h1; rw [gu] at this; cases this; exact fu
          · have := e5 ys h3; rw [gw] at this; cases this; exact fw
    · cases e
theorem src_zipT {x y : Rv} {a b : Addr} {n : Nat} : SrcOk K α ⟨zipTh x y, n⟩ (RZ.ItzT K a b) (fun H F => HV K α x (.ref a) H F ∧ HV K α y (.ref b) H F) where
  stay := fun _ _ _ _ h s => ⟨h.1.stay s, h.2.stay s⟩
  turn := fun r σ H F i o S h e => by
    have e : zipTh x y r i = some o := e
    unfold zipTh at e
    split at e
    · rename_i ds es q1 q2
      injection e with e
      subst e
      obtain ⟨a', xs, e1, h1, h2⟩ := (peek_rel S (h.1.tr r σ) q1).tup
      cases e1
      obtain ⟨b', ys, e1, h3, h4⟩ := (peek_rel S (h.2.tr r σ) q2).tup
      cases e1
      cases g : ds[i]? with
      | none => exact ⟨xs, ys, h1, h3, .inl (by rw [h2.len]; exact get_none g)⟩
      | some d =>
        cases g2 : es[i]? with
        | none => exact ⟨xs, ys, h1, h3, .inr (by rw [h4.len]; exact get_none g2)⟩
        | some e =>
          obtain ⟨u, gu, fu⟩ := h2.get g
          obtain ⟨w, gw, fw⟩ := h4.get g2
          refine ⟨⟨xs, ys, u, w, h1, h3, gu, gw⟩, fun z H' ⟨T, u', w', e1, e2, e3, e4, e5⟩ => .inr ⟨T, _, [d, e], e2, e3, e1, rfl, .cons ?_ (.cons ?_ .nil)⟩⟩
          · have := e4 xs h1; rw [gu] at this; cases this; exact fu
          · have := e5 ys h3; rw [gw] at this; cases this; exact fw
    · cases e
theorem tE_hold {f : M Rv} {g : Rv → M Src} {R : It → Hp → Prop} (S : SR K α r σ H F) (h : AftI K α σ (Own α r σ) H F W (M.bnd f (fun x => M.bnd (hold x) g) r) R) :
    tE K α W f σ H fun v H1 => ∃ r1 F1 x, SR K α r1 σ H1 F1 ∧ Stay H F H1 F1 ∧ HV K α x v H1 F1 ∧ AftI K α σ (Own α r1 σ) H1 F1 W (g x r1) R := by
  refine ⟨r, F, S, ?_⟩
  unfold M.bnd at h
  cases e : f r with
  | no => simp only [e] at h; exact h.elim
  | ex z r1 => simp only [e] at h; exact h
  | ok x r1 =>
    simp only [e] at h
    cases e2 : hold x r1 with
    | no => simp only [e2] at h; exact h.elim
    | ex z r2 => exact absurd e2 hold_ex
    | ok y r2 =>
      simp only [e2] at h
      intro v H1 F1 S1 st t
      obtain ⟨F2, S2, hv, st2⟩ := hold_ok S1 t e2
      have tot := st.trans st2 fun _ z => z
      refine ⟨r2, F2, y, S2, tot.stay, hv, ?_⟩
      cases e3 : g y r2 with
      | no => rw [e3] at h; exact h
      | ex z r3 => rw [e3] at h; exact AftX.step h tot fun _ z => z
      | ok s r3 => rw [e3] at h; exact fun J V H' F' S' st' => h J V H' F' S' (tot.trans st' fun _ z => z)
theorem zip_ok {f g : M Rv} {R : It → Hp → Prop} (h : tI K α W (zipI f g) σ H R) : RZ.iZipA K (tCons (tE K α W f) (tCons (tE K α W g) tNil)) σ H R := by
  obtain ⟨r, F, S, h⟩ := h
  refine tE_mono (tE_hold S h) fun v H1 ⟨r1, F1, x, S1, _, hx, h1⟩ => tE_mono (tE_hold S1 h1) fun w H2 ⟨r2, F2, y, S2, sy, hy, h2⟩ => ?_
  have hx := hx.stay sy
  split at h2
  · rename_i ds es q1 q2
    obtain ⟨a, xs, rfl, e1, _⟩ := (peek_rel S2 (hx.tr r2 σ) q1).list
    obtain ⟨b, ys, rfl, e2, _⟩ := (peek_rel S2 (hy.tr r2 σ) q2).list
    exact ⟨a, b, xs, ys, rfl, .inl ⟨e1, e2, h2 _ _ H2 F2 S2 (Step.refl fun _ z => z) src_zip ⟨hx, hy⟩⟩⟩
  · rename_i ds es q1 q2
    obtain ⟨a, xs, rfl, e1, _⟩ := (peek_rel S2 (hx.tr r2 σ) q1).tup
    obtain ⟨b, ys, rfl, e2, _⟩ := (peek_rel S2 (hy.tr r2 σ) q2).tup
    exact ⟨a, b, xs, ys, rfl, .inr ⟨e1, e2, h2 _ _ H2 F2 S2 (Step.refl fun _ z => z) src_zipT ⟨hx, hy⟩⟩⟩
  · exact h2.elim
theorem iv_zip {X : Cx} {a b : Expr} {f g : M Rv} {p pos tpos : Pos} {elts : List Expr} {kk : Nat} (hg : Gl X "zip") (hm : X.mg "zip" = none) (ha : PE X a (tE X.K α W f)) (hb : PE X b (tE X.K α W g))
    (hs : starEach [a, b] X.env = (false, eval a X.env) :: starEach [b] X.env := by rfl) (hs2 : starEach [b] X.env = (false, eval b X.env) :: starEach [] X.env := by rfl) (hpl : (backTo pos (starEach [b] X.env)).any (·.1) = false := by rfl) :
    PI X (.Tuple elts kk tpos) (.Call (.Name "zip" p) [a, b] [] pos) (tI X.K α W (zipI f g)) := pi_weak (RZ.pi_zipA hg hm (pa_cons ha (pa_cons hb pa_nil hs2) hs) hs hpl) fun _ _ _ q => zip_ok q
end Mi

/-! Mi18.lean -/
set_option Elab.async false
set_option linter.all false
set_option maxRecDepth 100000
/-! the types of data -/
namespace Mi
open PySem L2 PySem.Spec PyProof.Rows
variable {K : PySem.W.Frag} {α : List Addr} {r r' : En} {σ : L2.St} {H H' : Hp} {F F' : Addr → Prop}
/-- a value that has the built-in type n -/
inductive TyD (K : PySem.W.Frag) (H : Hp) : V → String → Prop where
  | non : TyD K H .non "NoneType"
  | bl (b) : TyD K H (.bl b) "bool"
  | int (i) : TyD K H (.int i) "int"
  | str (x) : TyD K H (.str x) "str"
  | lst {a : Addr} {xs : List V} : Rd H a (.lst xs) → TyD K H (.ref a) "list"
  | tup {a : Addr} {xs : List V} : Rd H a (.tup xs) → TyD K H (.ref a) "tuple"
  | klst {a : Addr} {o : Obj} : K.lookup a = some o → o.cls = .type "list" → TyD K H (.ref a) "list"
  | ktup {a : Addr} {o : Obj} : K.lookup a = some o → o.cls = .type "tuple" → TyD K H (.ref a) "tuple"
def tyN : PyData → Option String
  | .none => some "NoneType"
  | .bool _ => some "bool"
  | .int _ => some "int"
  | .str _ => some "str"
  | .list _ => some "list"
  | .tuple _ => some "tuple"
  | _ => none
theorem SqL.ty {a : Addr} {xs : List V} (h : SqL K H a xs) : TyD K H (.ref a) "list" := h.elim .lst fun ⟨_, _, _, h1, h2, _⟩ => .klst h1 h2
theorem SqT.ty {a : Addr} {xs : List V} (h : SqT K H a xs) : TyD K H (.ref a) "tuple" := h.elim .tup fun ⟨_, _, _, h1, h2, _⟩ => .ktup h1 h2
theorem Pk.ty {v : V} {d : PyData} {n : String} (h : Pk K H F v d) (e : tyN d = some n) : TyD K H v n := by
  cases d with
  | none => cases e; rw [h.non]; exact .non
  | bool b => cases e; rw [h.bl]; exact .bl b
  | int b => cases e; rw [h.int]; exact .int b
  | str b => cases e; rw [h.str]; exact .str b
  | list ds => cases e; obtain ⟨a, xs, rfl, h1, _⟩ := h.list; exact SqL.ty h1
  | tuple ds => cases e; obtain ⟨a, xs, rfl, h1, _⟩ := h.tup; exact SqT.ty h1
  | _ => cases e
section
variable {X : Cx} {pins : List (Addr × Obj)} {s : Shared}
theorem TyD.is {v : V} {u : Value} {n : String} (I : Inv X pins σ H s) (rx : RelV v u) (t : TyD X.K H v n) : s.TypeIs u n ∧ (Value.type n == Value.type "builtin_function_or_method") = false := by
  cases t with
  | non => cases (show u = Value.none from rx); exact ⟨rfl, by decide +kernel⟩
  | bl b => cases (show u = Value.bool b from rx); exact ⟨rfl, by decide +kernel⟩
  | int i => obtain ⟨t, rfl⟩ := (show ∃ t, u = Value.int i t from rx); exact ⟨rfl, by decide +kernel⟩
  | str i => obtain ⟨t, rfl⟩ := (show ∃ t, u = Value.str i t from rx); exact ⟨rfl, by decide +kernel⟩
  | @lst a xs h =>
    cases (show u = Value.ref a from rx)
    obtain ⟨_, _, n, _, h1⟩ := (show ObjOk X.prog X.w H s.heap a (.lst xs) from h.ok I.hok)
    exact ⟨⟨_, h1, rfl⟩, by decide +kernel⟩
  | @tup a xs h =>
    cases (show u = Value.ref a from rx)
    obtain ⟨_, _, _, o, h1, h2, _⟩ := (show ObjOk X.prog X.w H s.heap a (.tup xs) from h.ok I.hok)
    exact ⟨⟨o, h1, h2⟩, by decide +kernel⟩
  | @klst a o h c => cases (show u = Value.ref a from rx); exact ⟨⟨o, I.kIn a o h, c⟩, by decide +kernel⟩
  | @ktup a o h c => cases (show u = Value.ref a from rx); exact ⟨⟨o, I.kIn a o h, c⟩, by decide +kernel⟩
def rTyD (K : PySem.W.Frag) : List V → Hp → VK → Prop := fun xs H Q => ∃ x n, xs = [x] ∧ TyD K H x n ∧ Q (.ty n) H
theorem call_tyD : CallR X (.type "type") (rTyD X.K) := by
  intro pins s σ H xs us Q I r h
  obtain ⟨x, n, rfl, t, q⟩ := h
  cases r with
  | cons r rr =>
    cases rr
    obtain ⟨h1, h2⟩ := t.is I r
    exact call_type_of h1 h2 ⟨.ty n, H, I, rfl, q⟩
def MetaOk (n : String) : Prop := ∀ s' : Shared, s'.TypeIs (.type n) "type"
theorem meta_of {v : V} {n : String} (t : TyD K H v n) : MetaOk n := by
  cases t with
  | non => exact PySem.TypeEq.meta_NoneType
  | bl _ => exact PySem.TypeEq.meta_bool
  | int _ => exact PySem.TypeEq.meta_int
  | str _ => exact PySem.TypeEq.meta_str
  | lst _ => exact PySem.TypeEq.meta_list
  | tup _ => exact PySem.TypeEq.meta_tuple
  | klst _ _ => exact PySem.TypeEq.meta_list
  | ktup _ _ => exact PySem.TypeEq.meta_tuple
theorem op_eqTyD : OpR X (compareOp .Eq) (fun x y H Q => ∃ m n, x = .ty m ∧ y = .ty n ∧ MetaOk m ∧ MetaOk n ∧ Q (.bl (decide (m = n))) H) := by
  intro pins s σ H x y v u Q I rx ry h
  obtain ⟨m, n, rfl, rfl, hm, hn, q⟩ := h
  cases (show v = Value.type m from rx)
  cases (show u = Value.type n from ry)
  by_cases e : m = n
  · subst e
    exact PySem.TypeEq.eq_type_same hm ⟨.bl true, H, I, rfl, by simpa using q⟩
  · exact PySem.TypeEq.eq_type_other hm hn (by rw [Bool.eq_false_iff]; intro z; rw [beq_iff_eq] at z; cases z; exact e rfl) ⟨.bl false, H, I, rfl, by simpa [e] using q⟩
end
def gTyEq (n : String) (d : PyData) : Option Rv := (tyN d).map fun m => .val (.bool (decide (m = n)))
theorem ty_ok {n : String} (hn : MetaOk n) {f : M Rv} {Q : VK} (h : tE K α W (unE (gTyEq n) f) σ H Q) :
    tOp (fun x y H Q => ∃ m n, x = .ty m ∧ y = .ty n ∧ MetaOk m ∧ MetaOk n ∧ Q (.bl (decide (m = n))) H) (tCB (rTyD K) (tCons (tE K α W f) tNil)) (tC (.ty n)) σ H Q := by
  obtain ⟨r, F, S, h⟩ := h
  refine tE_mono (tE_bnd S h) fun x H1 ⟨r1, F1, x1, S1, st1, t1, h1⟩ => ?_
  unfold op1 at h1
  cases e1 : peek r1 x1 with
  | none => simp only [e1] at h1; exact h1.elim
  | some d =>
    simp only [e1] at h1
    unfold gTyEq at h1
    cases e3 : tyN d with
    | none => rw [e3] at h1; exact h1.elim
    | some m =>
      rw [e3] at h1
      have t := (peek_rel S1 t1 e1).ty e3
      exact ⟨x, m, rfl, t, m, n, rfl, rfl, meta_of t, hn, (Aft.fin S1 h1).val _ _ rfl (.bl _)⟩
theorem ev_tyEq {X : Cx} {a : Expr} {p q q2 pos : Pos} {x : Str} {n : String} {f : M Rv} (hn : MetaOk n) (hg : Gl X "type") (hm : X.mg "type" = none) (hg2 : Gl X x) (hm2 : X.mg x = none) (hv : bootBuiltins x = some (.type n)) (ha : PE X a (tE X.K α W f))
    (h1 : x ≠ "__name__" := by decide) (h2 : (x == ("__debug__" : Str)) = false := by decide) (he : starEach [a] X.env = (false, eval a X.env) :: starEach [] X.env := by rfl) :
    PE X (.Compare (.Call (.Name "type" p) [a] [] q) [.Eq] [.Name x q2] pos) (tE X.K α W (unE (gTyEq n) f)) :=
  pe_weak (pe_cmpR op_eqTyD (pe_callTy call_tyD hg hm (by decide +kernel) (pa_cons ha pa_nil he) (he := he)) (pe_bltn (v := .ty n) hg2 hm2 hv rfl h1 h2) (nomark _)) fun _ _ _ q => ty_ok hn q
/-! isinstance(x, T) -/
theorem TyD.x {v : V} {n : String} (t : TyD K H v n) : TyX K H v (.type n) := by
  cases t with
  | non => exact .base .non
  | bl b => exact .base (.bl b)
  | int b => exact .base (.int b)
  | str b => exact .base (.str b)
  | lst h => exact h.elim (fun h => .base (.lst h)) fun ⟨o, h⟩ => .base (.frz h)
  | tup h => exact h.elim (fun h => .base (.tup h)) fun ⟨o, h⟩ => .fTuple h
  | klst h c => exact .kList h c
  | ktup h c => exact .kTuple h c
def isN (m n : String) : Bool := decide (m = n) || (decide (m = "bool") && decide (n = "int"))
def IsiOk (K : PySem.W.Frag) (n : String) : Prop := ∀ m, m ∈ ["NoneType", "bool", "int", "str", "list", "tuple"] → PySem.W.kitOne K (.type m) (.type n) = some (isN m n)
theorem isi_str : IsiOk K "str" := fun m h => by
  simp only [List.mem_cons, List.not_mem_nil, or_false] at h
  rcases h with rfl | rfl | rfl | rfl | rfl | rfl <;> rfl
theorem isi_int : IsiOk K "int" := fun m h => by
  simp only [List.mem_cons, List.not_mem_nil, or_false] at h
  rcases h with rfl | rfl | rfl | rfl | rfl | rfl <;> rfl
theorem isi_bool : IsiOk K "bool" := fun m h => by
  simp only [List.mem_cons, List.not_mem_nil, or_false] at h
  rcases h with rfl | rfl | rfl | rfl | rfl | rfl <;> rfl
def gIsi (n : String) (d : PyData) : Option Rv := (tyN d).map fun m => .val (.bool (isN m n))
theorem tyN_mem {d : PyData} {m : String} (e : tyN d = some m) : m ∈ ["NoneType", "bool", "int", "str", "list", "tuple"] := by
  cases d <;> cases e <;> simp
theorem isi_ok {n : String} (hn : IsiOk K n) {f : M Rv} {Q : VK} (h : tE K α W (unE (gIsi n) f) σ H Q) : tCB (rIsi K) (tCons (tE K α W f) (tCons (tC (.ty n)) tNil)) σ H Q := by
  obtain ⟨r, F, S, h⟩ := h
  refine tE_mono (tE_bnd S h) fun x H1 ⟨r1, F1, x1, S1, st1, t1, h1⟩ => ?_
  unfold op1 at h1
  cases e1 : peek r1 x1 with
  | none => simp only [e1] at h1; exact h1.elim
  | some d =>
    simp only [e1] at h1
    unfold gIsi at h1
    cases e3 : tyN d with
    | none => rw [e3] at h1; exact h1.elim
    | some m =>
      rw [e3] at h1
      exact ⟨x, .ty n, .type m, .type n, isN m n, rfl, .ty n, ((peek_rel S1 t1 e1).ty e3).x, hn m (tyN_mem e3), (Aft.fin S1 h1).val _ _ rfl (.bl _)⟩
theorem ev_isi {X : Cx} {a : Expr} {p q2 pos : Pos} {x : Str} {n : String} {f : M Rv} (hn : IsiOk X.K n) (hg : Gl X "isinstance") (hm : X.mg "isinstance" = none) (hg2 : Gl X x) (hm2 : X.mg x = none) (hv : bootBuiltins x = some (.type n)) (ha : PE X a (tE X.K α W f))
    (h1 : x ≠ "__name__" := by decide) (h2 : (x == ("__debug__" : Str)) = false := by decide) (he : starEach [a, Expr.Name x q2] X.env = (false, eval a X.env) :: starEach [Expr.Name x q2] X.env := by rfl) (he2 : starEach [Expr.Name x q2] X.env = (false, eval (Expr.Name x q2) X.env) :: starEach [] X.env := by rfl)
    (hpl : (backTo pos (starEach [Expr.Name x q2] X.env)).any (·.1) = false := by rfl) : PE X (.Call (.Name "isinstance" p) [a, .Name x q2] [] pos) (tE X.K α W (unE (gIsi n) f)) :=
  pe_weak (pe_callB call_isi hg hm (by decide +kernel) (pa_cons ha (pa_cons (pe_bltn (v := .ty n) hg2 hm2 hv rfl h1 h2) pa_nil he2) he) (he := he) (hpl := hpl)) fun _ _ _ q => isi_ok hn q
end Mi

/-! Mi19.lean -/
set_option Elab.async false
set_option linter.all false
set_option maxRecDepth 100000
/-! dicts -/
namespace Mi
open PySem L2 PySem.Spec PyProof.Rows
variable {K : PySem.W.Frag} {α : List Addr} {r r' : En} {σ : L2.St} {H H' : Hp} {F F' : Addr → Prop}
abbrev DRel (K : PySem.W.Frag) (H : Hp) (F : Addr → Prop) : List (Key × V) → List (Key × PyData) → Prop := Paired fun (p : Key × V) (q : Key × PyData) => p.1 = q.1 ∧ Fr K H F p.2 q.2
def keyOf : PyData → Option Key
  | .int i => some (.inl i)
  | .str x => some (.inr x)
  | _ => none
def valD (kvs : List (Key × PyData)) (k : Key) : Option PyData := (kvs.find? fun kv => decide (kv.1 = k)).map (·.2)
def putD (kvs : List (Key × PyData)) (k : Key) (v : PyData) : List (Key × PyData) :=
  if (kvs.any fun kv => decide (kv.1 = k)) = true then kvs.map (fun kv => if kv.1 = k then (kv.1, v) else kv) else kvs ++ [(k, v)]
theorem Pk.key {v : V} {d : PyData} {k : Key} (h : Pk K H F v d) (e : keyOf d = some k) : v = kV k := by
  cases d with
  | int i => cases e; exact h.int
  | str i => cases e; exact h.str
  | _ => cases e
theorem DRel.val {ps : List (Key × V)} {kvs : List (Key × PyData)} (h : DRel K H F ps kvs) (k : Key) : match valD kvs k with
    | some d => ∃ v, valV ps k = some v ∧ Fr K H F v d
    | none => valV ps k = none := by
  induction h with
  | nil => rfl
  | @cons p q ps qs h t ih =>
    by_cases e : q.1 = k
    · have e1 : valD (q :: qs) k = some q.2 := by simp [valD, List.find?_cons, e]
      rw [e1]
      exact ⟨p.2, valV_pos (h.1.trans e), h.2⟩
    · have e1 : valD (q :: qs) k = valD qs k := by simp [valD, List.find?_cons, e]
      have e2 : valV (p :: ps) k = valV ps k := valV_neg fun z => e (h.1.symm.trans z)
      rw [e1, e2]; exact ih
theorem DRel.any {ps : List (Key × V)} {kvs : List (Key × PyData)} (h : DRel K H F ps kvs) (k : Key) : (ps.any fun kv => decide (kv.1 = k)) = kvs.any fun kv => decide (kv.1 = k) := by
  induction h with
  | nil => rfl
  | cons h t ih => simp only [List.any_cons, ih, h.1]
theorem DRel.mapP {ps : List (Key × V)} {kvs : List (Key × PyData)} (h : DRel K H F ps kvs) (k : Key) {v : V} {d : PyData} (hv : Fr K H F v d) : DRel K H F (ps.map fun kv => if kv.1 = k then (kv.1, v) else kv) (kvs.map fun kv => if kv.1 = k then (kv.1, d) else kv) := by
  induction h with
  | nil => exact .nil
  | @cons p q ps qs h t ih =>
    refine .cons ?_ ih
    show (if p.1 = k then (p.1, v) else p).1 = (if q.1 = k then (q.1, d) else q).1 ∧ Fr K H F (if p.1 = k then (p.1, v) else p).2 (if q.1 = k then (q.1, d) else q).2
    by_cases e : q.1 = k
    · rw [if_pos e, if_pos (h.1.trans e)]; exact ⟨h.1, hv⟩
    · rw [if_neg e, if_neg fun z => e (h.1.symm.trans z)]; exact h
theorem DRel.app {ps qs : List (Key × V)} {kvs lvs : List (Key × PyData)} (h : DRel K H F ps kvs) (h2 : DRel K H F qs lvs) : DRel K H F (ps ++ qs) (kvs ++ lvs) := by
  induction h with
  | nil => exact h2
  | cons h t ih => exact .cons h ih
theorem DRel.put {ps : List (Key × V)} {kvs : List (Key × PyData)} (h : DRel K H F ps kvs) (k : Key) {v : V} {d : PyData} (hv : Fr K H F v d) : DRel K H F (putK ps k v) (putD kvs k d) := by
  unfold putK putD
  rw [h.any k]
  split
  · exact h.mapP k hv
  · exact h.app (.cons ⟨rfl, hv⟩ .nil)
theorem DRel.len {ps : List (Key × V)} {kvs : List (Key × PyData)} (h : DRel K H F ps kvs) : ps.length = kvs.length := by
  induction h with
  | nil => rfl
  | cons h t ih => simp [ih]
/-- the dict that stands there -/
def dctOf (r : En) : Rv → Option (List (Key × PyData))
  | .at l => match look r l with
    | some (.live (.dct kvs)) => some kvs
    | some (.live (.fdc kvs)) => some kvs
    | _ => none
  | _ => none
theorem dct_rel (S : SR K α r σ H F) {x : Rv} {v : V} {kvs : List (Key × PyData)} (t : TR K α r σ H F x v) (e : dctOf r x = some kvs) : ∃ a ps, v = .ref a ∧ Rd H a (.dK ps) ∧ DRel K H F ps kvs := by
  cases x with
  | val d => cases e
  | own d => cases e
  | «at» l =>
    unfold dctOf at e
    simp only at e
    split at e
    · rename_i q
      cases e
      obtain ⟨a, u, e1, h1, ps, rfl, h2⟩ := content_rel S t q
      exact ⟨a, ps, e1, .inl h1, h2⟩
    · rename_i q
      cases e
      obtain ⟨a, u, e1, h1, o, ps, rfl, h2⟩ := content_rel S t q
      exact ⟨a, ps, e1, .inr ⟨o, h1⟩, h2⟩
    · cases e
/-! {} -/
def dnewE : M Rv := fun r => .ok (.own (.dct [])) r
theorem ev_dnew {X : Cx} {pos : Pos} : PE X (.Dict [] [] pos) (tE K α W dnewE) := pe_weak pe_dnewK fun _ _ _ ⟨r, F, S, h⟩ p hp => (Aft.fin S h).dct p rfl hp
/-! d.get(k) -/
def dgE (f g : M Rv) : M Rv := M.bnd f fun x r1 => match dctOf r1 x with
  | none => .no
  | some _ => (M.bnd g fun y r2 => match dctOf r2 x, (peek r2 y).bind keyOf with
    | some kvs, some k => .ok (.val ((valD kvs k).getD .none)) r2
    | _, _ => .no) r1
theorem dg_ok {f g : M Rv} {Q : VK} (h : tE K α W (dgE f g) σ H Q) : tDGet1 (tE K α W f) (tE K α W g) σ H Q := by
  obtain ⟨r, F, S, h⟩ := h
  refine tE_mono (tE_bnd S h) fun x H1 ⟨r1, F1, x1, S1, st1, t1, h1⟩ => ?_
  cases e1 : dctOf r1 x1 with
  | none => simp only [e1] at h1; exact h1.elim
  | some kvs =>
    simp only [e1] at h1
    obtain ⟨a, ps, rfl, rd, _⟩ := dct_rel S1 t1 e1
    refine ⟨a, rfl, .inl ⟨ps, rd⟩, tE_mono (tE_bnd S1 h1) fun y H2 ⟨r2, F2, x2, S2, st2, t2, h2⟩ => ?_⟩
    have t1' := t1.step st2 fun a z => .inl z
    split at h2
    · rename_i kvs' k q1 q2
      obtain ⟨a', ps', e2, rd', dr⟩ := dct_rel S2 t1' q1
      cases e2
      cases ep : peek r2 x2 with
      | none => rw [ep] at q2; cases q2
      | some d =>
        rw [ep] at q2
        have ek := (peek_rel S2 t2 ep).key q2
        refine ⟨valV ps' k, .inl ⟨ps', k, rd', ek, rfl⟩, (Aft.fin S2 h2).val _ _ rfl ?_⟩
        have := dr.val k
        cases ev : valD kvs' k with
        | none => rw [ev] at this; rw [this]; exact .non
        | some d => rw [ev] at this; obtain ⟨v, e3, fv⟩ := this; rw [e3]; exact fv
    · exact h2.elim
theorem ev_dg {X : Cx} {o e : Expr} {apos cpos : Pos} {f g : M Rv} (hu : X.A.units + 1 < cLine) (ho : PE X o (tE K α W f)) (he : PE X e (tE K α W g)) (m : M1 X o "get" apos e cpos := by exact ⟨by rfl, by rfl, by rfl, by rfl⟩) :
    PE X (.Call (.Attribute o "get" apos) [e] [] cpos) (tE K α W (dgE f g)) := pe_weak (pe_dget1 hu ho he m) fun _ _ _ q => dg_ok q
/-! d[k] = v -/
def dstF (d : PyData) (o i : Rv) (r : En) : Out := match o with
  | .at l => match look r l, (peek r i).bind keyOf with
    | some (.live (.dct kvs)), some k => if kvs.length < sizeLine then .nx (setLo r l (.live (.dct (putD kvs k d)))) else .no
    | _, _ => .no
  | _ => .no
def dstS (f : M Rv) (j : Nat) (g : M Rv) : Stm := ofM f fun x => ofM (frz x) fun d => ofM (nmE j) fun o => ofM g fun i => dstF d o i
theorem dstF_ok {d : PyData} {o i : Rv} {v vo vi : V} {D : Ends} {O : Addr → Prop} (S : SR K α r σ H F) (fv : Fr K H F v d) (t1 : TR K α r σ H F o vo) (t2 : TR K α r σ H F i vi) (ho : ∀ a, Own α r σ a → O a) (h : AftS K α O H F W (dstF d o i r) D) :
    rSetD vo vi v H fun H3 => D.nx σ H3 := by
  cases o with
  | val d => exact h.elim
  | own o => exact h.elim
  | «at» l =>
    unfold dstF at h
    simp only at h
    split at h
    · rename_i kvs k q1 q2
      split at h
      · rename_i hl
        obtain ⟨a, rfl, ha⟩ := t1
        obtain ⟨a', u, e1, h1, ps, rfl, h2⟩ := content_rel S (x := .at l) (b := .live (.dct kvs)) ⟨a, rfl, ha⟩ q1
        cases e1
        have h2 : DRel K H F ps kvs := h2
        cases ep : peek r i with
        | none => rw [ep] at q2; cases q2
        | some di =>
          rw [ep] at q2
          have ek := (peek_rel S t2 ep).key q2
          obtain ⟨S', st, ow⟩ := S.write q1 ha (o' := .dct (putD kvs k d)) (u' := .dK (putK ps k v)) ⟨_, rfl, h2.put k fv⟩
          exact ⟨a, _, rfl, .inl ⟨ps, k, h1, ek, by rw [h2.len]; exact hl, rfl⟩, h σ _ F S' (st.widen ho fun z q => .inl q)⟩
      · exact h.elim
    · exact h.elim
theorem dst_ok {f : M Rv} {j : Nat} {g : M Rv} {D : Ends} (h : tS K α W (dstS f j g) D σ H) : tAsg (tE K α W f) (gSub (tE K α W (nmE j)) (tE K α W g) rSetD) D σ H := by
  obtain ⟨r, F, S, h⟩ := h
  refine tE_mono (ofM_E S h) fun v H1 ⟨r1, F1, x, S1, st1, t1, h1⟩ => ?_
  unfold ofM at h1
  cases ez : frz x r1 with
  | no => simp only [ez] at h1; exact h1.elim
  | ex w r5 => exact absurd ez frz_ex
  | ok d r2 =>
    simp only [ez] at h1
    obtain ⟨F2, S2, fv, st2, _⟩ := frz_ok S1 t1 ez
    have h2 : AftS K α (Own α r2 σ) H1 F2 W (ofM (nmE j) (fun o => ofM g fun i => dstF d o i) r2) D := AftS.step h1 st2 fun _ z => z
    refine tE_mono (ofM_E S2 h2) fun vo H3 ⟨r3, F3, o, S3, st3, t3, h3⟩ => ?_
    have h3' : AftS K α (Own α r3 σ) H3 F3 W (ofM g (fun i => dstF d o i) r3) D := AftS.step h3 (Step.refl (O' := Own α r3 σ) fun _ z => .inl z) fun _ z => z
    refine tE_mono (ofM_E S3 h3') fun vi H4 ⟨r4, F4, i, S4, st4, t4, h4⟩ => ?_
    exact dstF_ok S4 (Fr.stay st4.stay (Fr.stay st3.stay fv)) (t3.step st4 fun _ z => .inl z) t4 (fun _ z => .inl z) h4
theorem sv_dst {X : Cx} {e : Expr} {f g : M Rv} {j : Nat} {pos : Pos} {tg : Expr} (he : PE X e (tE K α W f)) (hg : PG X tg (gSub (tE K α W (nmE j)) (tE K α W g) rSetD)) (hs : swapsWithSole [tg] e pos.line X.env = pure false := by rfl) (hw : swappedStores [tg] e X.env = pure none := by rfl)
    (h1 : (assignEach [tg] X.env).map (·.2) = [assign tg X.env] := by rfl) : PS X (.Assign [tg] e pos) (tS K α W (dstS f j g)) := ps_weak (ps_asg he hg hs hw h1) fun _ _ _ q => dst_ok q
end Mi

/-! Mi20.lean -/
set_option Elab.async false
set_option linter.all false
set_option maxRecDepth 100000
/-! a dict while its keys are walked -/
namespace Mi
open PySem L2 PySem.Spec PyProof.Rows
variable {K : PySem.W.Frag} {α : List Addr} {r r' : En} {σ : L2.St} {H H' : Hp} {F F' : Addr → Prop}
def isDk : HO → Bool
  | .dK _ => true
  | .frz _ (.dK _) => true
  | _ => false
/-- all stays but dicts -/
def Thin (H H' : Hp) : Prop := ∀ a u, H a = some u → isDk u = false → H' a = some u
theorem sqt_thin (s : Thin H H') {a : Addr} {xs : List V} (h : SqT K H a xs) : SqT K H' a xs := by
  rcases h with (h | ⟨o, h⟩) | h
  · exact .inl (.inl (s _ _ h rfl))
  · exact .inl (.inr ⟨o, s _ _ h rfl⟩)
  · exact .inr h
mutual
theorem Fr.thin (s : Thin H H') : ∀ {v : V} {d : PyData}, Fr K H F v d → Fr K H' F v d
  | _, _, .non => .non
  | _, _, .bl b => .bl b
  | _, _, .int i => .int i
  | _, _, .str x => .str x
  | _, _, .own h1 h2 h3 => .own h1 (s _ _ h2 rfl) (FrAll.thin s h3)
  | _, _, .frz h1 h3 => .frz (s _ _ h1 rfl) (FrAll.thin s h3)
  | _, _, .klst h1 h3 => .klst h1 (FrAll.thin s h3)
  | _, _, .tup h1 h3 => .tup (sqt_thin s h1) (FrAll.thin s h3)
theorem FrAll.thin (s : Thin H H') : ∀ {v : List V} {d : List PyData}, FrAll K H F v d → FrAll K H' F v d
  | _, _, .nil => .nil
  | _, _, .cons h1 h2 => .cons (Fr.thin s h1) (FrAll.thin s h2)
end
theorem ObR.thin (s : Thin H H') {o : Ob} {u : HO} (h : ObR K H F o u) : ObR K H' F o u := by
  cases o with
  | lst ds => obtain ⟨xs, e, h⟩ := h; exact ⟨xs, e, h.thin s⟩
  | dct kvs => obtain ⟨ps, e, h⟩ := h; exact ⟨ps, e, paired_imp (fun a b q => ⟨q.1, q.2.thin s⟩) h⟩
  | fdc kvs => obtain ⟨o, ps, e, h⟩ := h; exact ⟨o, ps, e, paired_imp (fun a b q => ⟨q.1, q.2.thin s⟩) h⟩
theorem lo_at (S : SR K α r σ H F) {l : Lo} {o : Ob} (q : look r l = some (.live o)) : ∃ a u, LoAt α σ l a ∧ H a = some u ∧ ObR K H F o u := by
  cases l with
  | slot i =>
    obtain ⟨v, h1, a, u, rfl, h2, h3⟩ := S.slot i (.own o) (look_slot q)
    exact ⟨a, u, h1, h2, h3⟩
  | obj k =>
    obtain ⟨a, h1, u, h2, h3⟩ := S.obj k (.live o) q
    exact ⟨a, u, h1, h2, h3⟩
theorem LoAt.same {l : Lo} {a b : Addr} (h : LoAt α σ l a) (h2 : LoAt α σ l b) : a = b := by
  cases l with
  | slot i => have h : σ[i]? = some (some (V.ref a)) := h; have h2 : σ[i]? = some (some (V.ref b)) := h2; rw [h] at h2; cases h2; rfl
  | obj k => have h : α[k]? = some a := h; have h2 : α[k]? = some b := h2; rw [h] at h2; cases h2; rfl
def lockL (l : Lo) (f : M Rv) : M Rv := fun r => match look r l with
  | some (.live (.dct kvs)) => match f (setLo r l (.live (.fdc kvs))) with
    | .ok x r1 => match look r1 l with
      | some (.live (.fdc kvs)) => .ok x (setLo r1 l (.live (.dct kvs)))
      | _ => .no
    | _ => .no
  | _ => .no
/-- the dict of name i is walked in f -/
def lockE (i : Nat) (f : M Rv) : M Rv := fun r => match nmE i r with
  | .ok (.at l) _ => lockL l f r
  | _ => .no
theorem lockL_ok {l : Lo} {f : M Rv} {Q : VK} (S : SR K α r σ H F) (h : Aft K α σ (Own α r σ) H F W (lockL l f r) Q) : tLockE (tE K α W f) σ H Q := by
  unfold lockL at h
  split at h
  · rename_i kvs q
    obtain ⟨d, u, ha, hd, ps, rfl, dr⟩ := lo_at S q
    have hold : Own α r σ d := ⟨l, look_holds q ha⟩
    refine ⟨d, .dK ps, hd, trivial, fun od => ?_⟩
    obtain ⟨S1, st1, ow1⟩ := S.write q ha (o' := .fdc kvs) (u' := .frz od (.dK ps)) ⟨od, ps, rfl, dr⟩
    refine ⟨_, F, S1, ?_⟩
    cases e : f (setLo r l (.live (.fdc kvs))) with
    | no => simp only [e] at h; exact h.elim
    | ex z r1 => simp only [e] at h; exact h.elim
    | ok x r1 =>
      simp only [e] at h
      intro v H1 F1 S2 st2 t2
      split at h
      · rename_i kvs2 q2
        obtain ⟨d2, u2, ha2, hd2, od2, ps2, rfl, dr2⟩ := lo_at S2 q2
        have := ha.same ha2
        subst this
        have hH := st2.stay.imm d _ upd_same rfl
        rw [hH] at hd2
        cases hd2
        refine ⟨hH, ?_⟩
        have thin : Thin H1 (upd H1 d (.dK ps)) := fun a u e i => by
          by_cases z : a = d
          · subst z; rw [hH] at e; cases e; cases i
          · rw [upd_ne z]; exact e
        obtain ⟨S3, ow3⟩ := S2.writeG q2 ha (o' := .dct kvs2) (u' := .dK ps) ⟨ps, rfl, paired_imp (fun a b q => ⟨q.1, q.2.thin thin⟩) dr2⟩ (fun _ _ z => z.thin thin) fun _ _ z => z.thin thin
        have ow3' : ∀ a, Own α (setLo r1 l (.live (.dct kvs2))) σ a → Own α r1 σ a := fun a ⟨l', z⟩ => ⟨l', ow3 l' a z⟩
        have in1 : Own α r1 σ d := ⟨l, look_holds q2 ha⟩
        have ne : ∀ a, ¬ Own α r σ a → a ≠ d := fun a n z => n (z ▸ hold)
        have neF : ∀ a, F a → a ≠ d := fun a z e => by subst e; obtain ⟨l, z2⟩ := hold; exact S.sep l a z2 z
        refine h v (upd H1 d (.dK ps)) F1 S3 ⟨fun a u e n => ?_, ⟨st2.stay.fz, fun a z => ?_, fun a o e i => ?_⟩, fun a z => ?_, fun a z => ?_, fun a z => ?_⟩ ?_
        · rw [upd_ne (ne a n)]
          exact st2.keep a u (st1.keep a u e n) fun z => n (ow1 a z)
        · rw [upd_ne (neF a z), st2.stay.ffz a z, upd_ne (neF a z)]
        · have : a ≠ d := fun z => by subst z; rw [hd] at e; cases e; cases i
          rw [upd_ne this]
          exact st2.stay.imm a o (st1.stay.imm a o e i) i
        · rcases st2.nfz a z with z | z | z
          · exact .inl z
          · exact .inr (.inl (ow1 a z))
          · exact .inr (.inr (st1.dom a z))
        · have z : OwnT α r1 σ x v a := z.elim (fun z => .inl (ow3' a z)) .inr
          rcases st2.own a z with z | z
          · exact .inl (ow1 a z)
          · exact .inr (st1.dom a z)
        · by_cases e : a = d
          · subst e; rw [upd_same] at z; cases z
          · rw [upd_ne e] at z; exact st1.dom a (st2.dom a z)
        · cases x with
          | val y => exact t2.thin thin
          | own o =>
            obtain ⟨a, u, rfl, g1, g2, g3, g4⟩ := t2
            exact ⟨a, u, rfl, by rw [upd_ne (show a ≠ d from fun z => g4 (by rw [z]; exact in1))]; exact g1, g2.thin thin, g3, fun z => g4 (ow3' a z)⟩
          | «at» l => exact t2
      · exact h.elim
  · exact h.elim
theorem lock_ok {i : Nat} {f : M Rv} {Q : VK} (h : tE K α W (lockE i f) σ H Q) : tLockE (tE K α W f) σ H Q := by
  obtain ⟨r, F, S, h⟩ := h
  unfold lockE at h
  split at h
  · exact lockL_ok S h
  · exact h.elim
theorem ev_lock {X : Cx} {e : Expr} {f : M Rv} (i : Nat) (h : PE X e (tE K α W f)) : PE X e (tE K α W (lockE i f)) := pe_weak (pe_lock h) fun _ _ _ q => lock_ok q
/-! walking keys -/
def keyD : Key → PyData
  | .inl i => .int i
  | .inr x => .str x
def fdcOf (r : En) : Rv → Option (List (Key × PyData))
  | .at l => match look r l with
    | some (.live (.fdc kvs)) => some kvs
    | _ => none
  | _ => none
def keysI (f : M Rv) : M Src := M.bnd f fun x r => match fdcOf r x with
  | some kvs => .ok ⟨fun _ i => some ((kvs.map fun kv => keyD kv.1)[i]?), kvs.length⟩ r
  | none => .no
theorem key_fr (k : Key) : Fr K H F (kV k) (keyD k) := by
  cases k with
  | inl i => exact .int i
  | inr i => exact .str i
theorem DRel.at {ps : List (Key × V)} {kvs : List (Key × PyData)} (h : DRel K H F ps kvs) : ∀ i : Nat, (ps[i]?).map (·.1) = (kvs[i]?).map (·.1) := by
  induction h with
  | nil => intro i; simp
  | cons h t ih =>
    intro i
    cases i with
    | zero => simp [h.1]
    | succ i => simpa using ih i
theorem src_keys {d : Addr} {o : Obj} {ps : List (Key × V)} {kvs : List (Key × PyData)} {n : Nat} (he : ∀ i : Nat, (ps[i]?).map (·.1) = (kvs[i]?).map (·.1)) (hl : ps.length = kvs.length) :
    SrcOk K α ⟨fun _ i => some ((kvs.map fun kv => keyD kv.1)[i]?), n⟩ (Itk d o ps) (fun H _ => H d = some (.frz o (.dK ps))) where
  stay := fun _ _ _ _ h s => s.imm _ _ h rfl
  turn := fun r σ H F i z S h e => by
    have e : (kvs.map fun kv => keyD kv.1)[i]? = z := Option.some.inj e
    subst e
    cases g : kvs[i]? with
    | none =>
      rw [List.getElem?_map, g]
      exact ⟨h, by rw [hl]; exact get_none g⟩
    | some kv =>
      rw [List.getElem?_map, g]
      refine ⟨⟨h, by rw [hl]; exact get_some g⟩, fun x H' ⟨e1, k, v, e2, e3⟩ => .inl ⟨e1, ?_⟩⟩
      have := he i
      rw [g, e2] at this
      cases this
      subst e3
      exact key_fr kv.1
theorem keys_ok {f : M Rv} {R : It → Hp → Prop} (h : tI K α W (keysI f) σ H R) : iKeys (tE K α W f) σ H R := by
  obtain ⟨r, F, S, h⟩ := h
  refine tE_mono (tE_bndI S h) fun v H1 ⟨r1, F1, x, S1, st, t, h1⟩ => ?_
  cases q : fdcOf r1 x with
  | none => rw [q] at h1; exact h1.elim
  | some kvs =>
    rw [q] at h1
    cases x with
    | val d => cases q
    | own d => cases q
    | «at» l =>
      unfold fdcOf at q
      simp only at q
      split at q
      · rename_i q2
        cases q
        obtain ⟨a, u, rfl, g1, o, ps, rfl, g2⟩ := content_rel S1 t q2
        have g2 : DRel K H1 F1 ps kvs := g2
        exact ⟨a, o, rfl, .inl ⟨ps, g1, h1 _ _ H1 F1 S1 (Step.refl fun _ z => z) (src_keys g2.at g2.len) g1⟩⟩
      · cases q
theorem iv_keys {X : Cx} {tg l : Expr} {f : M Rv} (hl : PE X l (tE K α W f)) : PI X tg l (tI K α W (keysI f)) := pi_weak (pi_keys hl) fun _ _ _ q => keys_ok q
section
variable {X : Cx} {elt tg iter : Expr} {ifs : List Expr} {scope : Scope} {own : List (Str × Nat)} {pos spos : Pos} {it : M Src} {g : TG} {tgf : PyData → En → Option En} {tt : M Bool} {f : M Rv}
/-- y = [.. for .. in d] -/
theorem sv_setLcL {i : Nat} {j : Nat} {y : Str} {py : Pos} {T : List Nat} (hT : own.map (·.2) = T) (hc : X.calm = true) (hN : X.N.Nodup) (hy : X.N[i]? = some y) (hyl : X.env.scope.names.lookup y = some .local)
    (hsw : swapsWith (.ListComp elt [⟨tg, iter, ifs, 0⟩] scope pos) (some (.Name y py)) spos.line X.env = pure true) (hi : PI X tg iter (tI K α W it)) (ok : BlkOk X.N X.env.scope scope own)
    (hg : ∀ (s : Shared) (H : Hp) (C : Addr) (cl : List (Str × Addr)) (fp : List Addr), PG (X.blk s H scope (compEnvC scope cl C X.env) fp) tg g) (ht : ∀ (s : Shared) (H : Hp) (C : Addr) (cl : List (Str × Addr)) (fp : List Addr), PTs (X.blk s H scope (compEnvC scope cl C X.env) fp) ifs (tT K α W0 tt))
    (he : ∀ (s : Shared) (H : Hp) (C : Addr) (cl : List (Str × Addr)) (fp : List Addr), PE (X.blk s H scope (compEnvC scope cl C X.env) fp) elt (tE K α W0 f)) (htg : TgOk K α g tgf T) (hs : ∀ x, foldedSetIterable iter X.env x = pure x := by intro _; rfl) :
    PS X (.Assign [.Name y py] (.ListComp elt [⟨tg, iter, ifs, 0⟩] scope pos) spos) (tS K α W (setS i (lockE j (lcE it tgf T tt f)))) := ps_weak (ps_lock (ps_setLc hc hN hy hyl hsw hi ok hg ht he hs)) fun D σ H ⟨r, F, S, h⟩ => by
  rw [hT]
  have q : tE K α W (lockE j (lcE it tgf T tt f)) σ H fun v H1 => D.nx (σ.set i (some v)) H1 := tE_mono (ofM_E S h) fun v H1 ⟨r1, F1, x, S1, st, tr, h1⟩ => bind_ok S1 tr h1
  obtain ⟨d, u, hd, mu, q⟩ := lock_ok q
  exact ⟨d, u, hd, mu, fun od => lc_ok htg (q od)⟩
end
end Mi

/-! Mi21.lean -/
set_option Elab.async false
set_option linter.all false
set_option maxRecDepth 100000
/-! comprehensions of two loops -/
namespace Mi
open PySem L2 PySem.Spec PyProof.Rows
variable {K : PySem.W.Frag} {α : List Addr} {r r' : En} {σ : L2.St} {H H' : Hp} {F F' : Addr → Prop}
theorem wipe_sub {T : List Nat} : ∀ (U : List Nat) (σ : L2.St), (∀ i ∈ U, i ∈ T) → wipe (wipe σ U) T = wipe σ T
  | [], _, _ => rfl
  | u :: U, σ, h => by
    show wipe ((wipe σ U).set u none) T = _
    rw [wipe_set none T _ u (h u List.mem_cons_self)]
    exact wipe_sub U σ fun i m => h i (List.mem_cons_of_mem _ m)
section
variable {O0 : Addr → Prop} {H0 H1 Hs : Hp} {F0 F1 Fs : Addr → Prop} {V V1 : Hp → (Addr → Prop) → Prop} {D : Addr} {acc0 : List PyData} {s : Src} {J : It} {g : TG} {tg : PyData → En → Option En} {T : List Nat} {tt : M Bool} {f : M Rv}
theorem inner_ok (ht : TgOk K α g tg T) (so : SrcOk K α s J V1) (hV : ∀ H F H' F', V H F → Stay H F H' F' → V H' F') {Pw : Res (List PyData) → Prop} (no : ¬ Pw .no) {Nx : Hp → Prop}
    (t0 : Tn K α O0 H0 F0 H1 F1 V D acc0 r σ Hs Fs) (v0 : V1 Hs Fs) (h : Pw (lcN s.nth tg T tt f s.fuel 0 acc0 (wipeV r T))) (hN : ∀ acc rc H' F', Tn K α O0 H0 F0 H1 F1 V D acc rc (L2.wipe σ T) H' F' → Pw (.ok acc rc) → Nx H') :
    ∃ W : Nat → Nat → Hp → Prop, (∃ m, W 0 m Hs) ∧ ∀ i m H, W i m H → (J.stop i H ∧ Nx H) ∨ (J.go i H ∧ ∃ Nx1 : Hp → Prop, (∀ H', Nx1 H' → ∃ m', m' < m ∧ W (i + 1) m' H') ∧ ∀ x H', J.yld i H x H' → g x (L2.wipe σ T) H' fun σ3 H5 => L2.wipe σ3 T = L2.wipe σ T ∧ (tT K α W0 tt) σ3 H5 fun b H6 =>
      if b = true then (tE K α W0 f) σ3 H6 fun y H7 => ∃ acc, H7 D = some (.lst acc) ∧ acc.length < sizeLine ∧ Nx1 (upd H7 D (.lst (acc ++ [y]))) else Nx1 H6) := by
  let V2 : Hp → (Addr → Prop) → Prop := fun H F => V H F ∧ V1 H F
  have hV2 : ∀ H F H' F', V2 H F → Stay H F H' F' → V2 H' F' := fun _ _ _ _ a b => ⟨hV _ _ _ _ a.1 b, so.stay _ _ _ _ a.2 b⟩
  have t00 : Tn K α O0 H0 F0 H1 F1 V2 D acc0 r σ Hs Fs := ⟨t0.sr, ⟨t0.v, v0⟩, t0.tr, t0.stay, t0.step⟩
  have tw0 : Tn K α O0 H0 F0 H1 F1 V2 D acc0 (wipeV r T) (L2.wipe σ T) Hs Fs := t00.next hV2 (t0.sr.wipe T) (Step.refl fun _ z => z) fun a ⟨l, q⟩ => ⟨l, wipe_holds q⟩
  refine ⟨fun i m H' => ∃ rc F' acc, Tn K α O0 H0 F0 H1 F1 V2 D acc rc (L2.wipe σ T) H' F' ∧ Pw (lcN s.nth tg T tt f m i acc rc), ⟨s.fuel, _, Fs, acc0, tw0, h⟩, ?_⟩
  rintro i m H2 ⟨rc, F2, acc, t, h⟩
  unfold lcN at h
  cases en : s.nth rc i with
  | none => simp only [en] at h; exact absurd h no
  | some o =>
    have tn := so.turn rc _ H2 F2 i o t.sr t.v.2 en
    cases o with
    | none =>
      simp only [en] at h
      exact .inl ⟨tn, hN acc rc H2 F2 ⟨t.sr, t.v.1, t.tr, t.stay, t.step⟩ h⟩
    | some d =>
      simp only [en] at h
      obtain ⟨go, yl⟩ := tn
      cases m with
      | zero => exact absurd h no
      | succ m =>
        simp only at h
        cases et : tg d (wipeV rc T) with
        | none => simp only [et] at h; exact absurd h no
        | some r2 =>
          simp only [et] at h
          refine .inr ⟨go, fun H' => ∃ rc F' acc, Tn K α O0 H0 F0 H1 F1 V2 D acc rc (L2.wipe σ T) H' F' ∧ Pw (lcN s.nth tg T tt f m (i + 1) acc rc), fun H' q => ⟨m, Nat.lt_succ_self m, q⟩, fun x H' y => ?_⟩
          have Sw : SR K α (wipeV rc T) (L2.wipe σ T) H2 F2 := by
            have q := t.sr.wipe T
            rwa [wipe_wipe] at q
          have tw : Tn K α O0 H0 F0 H1 F1 V2 D acc (wipeV rc T) (L2.wipe σ T) H2 F2 := t.next hV2 Sw (Step.refl fun _ z => z) fun a ⟨l, q⟩ => by
            rw [← wipe_wipe] at q
            exact ⟨l, wipe_holds q⟩
          obtain ⟨S3, fx, st3⟩ := yl_sr Sw (yl x H' y)
          refine ht.go (wipeV rc T) r2 (L2.wipe σ T) H' F2 x d _ S3 fx et fun σ3 S4 ow4 w4 => ?_
          have w4 : L2.wipe σ3 T = L2.wipe σ T := w4.trans (wipe_wipe T σ)
          have t4 : Tn K α O0 H0 F0 H1 F1 V2 D acc r2 σ3 H' F2 := tw.next hV2 S4 st3 ow4
          refine ⟨w4, r2, F2, S4, ?_⟩
          cases ett : tt r2 with
          | no => simp only [ett] at h; exact absurd h no
          | ex z r3 => simp only [ett] at h; exact absurd h no
          | ok b r3 =>
            simp only [ett] at h
            intro H5 F5 S5 st5
            have t5 : Tn K α O0 H0 F0 H1 F1 V2 D acc r3 σ3 H5 F5 := t4.next hV2 S5 st5 fun _ z => z
            have toW : ∀ {acc : List PyData} {r3 : En} {H5 : Hp} {F5 : Addr → Prop}, Tn K α O0 H0 F0 H1 F1 V2 D acc r3 σ3 H5 F5 → Tn K α O0 H0 F0 H1 F1 V2 D acc (wipeV r3 T) (L2.wipe σ T) H5 F5 := fun {acc r3 H5 F5} t5 => by
              have Sw5 := t5.sr.wipe T
              rw [w4] at Sw5
              exact t5.next hV2 Sw5 (Step.refl fun _ z => z) fun a ⟨l, q⟩ => by
                rw [← w4] at q
                exact ⟨l, wipe_holds q⟩
            cases b with
            | false =>
              refine iteF ?_
              exact ⟨wipeV r3 T, F5, acc, toW t5, h⟩
            | true =>
              refine iteT ⟨r3, F5, S5, ?_⟩
              have h : Pw (match M.bnd f frz r3 with
                | .no => .no
                | .ex e r3 => .no
                | .ok y r3 => if acc.length < sizeLine then lcN s.nth tg T tt f m (i + 1) (acc ++ [y]) (wipeV r3 T) else .no) := h
              unfold M.bnd at h
              cases ef : f r3 with
              | no => simp only [ef] at h; exact absurd h no
              | ex z r4 => simp only [ef] at h; exact absurd h no
              | ok z r4 =>
                simp only [ef] at h
                intro yv H6 F6 S6 st6 tz
                cases ez : frz z r4 with
                | no => simp only [ez] at h; exact absurd h no
                | ex w r5 => exact absurd ez frz_ex
                | ok dy r5 =>
                  simp only [ez] at h
                  obtain ⟨F7, S7, fr7, st7, _⟩ := frz_ok S6 tz ez
                  have t7 : Tn K α O0 H0 F0 H1 F1 V2 D acc r5 σ3 H6 F7 := t5.next hV2 S7 (st6.trans st7 fun _ z => z) fun _ z => z
                  obtain ⟨xs, h1, h2, h3, h4, h5, h6⟩ := t7.tr.grow t7.sr fr7
                  split at h
                  · rename_i hz
                    refine ⟨xs, h1, by rw [h2]; exact hz, ?_⟩
                    exact ⟨wipeV r5 T, F7, acc ++ [dy], toW ⟨h3, hV2 _ _ _ _ t7.v h5, h4, t7.stay.trans h5, t7.step.trans h6 fun _ z => z⟩, h⟩
                  · exact absurd h no
end
theorem tg_nameT (i : Nat) {T : List Nat} (h : i ∈ T) : TgOk K α (gName i) (fun d r => some (put r i (.val d))) T := ⟨fun r r1 σ H F x d Q S h2 e q => by
  cases e
  refine q _ (S.put (s := .val d) h2 fun o a z => nomatch z) (fun a z => ?_) (wipe_set _ T σ i h)
  rcases put_own z with z | ⟨⟨o, z⟩, _⟩
  · exact z
  · cases z⟩
theorem tg_tupT (is : List Nat) {T : List Nat} (hT : ∀ i ∈ is, i ∈ T) : TgOk K α (gTup K is.length (gNames is)) (tgTup is) T := ⟨fun r r1 σ H F x d Q S h e q => by
  cases d with
  | tuple ds =>
    obtain ⟨a, xs, rfl, h1, h2⟩ := (Pk.fr h).tup
    obtain ⟨e1, e2⟩ := gNames_w (T := T) (Q := Q) hT S h2 e q
    exact ⟨a, xs, rfl, h1, e1, e2⟩
  | _ => cases e⟩
def lc2N (nth : En → Nat → Option (Option PyData)) (tg : PyData → En → Option En) (T : List Nat) (tt : M Bool) (it1 : M Src) (tg1 : PyData → En → Option En) (T1 : List Nat) (tt1 : M Bool) (f : M Rv) : Nat → Nat → List PyData → M (List PyData)
  | m, i, acc, r => match nth r i with
    | none => .no
    | some none => .ok acc r
    | some (some d) => match m with
      | 0 => .no
      | m + 1 => match tg d (wipeV r T) with
        | none => .no
        | some r1 => match tt r1 with
          | .no => .no
          | .ex e r2 => .no
          | .ok false r2 => lc2N nth tg T tt it1 tg1 T1 tt1 f m (i + 1) acc (wipeV r2 T)
          | .ok true r2 => match it1 r2 with
            | .no => .no
            | .ex e r3 => .no
            | .ok s1 r3 => match lcN s1.nth tg1 T1 tt1 f s1.fuel 0 acc (wipeV r3 T1) with
              | .no => .no
              | .ex e r4 => .no
              | .ok acc r4 => lc2N nth tg T tt it1 tg1 T1 tt1 f m (i + 1) acc (wipeV r4 T)
def lc2E (it : M Src) (tg : PyData → En → Option En) (T : List Nat) (tt : M Bool) (it1 : M Src) (tg1 : PyData → En → Option En) (T1 : List Nat) (tt1 : M Bool) (f : M Rv) : M Rv := M.bnd it fun s r => if calm r T = true then
    (match lc2N s.nth tg T tt it1 tg1 T1 tt1 f s.fuel 0 [] (wipeV r T) with
    | .no => .no
    | .ex e r1 => .no
    | .ok acc r1 => .ok (.own (.lst acc)) (restV r r1 T)) else .no
theorem lc2_ok {it it1 : M Src} {g g1 : TG} {tg tg1 : PyData → En → Option En} {T T1 : List Nat} {tt tt1 : M Bool} {f : M Rv} {Q : VK} (ht : TgOk K α g tg T) (ht1 : TgOk K α g1 tg1 T1) (hT : ∀ i ∈ T1, i ∈ T) (h : tE K α W (lc2E it tg T tt it1 tg1 T1 tt1 f) σ H Q) :
    tLc2 (tI K α W it) g (tT K α W0 tt) (tI K α W0 it1) g1 (tT K α W0 tt1) (tE K α W0 f) T T1 σ H Q := by
  obtain ⟨r, F, S, h⟩ := h
  refine ⟨r, F, S, ?_⟩
  unfold lc2E M.bnd at h
  cases e : it r with
  | no => simp only [e] at h; exact h
  | ex z r1 => simp only [e] at h; exact h
  | ok s r1 =>
    simp only [e] at h
    intro J V H1 F1 S1 st1 so v1 D hD
    by_cases hc : calm r1 T = true
    case neg => rw [if_neg hc] at h; exact h.elim
    rw [if_pos hc] at h
    let Pw : Res (List PyData) → Prop := fun x => Aft K α σ (Own α r σ) H F W (match x with
      | .no => .no
      | .ex e r2 => .no
      | .ok acc r2 => .ok (.own (.lst acc)) (restV r1 r2 T)) Q
    have h : Pw (lc2N s.nth tg T tt it1 tg1 T1 tt1 f s.fuel 0 [] (wipeV r1 T)) := h
    have S1w := S1.wipe T
    refine ⟨fun i m H' => ∃ rc F' acc, Tn K α (Own α r σ) H F H1 F1 V D acc rc (L2.wipe σ T) H' F' ∧ Pw (lc2N s.nth tg T tt it1 tg1 T1 tt1 f m i acc rc), ⟨s.fuel, wipeV r1 T, F1, [], ⟨S1w.new _ hD, so.stay _ _ _ _ v1 (stay_new S1 _ hD),
      ⟨D, _, rfl, upd_same, ⟨[], rfl, .nil⟩, notF_new S1 hD, notOwn_new S1w hD⟩, stay_new S1 _ hD, st1.trans (step_new S1 _ hD fun a z => z.imp (fun ⟨l, q⟩ => ⟨l, wipe_holds q⟩) id) fun _ z => z⟩, h⟩, ?_⟩
    rintro i m H2 ⟨rc, F2, acc, t, h⟩
    unfold lc2N at h
    cases en : s.nth rc i with
    | none => simp only [en] at h; exact h.elim
    | some o =>
      have tn := so.turn rc _ H2 F2 i o t.sr t.v en
      cases o with
      | none =>
        simp only [en] at h
        obtain ⟨R, ow⟩ := SR.rest S1 t.sr t.stay hc
        refine .inl ⟨tn, h (.ref D) H2 F2 R (t.step.more fun a z => z.imp (ow a) fun ⟨_, z⟩ => by injection z with z; exact z.symm) ?_⟩
        obtain ⟨a, u, e1, e2, e3, e4, e5⟩ := t.tr
        exact ⟨a, u, e1, e2, e3, e4, fun z => e5 (ow a z)⟩
      | some d =>
        simp only [en] at h
        obtain ⟨go, yl⟩ := tn
        cases m with
        | zero => exact h.elim
        | succ m =>
          simp only at h
          cases et : tg d (wipeV rc T) with
          | none => simp only [et] at h; exact h.elim
          | some r2 =>
            simp only [et] at h
            refine .inr ⟨go, fun H' => ∃ rc F' acc, Tn K α (Own α r σ) H F H1 F1 V D acc rc (L2.wipe σ T) H' F' ∧ Pw (lc2N s.nth tg T tt it1 tg1 T1 tt1 f m (i + 1) acc rc), fun H' q => ⟨m, Nat.lt_succ_self m, q⟩, fun x H' y => ?_⟩
            have Sw : SR K α (wipeV rc T) (L2.wipe σ T) H2 F2 := by
              have q := t.sr.wipe T
              rwa [wipe_wipe] at q
            have tw : Tn K α (Own α r σ) H F H1 F1 V D acc (wipeV rc T) (L2.wipe σ T) H2 F2 := t.next so.stay Sw (Step.refl fun _ z => z) fun a ⟨l, q⟩ => by
              rw [← wipe_wipe] at q
              exact ⟨l, wipe_holds q⟩
            obtain ⟨S3, fx, st3⟩ := yl_sr Sw (yl x H' y)
            refine ht.go (wipeV rc T) r2 (L2.wipe σ T) H' F2 x d _ S3 fx et fun σ3 S4 ow4 w4 => ?_
            have w4 : L2.wipe σ3 T = L2.wipe σ T := w4.trans (wipe_wipe T σ)
            have t4 : Tn K α (Own α r σ) H F H1 F1 V D acc r2 σ3 H' F2 := tw.next so.stay S4 st3 ow4
            refine ⟨w4, r2, F2, S4, ?_⟩
            cases ett : tt r2 with
            | no => simp only [ett] at h; exact h
            | ex z r3 => simp only [ett] at h; exact h.elim
            | ok b r3 =>
              simp only [ett] at h
              intro H5 F5 S5 st5
              have t5 : Tn K α (Own α r σ) H F H1 F1 V D acc r3 σ3 H5 F5 := t4.next so.stay S5 st5 fun _ z => z
              have toW : ∀ {σ5 : L2.St} {acc : List PyData} {r3 : En} {H5 : Hp} {F5 : Addr → Prop}, L2.wipe σ5 T = L2.wipe σ T → Tn K α (Own α r σ) H F H1 F1 V D acc r3 σ5 H5 F5 → Tn K α (Own α r σ) H F H1 F1 V D acc (wipeV r3 T) (L2.wipe σ T) H5 F5 := fun {σ5 acc r3 H5 F5} w5 t5 => by
                have Sw5 := t5.sr.wipe T
                rw [w5] at Sw5
                exact t5.next so.stay Sw5 (Step.refl fun _ z => z) fun a ⟨l, q⟩ => by
                  rw [← w5] at q
                  exact ⟨l, wipe_holds q⟩
              cases b with
              | false =>
                refine iteF ?_
                exact ⟨wipeV r3 T, F5, acc, toW w4 t5, h⟩
              | true =>
                refine iteT ⟨r3, F5, S5, ?_⟩
                have h : Pw (match it1 r3 with
                  | .no => .no
                  | .ex e r3 => .no
                  | .ok s1 r3 => match lcN s1.nth tg1 T1 tt1 f s1.fuel 0 acc (wipeV r3 T1) with
                    | .no => .no
                    | .ex e r4 => .no
                    | .ok acc r4 => lc2N s.nth tg T tt it1 tg1 T1 tt1 f m (i + 1) acc (wipeV r4 T)) := h
                cases ei : it1 r3 with
                | no => simp only [ei] at h; exact h
                | ex z r4 => simp only [ei] at h; exact h.elim
                | ok s1 r4 =>
                  simp only [ei] at h
                  intro J1 V1 H6 F6 S6 st6 so1 v6
                  have t6 : Tn K α (Own α r σ) H F H1 F1 V D acc r4 σ3 H6 F6 := t5.next so.stay S6 st6 fun _ z => z
                  refine inner_ok (Pw := fun x => Pw (match x with
                    | .no => .no
                    | .ex e r4 => .no
                    | .ok acc r4 => lc2N s.nth tg T tt it1 tg1 T1 tt1 f m (i + 1) acc (wipeV r4 T))) ht1 so1 so.stay (fun z => z) t6 v6 h fun acc' rc' H' F' t' h' => ?_
                  exact ⟨wipeV rc' T, F', acc', toW ((wipe_sub T1 σ3 hT).trans w4) t', h'⟩
section
variable {X : Cx} {elt tg iter tg1 iter1 : Expr} {ifs ifs1 : List Expr} {scope : Scope} {own : List (Str × Nat)} {pos spos : Pos} {it it1 : M Src} {g g1 : TG} {tgf tgf1 : PyData → En → Option En} {tt tt1 : M Bool} {f : M Rv}
theorem ev_lc2 {T T1 : List Nat} (hT : own.map (·.2) = T) (hT1 : ∀ i ∈ T1, i ∈ T) (hc : X.calm = true) (hN : X.N.Nodup) (hi : PI X tg iter (tI K α W it)) (ok : BlkOk X.N X.env.scope scope own)
    (hg : ∀ (s : Shared) (H : Hp) (C : Addr) (cl : List (Str × Addr)) (fp : List Addr), PG (X.blk s H scope (compEnvC scope cl C X.env) fp) tg g) (ht : ∀ (s : Shared) (H : Hp) (C : Addr) (cl : List (Str × Addr)) (fp : List Addr), PTs (X.blk s H scope (compEnvC scope cl C X.env) fp) ifs (tT K α W0 tt))
    (hi1 : ∀ (s : Shared) (H : Hp) (C : Addr) (cl : List (Str × Addr)) (fp : List Addr), PI (X.blk s H scope (compEnvC scope cl C X.env) fp) tg1 iter1 (tI K α W0 it1))
    (hg1 : ∀ (s : Shared) (H : Hp) (C : Addr) (cl : List (Str × Addr)) (fp : List Addr), PG (X.blk s H scope (compEnvC scope cl C X.env) fp) tg1 g1) (ht1 : ∀ (s : Shared) (H : Hp) (C : Addr) (cl : List (Str × Addr)) (fp : List Addr), PTs (X.blk s H scope (compEnvC scope cl C X.env) fp) ifs1 (tT K α W0 tt1))
    (he : ∀ (s : Shared) (H : Hp) (C : Addr) (cl : List (Str × Addr)) (fp : List Addr), PE (X.blk s H scope (compEnvC scope cl C X.env) fp) elt (tE K α W0 f)) (htg : TgOk K α g tgf T) (htg1 : TgOk K α g1 tgf1 T1) (hs : ∀ x, foldedSetIterable iter X.env x = pure x := by intro _; rfl) (hs1 : ∀ env x, foldedSetIterable iter1 env x = pure x := by intro _ _; rfl) :
    PE X (.ListComp elt [⟨tg, iter, ifs, 0⟩, ⟨tg1, iter1, ifs1, 0⟩] scope pos) (tE K α W (lc2E it tgf T tt it1 tgf1 T1 tt1 f)) := pe_weak (pe_lc2 (vs1 := T1) hc hN hi ok (by rw [hT]; exact hT1) hg ht hi1 hg1 ht1 he hs hs1) fun σ H Q q => by
  rw [hT]
  exact lc2_ok htg htg1 hT1 q
theorem sv_setLc2 {i : Nat} {y : Str} {py : Pos} {T T1 : List Nat} (hT : own.map (·.2) = T) (hT1 : ∀ i ∈ T1, i ∈ T) (hc : X.calm = true) (hN : X.N.Nodup) (hy : X.N[i]? = some y) (hyl : X.env.scope.names.lookup y = some .local)
    (hsw : swapsWith (.ListComp elt [⟨tg, iter, ifs, 0⟩, ⟨tg1, iter1, ifs1, 0⟩] scope pos) (some (.Name y py)) spos.line X.env = pure true) (hi : PI X tg iter (tI K α W it)) (ok : BlkOk X.N X.env.scope scope own)
    (hg : ∀ (s : Shared) (H : Hp) (C : Addr) (cl : List (Str × Addr)) (fp : List Addr), PG (X.blk s H scope (compEnvC scope cl C X.env) fp) tg g) (ht : ∀ (s : Shared) (H : Hp) (C : Addr) (cl : List (Str × Addr)) (fp : List Addr), PTs (X.blk s H scope (compEnvC scope cl C X.env) fp) ifs (tT K α W0 tt))
    (hi1 : ∀ (s : Shared) (H : Hp) (C : Addr) (cl : List (Str × Addr)) (fp : List Addr), PI (X.blk s H scope (compEnvC scope cl C X.env) fp) tg1 iter1 (tI K α W0 it1))
    (hg1 : ∀ (s : Shared) (H : Hp) (C : Addr) (cl : List (Str × Addr)) (fp : List Addr), PG (X.blk s H scope (compEnvC scope cl C X.env) fp) tg1 g1) (ht1 : ∀ (s : Shared) (H : Hp) (C : Addr) (cl : List (Str × Addr)) (fp : List Addr), PTs (X.blk s H scope (compEnvC scope cl C X.env) fp) ifs1 (tT K α W0 tt1))
    (he : ∀ (s : Shared) (H : Hp) (C : Addr) (cl : List (Str × Addr)) (fp : List Addr), PE (X.blk s H scope (compEnvC scope cl C X.env) fp) elt (tE K α W0 f)) (htg : TgOk K α g tgf T) (htg1 : TgOk K α g1 tgf1 T1) (hs : ∀ x, foldedSetIterable iter X.env x = pure x := by intro _; rfl) (hs1 : ∀ env x, foldedSetIterable iter1 env x = pure x := by intro _ _; rfl) :
    PS X (.Assign [.Name y py] (.ListComp elt [⟨tg, iter, ifs, 0⟩, ⟨tg1, iter1, ifs1, 0⟩] scope pos) spos) (tS K α W (setS i (lc2E it tgf T tt it1 tgf1 T1 tt1 f))) := ps_weak (ps_setLc2 (vs1 := T1) hc hN hy hyl hsw hi ok (by rw [hT]; exact hT1) hg ht hi1 hg1 ht1 he hs hs1) fun D σ H ⟨r, F, S, h⟩ => by
  rw [hT]
  exact lc2_ok htg htg1 hT1 (tE_mono (ofM_E S h) fun v H1 ⟨r1, F1, x, S1, st, tr, h1⟩ => bind_ok S1 tr h1)
end
end Mi

/-! Mi22.lean -/
set_option Elab.async false
set_option linter.all false
set_option maxRecDepth 100000
/-! min of a tuple; names from a list -/
namespace Mi
open PySem L2 PySem.Spec PyProof.Rows
variable {K : PySem.W.Frag} {α : List Addr} {r r' : En} {σ : L2.St} {H H' : Hp} {F F' : Addr → Prop}
def rMinT (K : PySem.W.Frag) : List V → Hp → VK → Prop := fun vs H Q => ∃ (a : Addr) (n : Int) (ns : List Int), vs = [V.ref a] ∧ SqT K H a ((n :: ns).map V.int) ∧ Q (.int (PySem.W.minOf n ns)) H
theorem holdAll_ints {h : Heap} : ∀ {ns : List Int} {us : List Value}, Vals (ns.map V.int) us → PySem.W.HoldAll h us ns
  | [], _, .nil => ⟨[], .nil⟩
  | n :: ns, _, .cons ⟨t, e⟩ k => by
    subst e
    obtain ⟨as, r⟩ := holdAll_ints (h := h) k
    exact ⟨_, .cons (.int n t) r⟩
theorem cr_minT {X : Cx} (hc : X.calm = true) (hu : X.A.units + 64 < cLine) : CallR X (.builtin "min") (rMinT X.K) := by
  intro pins s σ H vs us Q I r h
  obtain ⟨a, n, ns, rfl, hs, q⟩ := h
  obtain ⟨its, rv, hl, _⟩ := I.tuple hs
  rw [Vals.ref1 r]
  refine PySem.W.min_tuple_datum (α := Int) (x := n) (xs := ns) (I.ok.hd hc) hl (holdAll_ints (by simpa using rv)) (by show X.A.units + 1 + 0 < cLine; omega) fun i v h' tk hi hm hk => ?_
  obtain ⟨bs, hm⟩ := hm
  generalize PySem.W.minOf n ns = m at hm q
  cases hm with
  | int j t => exact ⟨.int _, H, I.kept hk, ⟨_, rfl⟩, q⟩
def gMinX : PyData → Option Rv
  | .list ds => gMin (.list ds)
  | .tuple ds => (intsOf ds).bind fun ns => match ns with
    | [] => none
    | n :: ns => some (vI (PySem.W.minOf n ns))
  | _ => none
theorem o_minX : Op1 K (fun x H Q => rMin K [x] H Q ∨ rMinT K [x] H Q) gMinX := fun H F x d z Q px h q => by
  unfold gMinX at h
  split at h
  · exact .inl (o_min H F x _ z Q px h q)
  · obtain ⟨ns, h1, h2⟩ := Option.bind_eq_some_iff.mp h
    cases ns with
    | nil => cases h2
    | cons n ns =>
      cases h2
      obtain ⟨a, xs, rfl, e1, e2⟩ := px.tup
      have := intsOf_map h1
      subst this
      have := e2.ints
      subst this
      exact .inr ⟨a, n, ns, rfl, e1, q.val _ _ rfl (.int _)⟩
  · cases h
/-! a, b = xs -/
def unlS (is : List Nat) (f : M Rv) : Stm := ofM f fun x r => match peek r x with
  | some (.list ds) => match frz x r with
    | .ok _ r1 => match bindL is ds r1 with
      | some r2 => .nx r2
      | none => .no
    | _ => .no
  | _ => .no
theorem sv_unl {X : Cx} {e tg : Expr} {f : M Rv} {pos : Pos} {is : List Nat} (he : PE X e (tE X.K α W f)) (hg : PG X tg (gUnl X.K is.length (gNames is))) (hs : swapsWithSole [tg] e pos.line X.env = pure false := by rfl) (hw : swappedStores [tg] e X.env = pure none := by rfl)
    (h1 : (assignEach [tg] X.env).map (·.2) = [assign tg X.env] := by rfl) : PS X (.Assign [tg] e pos) (tS X.K α W (unlS is f)) := ps_weak (ps_asg he hg hs hw h1) fun D σ H ⟨r, F, S, h⟩ =>
  tE_mono (ofM_E S h) fun v H1 ⟨r1, F1, x, S1, st, tr, h1⟩ => by
    split at h1
    · rename_i ds q
      cases ez : frz x r1 with
      | no => simp only [ez] at h1; exact h1.elim
      | ex w r5 => exact absurd ez frz_ex
      | ok d r2 =>
        simp only [ez] at h1
        obtain ⟨a, xs, rfl, hx, fr⟩ := (peek_rel S1 tr q).list
        obtain ⟨F2, S2, fv, st2, ow2⟩ := frz_ok S1 tr ez
        have fr2 := FrAll.stay st2.stay fr
        cases e2 : bindL is ds r2 with
        | none => simp only [e2] at h1; exact h1.elim
        | some r3 =>
          simp only [e2] at h1
          obtain ⟨l, g⟩ := gNames_ok (Q := D.nx) S2 fr2 e2 fun σ' S' o => h1 σ' H1 F2 S' (st2.more fun a z => o a z)
          exact ⟨a, xs, rfl, hx, l, g⟩
    · exact h1.elim
theorem u1 {A : Around} {k : Nat} (hr : Room k A) : A.units + 1 < cLine := by have := hr.un; omega
end Mi

/-! Mi23.lean -/
set_option Elab.async false
set_option linter.all false
set_option maxRecDepth 100000
/-! the letters of a text, or the items of a sequence -/
namespace Mi
open PySem L2 PySem.Spec PyProof.Rows
variable {K : PySem.W.Frag} {α : List Addr} {r r' : En} {σ : L2.St} {H H' : Hp} {F F' : Addr → Prop}
def strNth (z : Str) (_ : En) (i : Nat) : Option (Option PyData) := some (z.cps.toList[i]?.map fun c => PyData.str ⟨#[c]⟩)
def sqI (f : M Rv) : M Src := fun r => match f r with
  | .ok x r1 => match peek r1 x with
    | some (.str z) => .ok ⟨strNth z, z.cps.toList.length⟩ r1
    | _ => seqI (fun _ => .ok x r1) r
  | .ex e r1 => .ex e r1
  | .no => .no
theorem src_str {z : Str} {n : Nat} : SrcOk K α ⟨strNth z, n⟩ (Its z) (fun _ _ => True) where
  stay := fun _ _ _ _ h s => h
  turn := fun r σ H F i o S h e => by
    have e : z.cps.toList[i]?.map (fun c => PyData.str ⟨#[c]⟩) = o := Option.some.inj e
    subst e
    cases g : z.cps.toList[i]? with
    | none =>
      show z.cps.size ≤ i
      have := get_none g
      simpa using this
    | some c =>
      refine ⟨show i < z.cps.size by have := get_some g; simpa using this, fun x H' ⟨e1, c', e2, e3⟩ => .inl ⟨e1, ?_⟩⟩
      have : c' = c := by
        rw [Array.getElem?_toList] at g
        rw [g] at e2
        cases e2; rfl
      subst this
      subst e3
      exact .str _
theorem sq_ok {f : M Rv} {R : It → Hp → Prop} (h : tI K α W (sqI f) σ H R) : iStr (tE K α W f) σ H R ∨ (iList K (tE K α W f) σ H R ∨ iTup K (tE K α W f) σ H R) := by
  obtain ⟨r, F, S, h⟩ := h
  unfold sqI at h
  cases e : f r with
  | no => simp only [e] at h; exact h.elim
  | ex z r1 => simp only [e] at h; exact .inl ⟨r, F, S, by rw [e]; exact h⟩
  | ok x r1 =>
    simp only [e] at h
    split at h
    · rename_i z q
      refine .inl ⟨r, F, S, ?_⟩
      rw [e]
      intro v H1 F1 S1 st t
      exact ⟨z, (peek_rel S1 t q).str, h _ _ H1 F1 S1 (st.trans (Step.refl (O' := Own α r1 σ) fun a z => .inl z) fun _ z => z) src_str trivial⟩
    · refine .inr (seq_ok ⟨r, F, S, ?_⟩)
      have e2 : seqI f r = seqI (fun _ => .ok x r1) r := by unfold seqI M.bnd; rw [e]
      rw [e2]
      exact h
theorem iv_sq {X : Cx} {tg l : Expr} {f : M Rv} (hl : PE X l (tE X.K α W f)) : PI X tg l (tI X.K α W (sqI f)) := pi_weak (pi_or (pi_str hl) (pi_or (pi_list hl) (pi_tup hl))) fun _ _ _ q => sq_ok q
end Mi

/-! Mi24.lean -/
set_option Elab.async false
set_option linter.all false
set_option maxRecDepth 100000
/-! calls with keywords alone -/
namespace Mi
open PySem L2 PySem.Spec PyProof.Rows
variable {K : PySem.W.Frag} {α : List Addr} {r r' : En} {σ : L2.St} {H H' : Hp} {F F' : Addr → Prop}
theorem permL_get {β : Type} : ∀ (pm : List Nat) (xs : List β), (∀ i ∈ pm, i < xs.length) → ∀ j : Nat, (permL pm xs)[j]? = pm[j]?.bind fun i => xs[i]?
  | [], _, _, j => by simp [permL]
  | i :: pm, xs, h, j => by
    have hi := h i List.mem_cons_self
    have e : permL (i :: pm) xs = xs[i] :: permL pm xs := by
      unfold permL
      rw [List.filterMap_cons, List.getElem?_eq_getElem hi]
    rw [e]
    cases j with
    | zero => simp [List.getElem?_eq_getElem hi]
    | succ j => simpa using permL_get pm xs (fun k hk => h k (List.mem_cons_of_mem _ hk)) j
theorem permL_len {β : Type} : ∀ (pm : List Nat) (xs : List β), (∀ i ∈ pm, i < xs.length) → (permL pm xs).length = pm.length
  | [], _, _ => rfl
  | i :: pm, xs, h => by
    have hi := h i List.mem_cons_self
    have e : permL (i :: pm) xs = xs[i] :: permL pm xs := by
      unfold permL
      rw [List.filterMap_cons, List.getElem?_eq_getElem hi]
    rw [e, List.length_cons, permL_len pm xs fun k hk => h k (List.mem_cons_of_mem _ hk), List.length_cons]
theorem permL_paired {β γ : Type} {R : β → γ → Prop} {xs : List β} {ys : List γ} (h : Paired R xs ys) : ∀ pm : List Nat, Paired R (permL pm xs) (permL pm ys)
  | [] => .nil
  | i :: pm => by
    have ih := permL_paired h pm
    have hl := paired_len h
    unfold permL at ih ⊢
    rw [List.filterMap_cons, List.filterMap_cons]
    cases e : ys[i]? with
    | none =>
      have : xs[i]? = none := by
        rw [List.getElem?_eq_none_iff] at e ⊢
        omega
      rw [this]
      exact ih
    | some y =>
      obtain ⟨x, e2, r⟩ := paired_get h e
      rw [e2]
      exact .cons r ih
theorem permL_one {β γ : Type} {pm : List Nat} {xs : List β} {ys : List γ} (hx : ∀ i ∈ pm, i < xs.length) (hy : ∀ i ∈ pm, i < ys.length) {j : Nat} {x : β} {y : γ} (h1 : (permL pm xs)[j]? = some x) (h2 : (permL pm ys)[j]? = some y) : ∃ i, pm[j]? = some i ∧ xs[i]? = some x ∧ ys[i]? = some y := by
  rw [permL_get pm xs hx] at h1
  rw [permL_get pm ys hy] at h2
  cases e : pm[j]? with
  | none => rw [e] at h1; cases h1
  | some i => rw [e] at h1 h2; exact ⟨i, rfl, h1, h2⟩
theorem TRs.perm {xs : List Rv} {vs : List V} {pm : List Nat} (T : TRs K α r σ H F xs vs) (nd : pm.Nodup) (h : ∀ i ∈ pm, i < xs.length) : TRs K α r σ H F (permL pm xs) (permL pm vs) where
  all := permL_paired T.all pm
  one := fun i j o o' a q1 q2 q3 q4 => by
    have hv : ∀ i ∈ pm, i < vs.length := fun i hi => (paired_len T.all) ▸ h i hi
    obtain ⟨m, e1, e2, e3⟩ := permL_one h hv q1 q2
    obtain ⟨n, f1, f2, f3⟩ := permL_one h hv q3 q4
    have := T.one m n o o' a e2 e3 f2 f3
    subst this
    obtain ⟨hi, ei⟩ := List.getElem?_eq_some_iff.mp e1
    obtain ⟨hj, ej⟩ := List.getElem?_eq_some_iff.mp f1
    rcases Nat.lt_trichotomy i j with l | l | l
    · exact absurd (ei.trans ej.symm) (List.pairwise_iff_getElem.mp nd i j hi hj l)
    · exact l
    · exact absurd (ej.trans ei.symm) (List.pairwise_iff_getElem.mp nd j i hj hi l)
theorem Tm.perm {xs : List Rv} {vs : List V} {pm : List Nat} {a : Addr} (hl : xs.length = vs.length) (h : ∀ i ∈ pm, i < xs.length) (t : Tm (permL pm xs) (permL pm vs) a) : Tm xs vs a := by
  obtain ⟨i, o, q1, q2⟩ := t
  obtain ⟨m, _, e2, e3⟩ := permL_one h (fun i hi => hl ▸ h i hi) q1 q2
  exact ⟨m, o, e2, e3⟩
def callKW (pm : List Nat) (G : List Ag → FR) (f : M (List Rv)) : M Rv := M.bnd f fun xs => if xs.length = pm.length then callF G (permL pm xs) else M.stop
/-- a def, and how its keywords bind: ks as they stand in the call, pm the places of the parameters among them -/
structure DefK (P : Program) (w : World) (K : PySem.W.Frag) (mg : Str → Option Value) (base : Heap) (x : Str) (k np n : Nat) (bd : Stm) (ks : List Str) (pm : List Nat) : Prop where
  ex : ∃ (f : Addr) (fd : FuncData) (ps : List Str), mg x = some (.ref f) ∧ PySem.W.keepIn K (.ref f) = true ∧ (∀ (s : Shared) (ws : List Value), ws.length = ks.length → BindsTo s fd ⟨[], ks.zip ws⟩ (ps.zip (permL pm ws))) ∧ ps.length = np ∧ FnG P w K mg base k f fd ps (spF K np n bd)
theorem DefK.mono {P : Program} {w : World} {K : PySem.W.Frag} {mg : Str → Option Value} {base : Heap} {x : Str} {j k np n : Nat} {bd : Stm} {ks : List Str} {pm : List Nat} (D : DefK P w K mg base x j np n bd ks pm) (h : j ≤ k) : DefK P w K mg base x k np n bd ks pm := by
  obtain ⟨f, fd, ps, h1, h2, h3, h4, h5⟩ := D.ex
  exact ⟨f, fd, ps, h1, h2, h3, h4, h5.mono h⟩
theorem Fun.kws {x qual : Str} {st : Stmt} {f : Addr} {fd : FuncData} {ps ks : List Str} {pm : List Nat} (Fn : Fun K x qual st f fd)
    (h : ∀ (kV doc pm' : Value) (an : Option Addr) (cdv ct : Value) (ws : List Value), ws.length = ks.length → bindArgs (PySem.W.fnOf x qual (defArgs st) (defBody st) (defScope st) .none kV doc pm' an cdv ct) ⟨[], ks.zip ws⟩ = Pure.pure (ps.zip (permL pm ws))) (s : Shared) (ws : List Value) (hl : ws.length = ks.length) : BindsTo s fd ⟨[], ks.zip ws⟩ (ps.zip (permL pm ws)) := by
  obtain ⟨oc, od, kV, doc, pm', an, cdv, ct, osl, rfl, lk, hcd⟩ := Fn.ex
  exact .of_eq (h kV doc pm' an cdv ct ws hl)
section
variable {X : Cx} {x : Str} {p pos kpos : Pos} {e : Expr} {kws : List Keyword} {k np n : Nat} {bd : Stm} {g : M (List Rv)} {ks : List Str} {pm : List Nat} {nm : Option Str}
theorem pk_weak {t t' : TA} (h : PK X kws t) (w : ∀ σ H Q, t' σ H Q → t σ H Q) : PK X kws t' := ⟨fun pos pins s σ H Q I q => h.run pos pins s σ H Q I (w σ H Q q)⟩
theorem kr_nil : PK X [] (tR K α W nilR) := pk_weak pk_nil fun _ _ _ q => nilR_ok q
theorem kr_cons {a : M Rv} (h : PE X e (tE K α W a)) (h2 : PK X kws (tR K α W g)) : PK X (⟨nm, e, kpos⟩ :: kws) (tR K α W (consR a g)) := pk_weak (pk_cons h h2) fun _ _ _ q => consR_ok q
theorem argsK_ok {G : List Ag → FR} {Q : VK} (h : tE K α W (callKW pm G g) σ H Q) : tR K α W g σ H fun vs H1 => ∃ r1 F1 xs, SR K α r1 σ H1 F1 ∧ TRs K α r1 σ H1 F1 xs vs ∧ xs.length = pm.length ∧ Aft K α σ (OwnTs α r1 σ xs vs) H1 F1 W (callF G (permL pm xs) r1) Q := by
  obtain ⟨r, F, S, h⟩ := h
  refine ⟨r, F, S, ?_⟩
  unfold callKW M.bnd at h
  cases e : g r with
  | no => rw [e] at h; exact h
  | ex z r1 => rw [e] at h; exact h
  | ok xs r1 =>
    rw [e] at h
    simp only at h
    intro vs H1 F1 S1 st T
    by_cases hl : xs.length = pm.length
    · rw [if_pos hl] at h
      exact ⟨r1, F1, xs, S1, T, hl, h.step st fun _ z => z⟩
    · rw [if_neg hl] at h
      exact h.elim
/-- f(k = v, ..) -/
theorem ev_callKW (D : DefK X.prog X.w X.K X.mg X.base x k np n bd ks pm) (hr : Room k X.A) (hgd : X.A.guards = some []) (tk : L2.Takes X W) (hg : Gl X x) (hn : np ≤ n) (nd : pm.Nodup) (hpm : ∀ i ∈ pm, i < pm.length) (hl : pm.length = ks.length) (hkw : PK X kws (tR X.K α W g))
    (hall : (backToKw pos (keywordEach kws X.env)).all (·.1.isSome) = true := by rfl) (hks : (backToKw pos (keywordEach kws X.env)).filterMap (·.1) = ks := by rfl)
    (hdb : (x == ("__debug__" : Str)) = false := by decide) (hpl : ((backTo pos (starEach [] X.env)).any (·.1) || (backToKw pos (keywordEach kws X.env)).any (·.1.isNone)) = false := by rfl) :
    PE X (.Call (.Name x p) [] kws pos) (tE X.K α W (callKW pm (runF np n bd) g)) := by
  obtain ⟨f, fd, ps, h1, h2, h3, h4, h5⟩ := D.ex
  refine ⟨fun pins s σ H Q I h => ?_⟩
  refine wpAny_Call_Name_kw (ld_glob I hg h1 ?_ hdb)
  have key := argsK_ok h
  refine PySem.W.callWith_KW0 (h₀ := X.base) I.ok.mod.kin h2 hall (thn (hkw.run pos pins s σ H _ I key) fun ws s1 ⟨vs, H1, I1, rv, r1, F1, xs, S1, T, lx, q⟩ => ⟨I1.kIn, ?_⟩) hpl
  rw [hks]
  have lv : xs.length = vs.length := paired_len T.all
  have lw : vs.length = ws.length := rv.length
  have hx : ∀ i ∈ pm, i < xs.length := fun i hi => lx ▸ hpm i hi
  have q' := q.step (Step.refl (O' := OwnTs α r1 σ (permL pm xs) (permL pm vs)) fun a z => z.elim .inl fun t => .inr (t.perm lv hx)) fun _ z => z
  have sp := call_ok hn S1 (T.perm nd hx) q'
  exact wpAny_call (run_fg h5 hr hgd tk (h3 s1 ws (by omega)) I1 (permL_paired rv pm) sp)
end
end Mi

/-! Mi25.lean -/
set_option Elab.async false
set_option linter.all false
set_option maxRecDepth 100000
/-! raise, try -/
namespace Mi
open PySem L2 PySem.Spec PyProof.Rows
variable {K : PySem.W.Frag} {α : List Addr} {r r' : En} {σ : L2.St} {H H' : Hp} {F F' : Addr → Prop}
/-- a class of errors without an __init__ of its own -/
structure ExD (K : PySem.W.Frag) (mg : Str → Option Value) (x : Str) : Prop where
  ex : ∃ C : Addr, mg x = some (.ref C) ∧ PySem.W.nsIn K mainGlobals x = some (some (.ref C)) ∧ PySem.W.excIn K C HandSPX.veTail "ValueError.__new__" = true ∧ PySem.W.keepIn K (.ref C) = true ∧ PySem.W.subIn K (.ref C) (.type "BaseException") = some true ∧
    PySem.W.typeIn K (.ref C) = some (.type "type")
def raiS (x : Str) : Stm := fun r => .ex ⟨x, []⟩ r
theorem sv_raise0 {X : Cx} {W : L2.WX} {x m : Str} {j : Nat} {p p2 p3 pos : Pos} (hc : X.calm = true) (tk : L2.Takes X W) (E : ExD X.K X.mg x) (hg : Gl X x) (hdb : (x == ("__debug__" : Str)) = false := by decide) :
    PS X (.Raise (some (.Call (.Name x p) [.Constant (.str m) j p2] [] p3)) none pos) (tS X.K α W (raiS x)) := by
  obtain ⟨C, g1, g2, g3, g4, g5, g6⟩ := E.ex
  exact ps_weak (ps_raise hc tk (pmk_own PySem.F.excBase_ValueError g3 g1 g4 (raises_own g5 g6) hg hdb)) fun D σ H ⟨r, F, S, h⟩ => h σ (.ref C) none H F S (Step.refl fun _ z => z) ⟨g2, rfl⟩
/-- which classes of errors a clause takes -/
structure Takers (K : PySem.W.Frag) (mg : Str → Option Value) (c : Str) (m : Str → Option Bool) : Prop where
  ex : ∃ C : Addr, mg c = some (.ref C) ∧ ∀ y b, m y = some b → ∃ D : Value, PySem.W.nsIn K mainGlobals y = some (some D) ∧ PySem.W.exmOne K D (.ref C) = some b
def tryS (bd : Stm) (m : Str → Option Bool) (su : Stm) : Stm := fun r => match bd r with
  | .ex x r1 => match m x.cls with
    | some true => match su r1 with
      | .ex _ _ => .no
      | o => o
    | some false => .ex x r1
    | none => .no
  | o => o
theorem AftS.wish {O : Addr → Prop} {W W' : L2.WX} {x : Out} {D : Ends} (h : AftS K α O H F W (match x with
    | .ex _ _ => .no
    | o => o) D) : AftS K α O H F W' x D := by
  cases x with
  | ex e r => exact h.elim
  | nx r => exact h
  | rt v r => exact h
  | bk r => exact h
  | ct r => exact h
  | no => exact h
/-- try: .. except c: .. -/
theorem sv_try {X : Cx} {W : L2.WX} {c : Str} {m : Str → Option Bool} {body suite : List Stmt} {b₀ : Stmt} {np pos pos' : Pos} {bd su : Stm} (hs : X.stack = X.env :: X.outer) (hf : X.env.frame = some X.env.locals) (E : Takers X.K X.mg c m) (hg : Gl X c) (tk : L2.Takes X W)
    (hb : ∀ (W1 : L2.WX) (pn : List (Addr × Obj)) (xe : Value → Shared → Prop), L2.Takes (X.tr pn xe) W1 → PassesOwn (model X.prog X.w) X.A X.env xe → PSs (X.tr pn xe) body (tS X.K α W1 bd))
    (hsu : ∀ (a : Addr) (oe : Obj) (pn : List (Addr × Obj)), PSs (X.suite a ((a, oe) :: pn)) (b₀ :: suite) (tS X.K α W0 su)) (hdb : (c == ("__debug__" : Str)) = false := by decide) :
    PS X (.Try body [.ExceptHandler (some (.Name c np)) none (b₀ :: suite) pos'] [] [] pos) (tS X.K α W (tryS bd m su)) := by
  obtain ⟨C, g1, g2⟩ := E.ex
  refine ps_weak (ps_try_only (c := .ref C) (tb := fun W1 => tS X.K α W1 bd) (ts := fun _ _ _ => tS X.K α W0 su) hs hf ⟨hg, hdb, .inl g1⟩ tk (fun W1 pn xe tk1 po1 => hb W1 pn xe tk1 po1) (fun a oe cls d pn _ _ => hsu a oe pn)) fun D σ H ⟨r, F, S, h⟩ => ⟨r, F, S, ?_⟩
  unfold tryS at h
  cases e : bd r with
  | nx r1 => rw [e] at h; exact h
  | rt v r1 => rw [e] at h; exact h
  | bk r1 => rw [e] at h; exact h
  | ct r1 => rw [e] at h; exact h
  | no => rw [e] at h; exact h.elim
  | ex x r1 =>
    rw [e] at h
    simp only at h
    intro σ' cls d H' F' S' st ex
    cases em : m x.cls with
    | none => rw [em] at h; exact h.elim
    | some b =>
      obtain ⟨Dv, e1, e2⟩ := g2 x.cls b em
      have e3 := ex.1
      rw [e1] at e3
      cases e3
      refine ⟨b, e2, fun hb => ?_, fun hb => ?_⟩
      · subst hb
        rw [em] at h
        exact fun a _ => ⟨r1, F', S', AftS.wish ((AftS.step (K := X.K) h st fun _ z => z))⟩
      · subst hb
        rw [em] at h
        exact h σ' cls d H' F' S' st ex
end Mi

/-! Mi26.lean -/
set_option Elab.async false
set_option linter.all false
set_option maxRecDepth 100000
/-! range(a, b, -1); which errors a clause takes, by a list -/
namespace Mi
open PySem L2 PySem.Spec PyProof.Rows
variable {K : PySem.W.Frag} {α : List Addr} {r r' : En} {σ : L2.St} {H H' : Hp} {F F' : Addr → Prop}
def rngDn (lo : Int) (n : Nat) (_ : En) (i : Nat) : Option (Option PyData) := if i < n then some (some (.int (lo + ((i : Nat) : Int) * (-1)))) else some none
def rngD (f g h : M Rv) : M Src := M.bnd f fun x => M.bnd g fun y => M.bnd h fun z r => match peek r x, peek r y, peek r z with
  | some (.int i), some (.int j), some (.int k) => if k = -1 ∧ (-(2 ^ 62) ≤ i ∧ i < 2 ^ 62) ∧ -(2 ^ 62) ≤ j ∧ j < 2 ^ 62 then .ok ⟨rngDn i (i - j).toNat, (i - j).toNat⟩ r else .no
  | _, _, _ => .no
theorem src_rngD {lo : Int} {n : Nat} : SrcOk K α ⟨rngDn lo n, n⟩ (Itc lo (-1) n) (fun _ _ => True) where
  stay := fun _ _ _ _ h s => h
  turn := fun r σ H F i o S h e => by
    have e : rngDn lo n r i = some o := e
    unfold rngDn at e
    split at e
    · rename_i hi
      injection e with e
      subst e
      exact ⟨hi, fun x H' y => .inl ⟨y.1, by rw [y.2]; exact .int _⟩⟩
    · rename_i hi
      injection e with e
      subst e
      exact Nat.le_of_not_lt hi
theorem rngD_ok {W : L2.WX} {f g k : M Rv} {R : It → Hp → Prop} (h : tI K α W (rngD f g k) σ H R) : iRng3 (tCons (tE K α W f) (tCons (tE K α W g) (tCons (tE K α W k) tNil))) σ H R := by
  obtain ⟨r, F, S, h⟩ := h
  refine tE_mono (tE_bndI S h) fun v H1 ⟨r1, F1, x, S1, st1, t1, h1⟩ => tE_mono (tE_bndI S1 h1) fun w H2 ⟨r2, F2, y, S2, st2, t2, h2⟩ => tE_mono (tE_bndI S2 h2) fun u H3 ⟨r3, F3, z, S3, st3, t3, h3⟩ => ?_
  have t1' := (t1.step st2 fun _ z => .inl z).step st3 fun _ z => .inl z
  have t2' := t2.step st3 fun _ z => .inl z
  split at h3
  · rename_i i j k q1 q2 q3
    split at h3
    · rename_i hj
      obtain ⟨rfl, a1, a2⟩ := hj
      exact ⟨i, j, -1, (i - j).toNat, by rw [(peek_rel S3 t1' q1).int, (peek_rel S3 t2' q2).int, (peek_rel S3 t3 q3).int], RgC.neg a1.1 a1.2 a2.1 a2.2, h3 _ _ H3 F3 S3 (Step.refl fun _ z => z) src_rngD trivial⟩
    · exact h3.elim
  · exact h3.elim
theorem iv_rngD {X : Cx} {W : L2.WX} {tg a b c : Expr} {f g k : M Rv} {p pos : Pos} (hg : Gl X "range") (hm : X.mg "range" = none) (ha : PE X a (tE K α W f)) (hb : PE X b (tE K α W g)) (hc : PE X c (tE K α W k))
    (hs : starEach [a, b, c] X.env = (false, eval a X.env) :: starEach [b, c] X.env := by rfl) (hs1 : starEach [b, c] X.env = (false, eval b X.env) :: starEach [c] X.env := by rfl) (hs2 : starEach [c] X.env = (false, eval c X.env) :: starEach [] X.env := by rfl)
    (hpl : (backTo pos (starEach [b, c] X.env)).any (·.1) = false := by rfl) : PI X tg (.Call (.Name "range" p) [a, b, c] [] pos) (tI K α W (rngD f g k)) :=
  pi_weak (pi_range3 hg hm (pa_cons ha (pa_cons hb (pa_cons hc pa_nil hs2) hs1) hs) hs hpl) fun _ _ _ q => rngD_ok q
/-- the classes that a clause takes, and those that it doesn't -/
def takeL (l : List (Str × Bool)) (y : Str) : Option Bool := l.lookup y
theorem Takers.of {K : PySem.W.Frag} {mg : Str → Option Value} {c : Str} {l : List (Str × Bool)} {C : Addr} (h1 : mg c = some (.ref C)) (h2 : ∀ p ∈ l, ∃ D : Value, PySem.W.nsIn K mainGlobals p.1 = some (some D) ∧ PySem.W.exmOne K D (.ref C) = some p.2) : Takers K mg c (takeL l) := by
  refine ⟨C, h1, fun y b e => ?_⟩
  have key : ∀ l : List (Str × Bool), l.lookup y = some b → (y, b) ∈ l := fun l => by
    induction l with
    | nil => intro e; cases e
    | cons p l ih =>
      obtain ⟨k, v⟩ := p
      intro e
      rw [List.lookup_cons] at e
      by_cases q : y == k
      · rw [q] at e
        have q := eq_of_beq q
        cases e
        rw [q]
        exact List.mem_cons_self
      · have q : (y == k) = false := by simpa using q
        rw [q] at e
        exact List.mem_cons_of_mem _ (ih e)
  exact h2 (y, b) (key l e)
end Mi

/-! Mi27.lean -/
set_option Elab.async false
set_option linter.all false
set_option maxRecDepth 100000
/-! xs[::-1] -/
namespace Mi
open PySem L2 PySem.Spec PyProof.Rows
variable {K : PySem.W.Frag} {α : List Addr} {r r' : En} {σ : L2.St} {H H' : Hp} {F F' : Addr → Prop}
def gRevL : PyData → Option Rv
  | .list ds => some (.own (.lst ds.reverse))
  | _ => none
theorem o_revL : Op1 K (fun x H Q => ∃ a xs, x = .ref a ∧ SqL K H a xs ∧ ∀ p, H p = none → Q (.ref p) (upd H p (.lst xs.reverse))) gRevL := fun H F x d z Q px h q => by
  unfold gRevL at h
  split at h
  · cases h
    obtain ⟨a, xs, rfl, h1, h2⟩ := px.list
    exact ⟨a, xs, rfl, h1, fun l hl => q.new _ _ l rfl hl h2.rev⟩
  · cases h
theorem ev_revL {X : Cx} {W : L2.WX} {e : Expr} {f : M Rv} {k : Nat} {p1 p2 p3 pos : Pos} (he : PE X e (tE X.K α W f)) : PE X (.Subscript e (.Slice none none (some (.UnaryOp .USub (.Constant (.int 1) k p1) p2)) p3) pos) (tE X.K α W (unE gRevL f)) :=
  pe_weak (pe_revL he) fun _ _ _ q => t1_ok o_revL q
end Mi

/-! Mi28.lean -/
set_option Elab.async false
set_option linter.all false
set_option maxRecDepth 100000
namespace Mi
open PySem L2 PySem.Spec PyProof.Rows
theorem exm_mk {K : PySem.W.Frag} {C : Addr} {D : Value} {b : Bool} (h1 : PySem.W.subIn K (.ref C) (.type "BaseException") = some true) (h2 : PySem.W.isClsIn K C = true) (h3 : PySem.W.typeIn K (.ref C) = some (.type "type")) (h4 : PySem.W.subIn K D (.ref C) = some b) :
    PySem.W.exmOne K D (.ref C) = some b := by
  have h2 : (PySem.W.clsIn K C).isSome = true := h2
  unfold PySem.W.exmOne PySem.W.kitCls
  rw [h1]
  simp only [h2, h3]
  exact h4
end Mi

/-! Mi29.lean -/
set_option Elab.async false
set_option linter.all false
set_option maxRecDepth 100000
/-! sorted of rows and tuples, list of a text, dicts by in and by key -/
namespace Mi
open PySem L2 PySem.Spec PyProof.Rows
open PySem.W (EachIs AllAlike Sortable dataLe sorted_data alike alikeAll)
variable {K : PySem.W.Frag} {α : List Addr} {r r' : En} {σ : L2.St} {H H' : Hp} {F F' : Addr → Prop} {W : L2.WX}
/-! list(text) -/
theorem vals_letters {x : Str} : ∀ (cs : List Nat) (vs : List Value), vs.length = cs.length → (∀ (j : Nat) (v : Value), vs[j]? = some v → ∃ (c : Nat) (u : Tok), cs[j]? = some c ∧ v = Value.str ⟨#[c]⟩ u) → Vals (cs.map fun c => V.str ⟨#[c]⟩) vs
  | [], [], _, _ => .nil
  | [], v :: vs, h, _ => by simp at h
  | c :: cs, [], h, _ => by simp at h
  | c :: cs, v :: vs, h, q => by
    obtain ⟨c', u, e1, e2⟩ := q 0 v rfl
    cases e1
    exact .cons ⟨u, e2⟩ (vals_letters (x := x) cs vs (by simpa using h) fun j w e => q (j + 1) w (by simpa using e))
theorem call_listStr {X : Cx} (hc : X.calm = true) : CallR X (.type "list") (fun xs H Q => ∃ z : Str, xs = [.str z] ∧ z.cps.size ≤ sizeLine ∧ ∀ l, H l = none → Q (.ref l) (upd H l (.lst (z.cps.toList.map fun c => V.str ⟨#[c]⟩)))) := by
  intro pins s σ H xs us Q I r h
  obtain ⟨z, rfl, hz, q⟩ := h
  obtain ⟨u, rfl, t, rfl⟩ := vals1 r
  refine call_list_str (I.ok.hd hc) z t (fun h' tk acc' c' hk hS hacc => ?_) hz
  have vl : Vals (z.cps.toList.map fun c => V.str ⟨#[c]⟩) acc'.toList := vals_letters (x := z) _ _ (by simp [hacc.1]) fun j v e => by
    obtain ⟨c, u, e1, e2⟩ := hacc.2 j v (by simpa using e)
    exact ⟨c, u, by simpa using e1, e2⟩
  exact ⟨.ref s.heap.objs.size, _, I.laid (t' := tk) hk (Nat.le_refl _) (show ObjOk X.prog X.w _ h' _ (.lst _) from ⟨by simpa using hz, acc'.toList, c', vl, by simpa using hS⟩), rfl, q _ (I.hok.fresh (Nat.le_refl _))⟩
def lettersD (z : Str) : List PyData := z.cps.toList.map fun c => .str ⟨#[c]⟩
def gListX : PyData → Option Rv
  | .str z => if z.cps.size ≤ sizeLine then some (.own (.lst (lettersD z))) else none
  | d => gList d
theorem fr_letters : ∀ cs : List Nat, FrAll K H F (cs.map fun c => V.str ⟨#[c]⟩) (cs.map fun c => PyData.str ⟨#[c]⟩)
  | [] => .nil
  | c :: cs => .cons (.str _) (fr_letters cs)
theorem o_listX : Op1 K (fun x H Q => (∃ z : Str, [x] = [.str z] ∧ z.cps.size ≤ sizeLine ∧ ∀ l, H l = none → Q (.ref l) (upd H l (.lst (z.cps.toList.map fun c => V.str ⟨#[c]⟩)))) ∨ (∃ p ys, [x] = [.ref p] ∧ (SqL K H p ys ∨ SqT K H p ys) ∧ ∀ l, H l = none → Q (.ref l) (upd H l (.lst ys)))) gListX := fun H F x d z Q px h q => by
  cases d with
  | str y =>
    obtain ⟨h1, rfl⟩ := opt_if h
    have e := px.str
    subst e
    exact .inl ⟨_, rfl, h1, fun l hl => q.new _ _ l rfl hl (fr_letters _)⟩
  | _ => exact .inr (o_list H F x _ z Q px h q)
/-! sorted -/
theorem each_of {T : V → PyData → Prop} : ∀ {ys : List V} {us : List Value} {ds : List PyData}, Vals ys us → Paired T ys ds → EachIs (fun u d => ∃ v, RelV v u ∧ T v d) us ds
  | _, _, _, .nil, .nil => .nil
  | _, _, _, .cons r1 r2, .cons t1 t2 => .cons ⟨_, r1, t1⟩ (each_of r2 t2)
theorem of_each {T : V → PyData → Prop} : ∀ {us : List Value} {ds : List PyData}, EachIs (fun u d => ∃ v, RelV v u ∧ T v d) us ds → ∃ ys, Vals ys us ∧ Paired T ys ds
  | _, _, .nil => ⟨[], .nil, .nil⟩
  | _, _, .cons ⟨v, r, t⟩ h => let ⟨ys, h1, h2⟩ := of_each h; ⟨v :: ys, .cons r h1, .cons t h2⟩
theorem each_imp {α β : Type} {R S : α → β → Prop} (h : ∀ a b, R a b → S a b) : ∀ {as : List α} {bs : List β}, EachIs R as bs → EachIs S as bs
  | _, _, .nil => .nil
  | _, _, .cons a b => .cons (h _ _ a) (each_imp h b)
def rSortDat (K : PySem.W.Frag) : List V → Hp → VK → Prop := fun vs H Q => ∃ (T : V → PyData → Prop) (a : Addr) (ys : List V) (ds : List PyData), vs = [V.ref a] ∧ SqL K H a ys ∧ Paired T ys ds ∧ (∀ v d, T v d → Dp K H v d) ∧ AllAlike ds ∧ Sortable ds ∧ (∀ d, d ∈ ds → d.depth ≤ 60) ∧
  ∀ (zs : List V) (p : Addr), Paired T zs (ds.mergeSort (dataLe false id)) → H p = none → Q (.ref p) (upd H p (.lst zs))
theorem cr_sortedDat {X : Cx} (hu : X.A.units + 64 < cLine) : CallR X (.builtin "sorted") (rSortDat X.K) := by
  intro pins s σ H vs us Q I r h
  obtain ⟨T, a, ys, ds, rfl, hs, hp, hd, hal, hso, hdp, q⟩ := h
  obtain ⟨its, rv, hl, hz⟩ := I.list hs
  rw [Vals.ref1 r]
  have e1 := each_of rv hp
  have er : EachIs (fun v b => ∃ as, Reads s.heap v (id b) as) its ds := each_imp (fun u d ⟨v, r1, t1⟩ => Dp.reads I d v u (hd v d t1) r1) e1
  have hlen : ds.length = ys.length := by rw [← e1.length, rv.length]
  refine sorted_data (enc := id) hl.isList e1 er (by simpa using hal) (by simpa using hso) (by rw [hlen]; exact hz) (fun b hb => by have := hdp b hb; show X.A.units + 2 + b.depth < cLine; omega) fun out hlo heo => ?_
  obtain ⟨zs, z1, z2⟩ := of_each heo
  obtain ⟨ep, he'⟩ := PyProof.Rows.sortedAll_at s.heap its out.toArray
  have hzl : zs.length ≤ sizeLine := by rw [z1.length, hlo, hlen]; exact hz
  exact ⟨.ref _, upd H (s.heap.objs.size + 1) (.lst zs), I.laid (t' := s.toks) (fun _ _ => PyProof.Rows.sortedAll_old) (Nat.le_succ _) ⟨hzl, out, ep, z1, he'⟩, rfl, q zs _ z2 (I.hok.fresh (Nat.le_succ _))⟩
def alikeB (ds : List PyData) : Bool := ds.all fun d => ds.all fun e => alike d e
def sortableB (ds : List PyData) : Bool := (ds.all fun d => match d with | .tuple (_ :: _) => true | _ => false) || ds.all fun d => match d with | .none => false | .tuple _ => false | _ => true
def gSortD : PyData → Option Rv
  | .list ds => if (alikeB ds && sortableB ds && ds.all fun d => decide (d.depth ≤ 60)) = true then some (.own (.lst (ds.mergeSort (dataLe false id)))) else none
  | _ => none
def gSortX (d : PyData) : Option Rv := match gSortI d with
  | some z => some z
  | none => gSortD d
theorem FrAll.pair : ∀ {vs : List V} {ds : List PyData}, FrAll K H F vs ds → Paired (fun v d => Fr K H F v d) vs ds
  | _, _, .nil => .nil
  | _, _, .cons a b => .cons a (FrAll.pair b)
theorem FrAll.of_pair {vs : List V} {ds : List PyData} (h : Paired (fun v d => Fr K H F v d) vs ds) : FrAll K H F vs ds := by
  induction h with
  | nil => exact .nil
  | cons a b ih => exact .cons a ih
theorem sortableB_ok {ds : List PyData} (h : sortableB ds = true) : Sortable ds := by
  unfold sortableB at h
  rcases Bool.or_eq_true _ _ ▸ h with h | h
  · refine .inl fun d hd => ?_
    have := List.all_eq_true.mp h d hd
    cases d with
    | tuple xs => cases xs with
      | nil => cases this
      | cons x r => exact ⟨x, r, rfl⟩
    | _ => cases this
  · refine .inr fun d hd => ?_
    have := List.all_eq_true.mp h d hd
    refine ⟨fun e => ?_, fun xs e => ?_⟩ <;> (subst e; cases this)
theorem o_sortX : Op1 K (fun x H Q => rSorted K [x] H Q ∨ rSortDat K [x] H Q) gSortX := fun H F x d z Q px h q => by
  unfold gSortX at h
  cases e : gSortI d with
  | some y => rw [e] at h; exact .inl (o_sortI H F x d z Q px (e.trans h) q)
  | none =>
    rw [e] at h
    refine .inr ?_
    cases d with
    | list ds =>
      obtain ⟨h1, rfl⟩ := opt_if h
      simp only [Bool.and_eq_true] at h1
      obtain ⟨⟨a1, a2⟩, a3⟩ := h1
      obtain ⟨a, xs, rfl, e1, e2⟩ := px.list
      exact ⟨fun v d => Fr K H F v d, a, xs, ds, rfl, e1, e2.pair, fun _ _ t => t.dp, fun d hd d' hd' => List.all_eq_true.mp (List.all_eq_true.mp a1 d hd) d' hd', sortableB_ok a2, fun d hd => of_decide_eq_true (List.all_eq_true.mp a3 d hd),
        fun zs p hz hn => q.new _ _ p rfl hn (FrAll.of_pair hz)⟩
    | _ => cases h
/-! k in d, k not in d, d[k] -/
def dinE (neg : Bool) (f g : M Rv) : M Rv := M.bnd f fun y r1 => (M.bnd g fun x r2 => match dctOf r2 x, (peek r2 y).bind keyOf with
  | some kvs, some k => .ok (.val (.bool (neg != (valD kvs k).isSome))) r2
  | _, _ => .no) r1
def dixE (f g : M Rv) : M Rv := M.bnd f fun x r1 => (M.bnd g fun y r2 => match dctOf r2 x, (peek r2 y).bind keyOf with
  | some kvs, some k => match valD kvs k with
    | some d => .ok (.val d) r2
    | none => .no
  | _, _ => .no) r1
theorem DRel.some {ps : List (Key × V)} {kvs : List (Key × PyData)} (h : DRel K H F ps kvs) (k : Key) : (valV ps k).isSome = (valD kvs k).isSome := by
  have := h.val k
  cases e : valD kvs k with
  | none => rw [e] at this; rw [this]; rfl
  | some d => rw [e] at this; obtain ⟨v, e1, _⟩ := this; rw [e1]; rfl
theorem din_ok {neg : Bool} {f g : M Rv} {Q : VK} (h : tE K α W (dinE neg f g) σ H Q) : tE K α W f σ H fun y H1 => tE K α W g σ H1 fun x H2 => ∃ a o, x = .ref a ∧ DGet H2 a y o ∧ Q (.bl (neg != o.isSome)) H2 := by
  obtain ⟨r, F, S, h⟩ := h
  refine tE_mono (tE_bnd S h) fun x H1 ⟨r1, F1, x1, S1, st1, t1, h1⟩ => ?_
  refine tE_mono (tE_bnd S1 h1) fun y H2 ⟨r2, F2, x2, S2, st2, t2, h2⟩ => ?_
  have t1' := t1.step st2 fun a z => .inl z
  split at h2
  · rename_i kvs k q1 q2
    obtain ⟨a, ps, rfl, rd, dr⟩ := dct_rel S2 t2 q1
    cases ep : peek r2 x1 with
    | none => rw [ep] at q2; cases q2
    | some d =>
      rw [ep] at q2
      have ek := (peek_rel S2 t1' ep).key q2
      refine ⟨a, _, rfl, .inl ⟨ps, k, rd, ek, rfl⟩, (Aft.fin S2 h2).val _ _ rfl ?_⟩
      rw [dr.some k]; exact .bl _
  · exact h2.elim
theorem ev_din {X : Cx} {o e : Expr} {pos : Pos} {f g : M Rv} (hu : X.A.units + 1 < cLine) (he : PE X e (tE K α W f)) (ho : PE X o (tE K α W g)) (hm : behindInMarks .In o = false) : PE X (.Compare e [.In] [o] pos) (tE K α W (dinE false f g)) :=
  pe_weak (pe_cmp (pc_din hu he ho) hm) fun σ H Q q => by
    have := din_ok q
    simpa only [tDIn, Bool.false_bne] using this
theorem ev_dnotin {X : Cx} {o e : Expr} {pos : Pos} {f g : M Rv} (hu : X.A.units + 1 < cLine) (he : PE X e (tE K α W f)) (ho : PE X o (tE K α W g)) (hm : behindInMarks .NotIn o = false) : PE X (.Compare e [.NotIn] [o] pos) (tE K α W (dinE true f g)) :=
  pe_weak (pe_cmp (pc_dnotin hu he ho) hm) fun σ H Q q => by
    have := din_ok q
    simpa only [tDNotIn, Bool.true_bne] using this
theorem tv_din {X : Cx} {o e : Expr} {pos : Pos} {f g : M Rv} (hu : X.A.units + 1 < cLine) (he : PE X e (tE K α W f)) (ho : PE X o (tE K α W g)) (hm : behindInMarks .In o = false) : PT X (.Compare e [.In] [o] pos) (tT K α W (tstB (dinE false f g))) :=
  pt_weak (pt_cmp (pc_din hu he ho) hm) fun σ H Q q => by
    have q1 := tst_ok (P := fun v _ b => v = .bl b) (fun _ _ _ _ _ p e => bool_pk p e) q
    have := din_ok q1
    simpa only [tB, tDIn, Bool.false_bne] using this
theorem tv_dnotin {X : Cx} {o e : Expr} {pos : Pos} {f g : M Rv} (hu : X.A.units + 1 < cLine) (he : PE X e (tE K α W f)) (ho : PE X o (tE K α W g)) (hm : behindInMarks .NotIn o = false) : PT X (.Compare e [.NotIn] [o] pos) (tT K α W (tstB (dinE true f g))) :=
  pt_weak (pt_cmp (pc_dnotin hu he ho) hm) fun σ H Q q => by
    have q1 := tst_ok (P := fun v _ b => v = .bl b) (fun _ _ _ _ _ p e => bool_pk p e) q
    have := din_ok q1
    simpa only [tB, tDNotIn, Bool.true_bne] using this
theorem ev_dix {X : Cx} {o e : Expr} {pos : Pos} {f g : M Rv} (hu : X.A.units + 1 < cLine) (hs : NoSl e) (ho : PE X o (tE K α W f)) (he : PE X e (tE K α W g)) : PE X (.Subscript o e pos) (tE K α W (dixE f g)) :=
  pe_weak (pe_dget hu ho he hs) fun σ H Q q => by
    obtain ⟨r, F, S, h⟩ := q
    refine tE_mono (tE_bnd S h) fun x H1 ⟨r1, F1, x1, S1, st1, t1, h1⟩ => ?_
    refine tE_mono (tE_bnd S1 h1) fun y H2 ⟨r2, F2, x2, S2, st2, t2, h2⟩ => ?_
    have t1' := t1.step st2 fun a z => .inl z
    split at h2
    · rename_i kvs k q1 q2
      obtain ⟨a, ps, rfl, rd, dr⟩ := dct_rel S2 t1' q1
      cases ep : peek r2 x2 with
      | none => rw [ep] at q2; cases q2
      | some d =>
        rw [ep] at q2
        have ek := (peek_rel S2 t2 ep).key q2
        have := dr.val k
        split at h2
        · rename_i d' e3
          rw [e3] at this
          obtain ⟨v, e4, fv⟩ := this
          exact ⟨a, v, rfl, .inl ⟨ps, k, rd, ek, e4.symm⟩, (Aft.fin S2 h2).val _ _ rfl fv⟩
        · exact h2.elim
    · exact h2.elim
end Mi

/-! Mi30.lean -/
set_option Elab.async false
set_option linter.all false
set_option maxRecDepth 100000
/-! an own list as frozen data; a, b = x, y where a name is a cell -/
namespace Mi
open PySem L2 PySem.Spec PyProof.Rows
variable {K : PySem.W.Frag} {α : List Addr} {r r' : En} {σ : L2.St} {H H' : Hp} {F F' : Addr → Prop} {W : L2.WX}
def fzE (f : M Rv) : M Rv := M.bnd f fun x => M.bnd (frz x) fun d => M.ret (Rv.val d)
theorem fz_ok {f : M Rv} {Q : VK} (h : tE K α W (fzE f) σ H Q) : tE K α W f σ H Q := by
  obtain ⟨r, F, S, h⟩ := h
  refine frz_bnd (P := fun x => Aft K α σ (Own α r σ) H F W x Q) (fun z => z) S (fun _ _ z => z) h fun v H1 r1 F1 d S1 st fr h1 => ?_
  exact h1 v H1 F1 S1 (st.widen (fun a z => z) fun a z => z.elim (fun z => .inl z) fun ⟨⟨_, z⟩, _⟩ => nomatch z) fr
theorem ev_fz {X : Cx} {e : Expr} {f : M Rv} (h : PE X e (tE K α W f)) : PE X e (tE K α W (fzE f)) := pe_weak h fun _ _ _ q => fz_ok q
theorem par2_ok {g : M (List Rv)} {i j : Nat} {D : Ends} (S : SR K α r σ H F) (h : AftS K α (Own α r σ) H F W (parS i j g r) D) :
    tAsg (tTup (tR K α W g)) (gTup K [i, j].length (gNames [i, j])) D σ H := by
  show tR K α W g σ H _
  refine ⟨r, F, S, ?_⟩
  unfold parS at h
  cases e : g r with
  | no => rw [e] at h; exact h.elim
  | ex x r1 => rw [e] at h; exact h σ
  | ok xs r1 =>
    rw [e] at h
    intro vs H1 F1 S1 st1 t1
    obtain ⟨all, one⟩ := t1
    match xs, vs, all, h with
    | [x, y], [v, w], .cons tx (.cons ty .nil), h =>
      refine ⟨by simp [sizeLine], fun p hp => ⟨p, [v, w], rfl, .inl (.inl upd_same), rfl, ⟨v, [w], rfl, w, [], rfl, rfl, ?_⟩⟩⟩
      show D.nx ((σ.set i (some v)).set j (some w)) (upd H1 p (.tup [v, w]))
      cases e1 : deS x r1 with
      | no => simp only [e1] at h; exact h.elim
      | ex z r2 => simp only [e1] at h; exact h.elim
      | ok x' r2 =>
        simp only [e1] at h
        cases e2 : deS y r2 with
        | no => simp only [e2] at h; exact h.elim
        | ex z r3 => simp only [e2] at h; exact h.elim
        | ok y' r3 =>
          simp only [e2] at h
          obtain ⟨F2, S2, tx2, st2, ow2, sx⟩ := deS_ok S1 tx e1
          obtain ⟨F3, S3, ty3, st3, ow3, sy⟩ := deS_ok S2 (ty.step st2 fun a z => z) e2
          have tx3 := tx2.step st3 fun a z => z
          cases e3 : slOf r3 x' with
          | none => simp only [e3] at h; exact h.elim
          | some s =>
            cases e4 : slOf r3 y' with
            | none => simp only [e3, e4] at h; exact h.elim
            | some t =>
              simp only [e3, e4] at h
              obtain ⟨rs, os, ns⟩ := slOf_ok S3 tx3 e3
              obtain ⟨rt, ot, nt⟩ := slOf_ok S3 ty3 e4
              have far : ∀ o o' a, s = .own o → v = .ref a → t = .own o' → w = .ref a → False := fun o o' a z1 z2 z3 z4 => by
                have ex : x = .own o := by rw [sx ⟨o, os o z1⟩]; exact os o z1
                have ey : y = .own o' := by rw [sy ⟨o', ot o' z3⟩]; exact ot o' z3
                have := one 0 1 o o' a (by simp [ex]) (by simp [z2]) (by simp [ey]) (by simp [z4])
                cases this
              have S4 := S3.put (i := i) rs ns
              have S5 := S4.put (i := j) rt fun o a z1 z2 => ⟨(nt o a z1 z2).1, fun z => (put_own z).elim (nt o a z1 z2).2 fun ⟨⟨o', z3⟩, z4⟩ => far o' o a z3 z4 z1 z2⟩
              have wide : ∀ a, Own α r1 σ a → OwnTs α r1 σ [x, y] [v, w] a := fun a z => .inl z
              have st12 := st1.trans (st2.widen wide fun a z => .inr (.inl (ow2 a z))) fun a z => z
              have st13 := st12.trans st3 fun a z => z
              have fresh : ∀ (q : V) (u : Rv) (k : Nat) (a : Addr), (∃ o, [x, y][k]? = some (.own o)) → [v, w][k]? = some (.ref a) → OwnTs α r1 σ [x, y] [v, w] a := fun q u k a ⟨o, z1⟩ z2 => .inr ⟨k, o, z1, z2⟩
              have low : ∀ a, Own α (put (put r3 i s) j t) ((σ.set i (some v)).set j (some w)) a → OwnTs α r1 σ [x, y] [v, w] a := fun a z => by
                rcases put_own z with z | ⟨⟨o, z1⟩, z2⟩
                · rcases put_own z with z | ⟨⟨o, z1⟩, z2⟩
                  · exact .inl (ow2 a (ow3 a z))
                  · exact .inr ⟨0, o, by rw [sx ⟨o, os o z1⟩, os o z1]; rfl, by rw [z2]; rfl⟩
                · exact .inr ⟨1, o, by rw [sy ⟨o, ot o z1⟩, ot o z1]; rfl, by rw [z2]; rfl⟩
              have stF : Step (Own α r σ) H F H1 F3 (Own α (put (put r3 i s) j t) ((σ.set i (some v)).set j (some w))) := ⟨st13.keep, st13.stay, st13.nfz, fun a z => st1.own a (low a z), st13.dom⟩
              exact h _ _ F3 (S5.new (.tup [v, w]) hp) (stF.trans (step_new S5 (.tup [v, w]) hp fun a z => .inl z) fun a z => z)
theorem sv_par2 {X : Cx} {i j : Nat} {tg : Expr} {a b : Expr} {g : M (List Rv)} {pos : Pos} {k2 pt2} (ha : PA X [a, b] (tR X.K α W g)) (hg : PG X tg (gTup X.K [i, j].length (gNames [i, j])))
    (hs : swapsWithSole [tg] (.Tuple [a, b] k2 pt2) pos.line X.env = pure false := by rfl) (hw : swappedStores [tg] (.Tuple [a, b] k2 pt2) X.env = pure none := by rfl)
    (h1 : (assignEach [tg] X.env).map (·.2) = [assign tg X.env] := by rfl) :
    PS X (.Assign [tg] (.Tuple [a, b] k2 pt2) pos) (tS X.K α W (parS i j g)) := ps_weak (ps_asg (pe_tup ha) hg hs hw h1) fun D σ H ⟨r, F, S, h⟩ => par2_ok S h
end Mi

/-! Mi31.lean -/
set_option Elab.async false
set_option linter.all false
set_option maxRecDepth 100000
/-! sorted of a tuple of ints -/
namespace Mi
open PySem L2 PySem.Spec PyProof.Rows
section
variable {prog : Program} {w : World} {A : Around} {E : Value → Shared → Prop} {s : Shared}
abbrev grownH (h : Heap) (vs : List Value) : Heap := (h.push (seqObj "list" #[] 0)).update h.objs.size (Obj.mapSeq (· ++ vs.toArray))
theorem tup_extend {A1 : Around} {l : Addr} {vs : List Value} {P : PySem.Fin → Shared → Prop} {EP : Value → Shared → Prop} (hl : IsTup s.heap l vs.toArray) (hsz : vs.length ≤ sizeLine)
    (h : P (.done (.ret (.ref s.heap.objs.size))) { s with heap := grownH s.heap vs }) :
    wpAny (model prog w) A1 (Builtin.List.listExtendWith (.ref s.heap.objs.size) (.ref l) (.ref s.heap.objs.size)) P EP { s with heap := s.heap.push (seqObj "list" #[] 0) } := by
  obtain ⟨o, ho, hc, n, hd⟩ := hl
  have h1 := Heap.get?_push_of_some (seqObj "list" #[] 0) ho
  have h2 : (s.heap.push (seqObj "list" #[] 0)).get? s.heap.objs.size = some (seqObj "list" #[] 0) := Heap.get?_push_size _ rfl
  unfold Builtin.List.listExtendWith
  refine wpAny_bind (wpAny_typeOf (T := "tuple") ⟨o, h1, hc⟩ ?_)
  rw [if_pos (by rw [show (Value.type "tuple" == Value.type "tuple") = true from rfl]; simp)]
  refine wpAny_bind (listItems_at h1 hd (wpAny_bind (listItems_at (xs := #[]) (n := 0) h2 rfl ?_)))
  rw [if_neg (by simp)]
  exact wpAny_bind (listUpdate_at (xs := #[]) (n := 0) h2 rfl (wpAny_pure h) (Nat.zero_le _) (by show (#[] ++ vs.toArray).size ≤ sizeLine + 1; simp only [Array.size_append, List.size_toArray, List.length_nil]; omega))
theorem tup_collect {l : Addr} {vs : List Value} {Q : List Value → Shared → Prop} (hl : IsTup s.heap l vs.toArray) (hsz : vs.length ≤ sizeLine) (h : Q vs { s with heap := grownH s.heap vs }) : wpAny (model prog w) A (collect (.ref l)) Q E s := by
  unfold collect
  refine wpAny_bind (wpAny_runValue (codeAny_builtin entry_proto_collect' ?_))
  show wpAny _ _ (do again (.builtin "list.__iadd__" ⟨[← newList [], .ref l], []⟩)) _ _ s
  refine wpAny_bind (wpAny_newList (wpAny_pure ⟨Code.quiet_builtin _ (by decide +kernel), codeAny_builtin entry_list_iadd' ?_⟩))
  show wpAny _ _ (Builtin.List.listExtendWith (.ref s.heap.objs.size) (.ref l) (.ref s.heap.objs.size)) _ _ { s with heap := s.heap.push (seqObj "list" #[] 0) }
  refine tup_extend hl hsz ?_
  show wpAny (model prog w) A (do
      let o ← load s.heap.objs.size
      match o.data with
      | .seq xs _ => pure xs.toList
      | _ => unsupported "internal:collect") Q E { s with heap := grownH s.heap vs }
  refine wpAny_bind (wpAny_load (get?_update_seq (Heap.get?_push_size _ rfl) _) ?_)
  show wpAny _ _ (pure ((#[] : Array Value) ++ vs.toArray).toList) Q E _
  rw [show ((#[] : Array Value) ++ vs.toArray).toList = vs by simp]
  exact wpAny_pure h
theorem tup_sorted {l : Addr} {vs : List Value} {ns : List Int} {Q : Value → Shared → Prop} (hl : IsTup s.heap l vs.toArray) (hI : IntsAre vs ns) (h64 : vs.length < 64)
    (h : ∀ (out : Array Value) (ns' : List Int), IntsAre out.toList ns' → ns'.Perm ns → ns'.Pairwise (· ≤ ·) → Q (.ref (s.heap.objs.size + 1)) { s with heap := sortedAll s.heap vs out }) :
    wpAny (model prog w) A (call (.builtin "sorted") [.ref l]) Q E s := by
  have hz : (grownH s.heap vs).objs.size = s.heap.objs.size + 1 := by rw [Heap.size_update, size_push']
  have ho : ((grownH s.heap vs).push (seqObj "list" vs.toArray 0)).get? (s.heap.objs.size + 1) = some (seqObj "list" vs.toArray 0) := by rw [← hz]; exact Heap.get?_push_size _ rfl
  refine Calls.call_function_entry kind_sorted plain_sorted entry_sorted (args_sorted1 _) ?_
  unfold Builtin.«sorted»
  refine wpAny_bind (m := checkCount "sorted" 1 1 _) (wpAny_pure (wpAny_bind (tup_collect hl (small64 h64) (wpAny_bind (wpAny_newList ?_)))))
  show wpAny _ _ _ _ _ { s with heap := (grownH s.heap vs).push (seqObj "list" vs.toArray 0) }
  rw [hz]
  exact wpAny_bind (wpAny_holding (wpAny_call_entry slot_list_sort ⟨_, ho, rfl⟩ entry_list_sort (list_sort_tree ho hI h64 fun out ns' a1 a2 a3 => ⟨_, rfl, wpAny_pure ⟨_, rfl, h out ns' a1 a2 a3⟩⟩) (args_list_sort _)))
end
variable {K : PySem.W.Frag} {α : List Addr} {r r' : En} {σ : L2.St} {H H' : Hp} {F F' : Addr → Prop} {W : L2.WX}
def rSortTu (K : PySem.W.Frag) : List V → Hp → VK → Prop := fun vs H Q => ∃ (a : Addr) (ns : List Int), vs = [V.ref a] ∧ SqT K H a (ns.map V.int) ∧ ns.length < 64 ∧
  ∀ (ns' : List Int) (p : Addr), ns'.Perm ns → ns'.Pairwise (· ≤ ·) → H p = none → Q (.ref p) (upd H p (.lst (ns'.map V.int)))
theorem cr_sortedTu {X : Cx} : CallR X (.builtin "sorted") (rSortTu X.K) := by
  intro pins s σ H vs us Q I r h
  obtain ⟨a, ns, rfl, hs, h64, q⟩ := h
  obtain ⟨its, rv, hl, _⟩ := I.tuple hs
  rw [Vals.ref1 r]
  have hi := rv.ints
  refine tup_sorted hl hi (by rw [hi.length]; exact h64) fun out ns' h1 h2 h3 => ?_
  obtain ⟨ep, he'⟩ := PyProof.Rows.sortedAll_at s.heap its out
  have hlen : (ns'.map V.int).length ≤ sizeLine := by rw [List.length_map, h2.length_eq]; exact small64 h64
  exact ⟨.ref _, upd H (s.heap.objs.size + 1) (.lst (ns'.map V.int)), I.laid (t' := s.toks) (fun _ _ => PyProof.Rows.sortedAll_old) (Nat.le_succ _) ⟨hlen, out.toList, ep, vals_of_ints h1, he'⟩, rfl, q ns' _ h2 h3 (I.hok.fresh (Nat.le_succ _))⟩
/-- sorted: of ints (list or tuple), or of other data (list) -/
def gSortY (d : PyData) : Option Rv := match d with
  | .tuple ds => gSortI (.list ds)
  | _ => gSortX d
theorem o_sortY : Op1 K (fun x H Q => (rSorted K [x] H Q ∨ rSortDat K [x] H Q) ∨ rSortTu K [x] H Q) gSortY := fun H F x d z Q px h q => by
  cases d with
  | tuple ds =>
    refine .inr ?_
    have h : gSortI (.list ds) = some z := h
    unfold gSortI at h
    obtain ⟨ns, h1, h2⟩ := Option.bind_eq_some_iff.mp h
    obtain ⟨h3, rfl⟩ := opt_if h2
    obtain ⟨a, xs, rfl, e1, e2⟩ := px.tup
    have := intsOf_map h1
    subst this
    have := e2.ints
    subst this
    refine ⟨a, ns, rfl, e1, h3, fun ns' p hp hw hn => q.new _ _ p rfl hn ?_⟩
    rw [mergeSort_is hp hw]
    exact fr_intsAll ns'
  | _ => exact .inl (o_sortX H F x _ z Q px h q)
end Mi

/-! Mi32.lean -/
set_option Elab.async false
set_option linter.all false
set_option maxRecDepth 100000
/-! sorted({.. for ..}), of ints -/
namespace Mi
open PySem L2 PySem.Spec PyProof.Rows
section
variable {X : Cx}
/-- {e for target in iter if ..}, of ints: D the new set -/
def tSc (w : World) (wi : TI) (g : TG) (tt : TT) (te : TE) (vs : List Nat) : TE := fun σ H Q => wi σ H fun J H1 => ∀ D, H1 D = none → ∃ W : Nat → Nat → Hp → Prop, (∃ m, W 0 m (upd H1 D (SetO w D (fun _ => false) 0))) ∧ ∀ i m H, W i m H →
  (J.stop i H ∧ Q (.ref D) H) ∨ (J.go i H ∧ ∃ Nx : Hp → Prop, (∀ H', Nx H' → ∃ m', m' < m ∧ W (i + 1) m' H') ∧ ∀ x H', J.yld i H x H' → g x (wipe σ vs) H' fun σ2 H2 => wipe σ2 vs = wipe σ vs ∧ tt σ2 H2 fun b H3 =>
    if b = true then te σ2 H3 fun y H4 => ∃ (S : Int → Bool) (n : Nat) (k : Int), y = .int k ∧ H4 D = some (SetO w D S n) ∧ n + 1 < scanBound ∧ Nx (upd H4 D (SetO w D (fun j => S j || decide (j = k)) (if S k = true then n else n + 1))) else Nx H3)
theorem sc_core {pins : List (Addr × Obj)} {s : Shared} {σ : L2.St} {H : Hp} {Q : VK} {ex tg iter : Expr} {ifs : List Expr} {scope : Scope} {own : List (Str × Nat)} {pos pos' : Pos} {wi : TI} {g : TG} {tt : TT} {te : TE} {use : Option (Value → Sem Unit)} {Qf : Value → Shared → Prop}
    (hc : X.calm = true) (hN : X.N.Nodup) (I : Inv X pins σ H s) (hi : PI X tg iter wi) (ok : BlkOk X.N X.env.scope scope own)
    (hg : ∀ (s : Shared) (H : Hp) (C : Addr) (cl : List (Str × Addr)) (fp : List Addr), PG (X.blk s H scope (compEnvC scope cl C X.env) fp) tg g) (ht : ∀ (s : Shared) (H : Hp) (C : Addr) (cl : List (Str × Addr)) (fp : List Addr), PTs (X.blk s H scope (compEnvC scope cl C X.env) fp) ifs tt)
    (he : ∀ (s : Shared) (H : Hp) (C : Addr) (cl : List (Str × Addr)) (fp : List Addr), PE (X.blk s H scope (compEnvC scope cl C X.env) fp) ex te) (hs : ∀ x, foldedSetIterable iter X.env x = pure x)
    (h : tSc X.w wi g tt te (own.map (·.2)) σ H Q)
    (hRR : ∀ D C s' m H', Inv X pins σ H' s' → Q (.ref D) H' → s'.heap.Ns C m → FpOk X pins H' C → compPost (model X.prog X.w) X.A X.xe use Qf (.ref D) C (.ok .next) s') :
    wpAny (model X.prog X.w) X.A (comprehension (.SetComp ex [⟨tg, iter, ifs, 0⟩] scope pos) scope X.env pos' (newSet (.type "set")) false (eval iter X.env) use) Qf X.xe s := by
  have hfree : ∀ y ∈ scope.names, y.2 = .free → ∃ c, X.env.cells.lookup y.1 = some c := fun y hy e => by
    rcases ok.free y hy e with k | k
    · exact I.ok.has _ (.inl k)
    · exact I.ok.has _ (.inr k)
  refine wpAny_comprehension_free (use := use) rfl hs (closure_ok hfree) ok.kind (fun y hy e => by rw [ok.uniq y hy, e])
    (thn (hi.run pins s σ H _ I h) fun xv s1 hx => thn hx fun itv s2 h2 => ?_)
  obtain ⟨it, fp, tn, J, H2, e, I2, T, st2, f2, q⟩ := h2
  subst e
  refine wpAny_newSet_raw fun led hled => newEnv_comp ?_
  subst hled
  have SN := setR_fresh (h := s2.heap) X.w
  generalize hD : s2.heap.objs.size = D at SN ⊢
  have hDn : H2 D = none := I2.hok.fresh (Nat.le_of_eq hD)
  obtain ⟨W, ⟨m0, w0⟩, turn⟩ := q D hDn
  generalize hs3 : ({ s2 with heap := s2.heap.push { cls := .type "set", dict := none, data := .set #[] 0 (.fresh 0 0 (!X.w.params.followText "set-order")) } } : Shared) = s3
  have I3 : Inv X pins σ (upd H2 D (SetO X.w D (fun _ => false) 0)) s3 := by
    rw [← hs3]
    exact I2.laid (t' := s2.toks) (fun b o e => Heap.get?_push_of_some _ e) (Nat.le_of_eq hD) (setO_new SN)
  have h3 : s3.heap = s2.heap.push { cls := .type "set", dict := none, data := .set #[] 0 (.fresh 0 0 (!X.w.params.followText "set-order")) } := by rw [← hs3]
  have sz : ∀ b ∈ fp, b < s2.heap.objs.size := fun b hb => by
    obtain ⟨o, e, _⟩ := T.obj _ _ st2 b hb
    exact Heap.lt_size e
  have f3 : ∀ b ∈ fp, FpOk X pins (upd H2 D (SetO X.w D (fun _ => false) 0)) b ∧ b < s3.heap.objs.size := fun b hb => by
    have hlt := sz b hb
    refine ⟨⟨?_, (f2 b hb).2⟩, by rw [h3, Heap.size_push]; exact Nat.lt_succ_of_lt hlt⟩
    rw [upd_ne (by rw [← hD]; exact Nat.ne_of_lt hlt)]
    exact (f2 b hb).1
  have st3 : tn 0 s3.heap := T.keep _ _ _ st2 fun b _ o e => by rw [h3]; exact Heap.get?_push_of_some _ e
  have I4 := block_start I3 ok hN f3
  have pg := hg s3 (upd H2 D (SetO X.w D (fun _ => false) 0)) s3.heap.objs.size (cellsFrom (s3.heap.objs.size + 1) scope.names (cloFrom X.env.cells scope.names [])) fp
  have pt := ht s3 (upd H2 D (SetO X.w D (fun _ => false) 0)) s3.heap.objs.size (cellsFrom (s3.heap.objs.size + 1) scope.names (cloFrom X.env.cells scope.names [])) fp
  have pe := he s3 (upd H2 D (SetO X.w D (fun _ => false) 0)) s3.heap.objs.size (cellsFrom (s3.heap.objs.size + 1) scope.names (cloFrom X.env.cells scope.names [])) fp
  show codeAny _ _ (.compStart (.SetComp ex [⟨tg, iter, ifs, 0⟩] scope pos) 0 (.ref it) (.ref D) (compEnvC scope (cellsFrom (s3.heap.objs.size + 1) scope.names (cloFrom X.env.cells scope.names [])) s3.heap.objs.size X.env)) (compPost (model X.prog X.w) X.A X.xe use Qf (.ref D) s3.heap.objs.size) { s3 with heap := pushCells (s3.heap.push { cls := .type "dict", data := .dict #[] }) scope.names }
  have nfp : ∀ b ∈ fp, (upd H2 D (SetO X.w D (fun _ => false) 0)) b = none := fun b hb => (f3 b hb).1.1
  generalize hce : compEnvC scope (cellsFrom (s3.heap.objs.size + 1) scope.names (cloFrom X.env.cells scope.names [])) s3.heap.objs.size X.env = ce at I4 pg pt pe ⊢
  have cL : ce.locals = s3.heap.objs.size := by subst hce; rfl
  generalize hH3 : upd H2 D (SetO X.w D (fun _ => false) 0) = H3 at I3 I4 pg pt pe w0 nfp f3
  generalize hs4 : ({ s3 with heap := pushCells (s3.heap.push { cls := .type "dict", data := .dict #[] }) scope.names } : Shared) = s4 at I4 ⊢
  have st4 : tn 0 s4.heap := T.keep _ _ _ st3 fun b _ o e => by rw [← hs4]; exact pushCells_keeps _ _ _ _ (Heap.get?_push_of_some _ e)
  have stat : ∀ {σ' : L2.St} {H' : Hp} {s' : Shared}, Inv (X.blk s3 H3 scope ce fp) [] σ' H' s' → (∀ b ∈ fp, H' b = none) → ∀ b ∈ fp, FpOk (X.blk s3 H3 scope ce fp) [] H' b := fun {σ' H' s'} I' hn b hb =>
    ⟨hn b hb, (I'.ok.exf b hb).1, I'.ok.exfs b hb, .inl hb, fun x c e => (I'.ok.exf b hb).2 x c e, fun p hp => absurd (show p ∈ ([] : List (Addr × Obj)) ++ [] from hp) (by simp)⟩
  have loop : codeAny (model X.prog X.w) X.A (.compLoop (.SetComp ex [⟨tg, iter, ifs, 0⟩] scope pos) 0 (.ref it) (.ref D) ce) (compPost (model X.prog X.w) X.A X.xe use Qf (.ref D) s3.heap.objs.size) s4 := by
    refine compLoop_set_any (fun n s' => ∃ i H', Inv (X.blk s3 H3 scope ce fp) [] (wipe σ (own.map (·.2))) H' s' ∧ tn i s'.heap ∧ (∀ b ∈ fp, H' b = none) ∧ W i n H') ?_ m0 ⟨0, H3, I4, st4, nfp, w0⟩
    rintro n s5 ⟨i, H5, I5, st5, n5, w5⟩
    rcases turn i n H5 w5 with ⟨stop, qq⟩ | ⟨go, Nx, hNx, step⟩
    · have td := T.done (X.blk s3 H3 scope ce fp) rfl rfl rfl hc i [] s5 _ H5 (fun _ _ => False) I5 (stat I5 n5) st5 stop
      refine thnF td fun r s6 ⟨hr, I6⟩ => ?_
      subst hr
      have I7 : Inv X pins σ H5 s6 := I3.call' (ch := fp) I6.os I6.base I6.hok I6.bare fun b hb => ⟨(f3 b hb).1.2.2.2.1, (f3 b hb).1.2.1, (f3 b hb).1.2.2.2.2.1, (f3 b hb).1.2.2.2.2.2⟩
      have nC : H5 s3.heap.objs.size = none := by
        have z : H5 ce.locals = none := I6.free
        rw [cL] at z
        exact z
      obtain ⟨m, hn, _⟩ := I6.loc
      have hn : s6.heap.Ns ce.locals m := hn
      rw [cL] at hn
      exact hRR D s3.heap.objs.size s6 m H5 I7 qq hn (I3.fpOk (Nat.le_refl _) nC)
    · have ti := T.item (X.blk s3 H3 scope ce fp) rfl rfl rfl hc i [] s5 _ H5 (fun _ _ => False) I5 (stat I5 n5) st5 go
      refine thnF ti fun r s6 ⟨u, hr, h6⟩ => ?_
      subst hr
      refine thnF h6 fun _ s7 ⟨x, H7, I7, r7, y7, st7, n7⟩ => ?_
      have I7' := I7.pinned (stat I7 n7) (T.obj _ _ st7)
      refine thnF (pg.run _ s7 _ H7 x u _ I7' r7 (step x H7 y7)) fun _ s8 ⟨σ8, H8, I8, hw8, q8⟩ => ?_
      refine thnF (pt.run _ s8 σ8 H8 _ I8 q8) fun b s9 ⟨H9, I9, q9⟩ => ?_
      have fin : ∀ {s' : Shared} {H' : Hp}, Inv (X.blk s3 H3 scope ce fp) ([] ++ pinsAt fp s7.heap) σ8 H' s' → Nx H' → ∃ m, m < n ∧ ∃ i H', Inv (X.blk s3 H3 scope ce fp) [] (wipe σ (own.map (·.2))) H' s' ∧ tn i s'.heap ∧ (∀ b ∈ fp, H' b = none) ∧ W i m H' := fun {s' H'} I' nx => by
        obtain ⟨m', hm, w'⟩ := hNx H' nx
        have pin' : ∀ b ∈ fp, ∀ o, s7.heap.get? b = some o → s'.heap.get? b = some o ∧ H' b = none := fun b hb o e =>
          let z := I'.pin (b, o) (List.mem_append_right _ (List.mem_append_right _ (mem_pinsAt hb e)))
          ⟨z.1, z.2.1⟩
        have hl : (wipe σ (own.map (·.2))).length = σ8.length := by rw [← hw8, wipe_length]
        refine ⟨m', hm, i + 1, H', (I'.unpinned (pins := [])).weak hl (fun j v e => ?_), T.keep _ _ _ st7 fun b hb o e => (pin' b hb o e).1, fun b hb => ?_, w'⟩
        · rw [← hw8] at e
          exact (wipe_some e).1
        · obtain ⟨o, e, _⟩ := T.obj _ _ st7 b hb
          exact (pin' b hb o e).2
      cases b with
      | false =>
        simp only [Bool.false_eq_true, if_false] at q9 ⊢
        exact fin I9 q9
      | true =>
        simp only [if_true] at q9 ⊢
        refine thnF (pe.run _ s9 σ8 H9 _ I9 q9) fun z s10 ⟨yk, H10, I10, r10, S, nn, k, ek, hD10, hz10, nx⟩ => ?_
        subst ek
        obtain ⟨tk, rfl⟩ := r10
        have R := setO_get (X := X.blk s3 H3 scope ce fp) I10 hD10
        refine setR_add R hz10 fun h' sb new => ?_
        have he : ∃ u, h'.get? D = some u := by
          have ⟨o, _, _, _, ho, _⟩ := new
          exact ⟨o, ho⟩
        exact fin (I10.write (e := D) (t' := s10.toks + 1) (by rw [hD10]; trivial) (.inl rfl) (fun b u hb hu => (sb.2 b hb).trans hu) he (setO_new new)) nx
  exact codeAny_compStart_set loop (T.self X.A 0 _ _ _ st4 loop)
theorem pe_sc {ex tg iter : Expr} {ifs : List Expr} {scope : Scope} {own : List (Str × Nat)} {pos : Pos} {wi : TI} {g : TG} {tt : TT} {te : TE} (hc : X.calm = true) (hN : X.N.Nodup) (hi : PI X tg iter wi) (ok : BlkOk X.N X.env.scope scope own)
    (hg : ∀ (s : Shared) (H : Hp) (C : Addr) (cl : List (Str × Addr)) (fp : List Addr), PG (X.blk s H scope (compEnvC scope cl C X.env) fp) tg g) (ht : ∀ (s : Shared) (H : Hp) (C : Addr) (cl : List (Str × Addr)) (fp : List Addr), PTs (X.blk s H scope (compEnvC scope cl C X.env) fp) ifs tt)
    (he : ∀ (s : Shared) (H : Hp) (C : Addr) (cl : List (Str × Addr)) (fp : List Addr), PE (X.blk s H scope (compEnvC scope cl C X.env) fp) ex te) (hs : ∀ x, foldedSetIterable iter X.env x = pure x := by intro _; rfl) :
    PE X (.SetComp ex [⟨tg, iter, ifs, 0⟩] scope pos) (tSc X.w wi g tt te (own.map (·.2))) := by
  refine ⟨fun pins s σ H Q I h => ?_⟩
  rw [arm_eval_SetComp]
  refine sc_core hc hN I hi ok hg ht he hs h fun D C s' m H' I' q hn f => ⟨m, hn, fun h'' sb => ?_⟩
  obtain ⟨f0, f1, f2, f3, f4, f5⟩ := f
  exact ⟨.ref D, H', I'.turned (t' := s'.toks) (fun b o hb e => (sb.2 b hb).trans e) f0 f1 f3 f4 f5, rfl, q⟩
end
end Mi

/-! Mi33.lean -/
set_option Elab.async false
set_option linter.all false
set_option maxRecDepth 100000
/-! sorted({.. for ..}) by its evaluator -/
namespace Mi
open PySem L2 PySem.Spec PyProof.Rows
variable {K : PySem.W.Frag} {α : List Addr} {r r' : En} {σ : L2.St} {H H' : Hp} {F F' : Addr → Prop} {W : L2.WX}
/-! sorted ints without doubles -/
def insU (i : Int) : List Int → List Int
  | [] => [i]
  | j :: js => if i < j then i :: j :: js else if i = j then j :: js else j :: insU i js
def sortU (ns : List Int) : List Int := ns.foldr insU []
theorem mem_insU {i k : Int} : ∀ {js : List Int}, k ∈ insU i js ↔ k = i ∨ k ∈ js
  | [] => by simp [insU]
  | j :: js => by
    unfold insU
    split
    · simp
    · split
      · rename_i e; subst e; simp
      · simp only [List.mem_cons, mem_insU]
        constructor
        · rintro (h | h | h) <;> simp [h]
        · rintro (h | h | h) <;> simp [h]
theorem mem_sortU {k : Int} : ∀ {ns : List Int}, k ∈ sortU ns ↔ k ∈ ns
  | [] => by simp [sortU]
  | n :: ns => by
    show k ∈ insU n (sortU ns) ↔ _
    rw [mem_insU, mem_sortU, List.mem_cons]
theorem pw_insU {i : Int} : ∀ {js : List Int}, js.Pairwise (· < ·) → (insU i js).Pairwise (· < ·)
  | [], _ => by simp [insU]
  | j :: js, h => by
    unfold insU
    have hj := List.pairwise_cons.mp h
    split
    · rename_i hij
      refine List.pairwise_cons.mpr ⟨fun k hk => ?_, h⟩
      rcases List.mem_cons.mp hk with e | e
      · rw [e]; exact hij
      · have := hj.1 k e; omega
    · split
      · exact h
      · refine List.pairwise_cons.mpr ⟨fun k hk => ?_, pw_insU hj.2⟩
        rcases mem_insU.mp hk with e | e
        · omega
        · exact hj.1 k e
theorem pw_sortU : ∀ ns : List Int, (sortU ns).Pairwise (· < ·)
  | [] => List.Pairwise.nil
  | n :: ns => pw_insU (pw_sortU ns)
theorem pw_unique : ∀ {xs ys : List Int}, xs.Pairwise (· < ·) → ys.Pairwise (· < ·) → (∀ k, k ∈ xs ↔ k ∈ ys) → xs = ys
  | [], [], _, _, _ => rfl
  | [], y :: ys, _, _, h => absurd ((h y).mpr List.mem_cons_self) (by simp)
  | x :: xs, [], _, _, h => absurd ((h x).mp List.mem_cons_self) (by simp)
  | x :: xs, y :: ys, hx, hy, h => by
    have hx' := List.pairwise_cons.mp hx
    have hy' := List.pairwise_cons.mp hy
    have e : x = y := by
      rcases List.mem_cons.mp ((h x).mp List.mem_cons_self) with e | e
      · exact e
      · rcases List.mem_cons.mp ((h y).mpr List.mem_cons_self) with e2 | e2
        · exact e2.symm
        · have := hy'.1 x e; have := hx'.1 y e2; omega
    subst e
    refine congrArg (x :: ·) (pw_unique hx'.2 hy'.2 fun k => ?_)
    constructor
    · intro hk
      rcases List.mem_cons.mp ((h k).mp (List.mem_cons_of_mem _ hk)) with e | e
      · have := hx'.1 k hk; omega
      · exact e
    · intro hk
      rcases List.mem_cons.mp ((h k).mpr (List.mem_cons_of_mem _ hk)) with e | e
      · have := hy'.1 k hk; omega
      · exact e
theorem len_insU {i : Int} : ∀ {js : List Int}, js.Pairwise (· < ·) → (insU i js).length = if i ∈ js then js.length else js.length + 1
  | [], _ => by simp [insU]
  | j :: js, h => by
    have hj := List.pairwise_cons.mp h
    unfold insU
    by_cases h1 : i < j
    · rw [if_pos h1, if_neg (fun hm => by
        rcases List.mem_cons.mp hm with e | e
        · omega
        · have := hj.1 i e; omega)]
      simp
    · rw [if_neg h1]
      by_cases h2 : i = j
      · rw [if_pos h2, if_pos (by rw [h2]; exact List.mem_cons_self)]
      · rw [if_neg h2, List.length_cons, len_insU hj.2]
        by_cases h3 : i ∈ js
        · rw [if_pos h3, if_pos (List.mem_cons_of_mem _ h3), List.length_cons]
        · rw [if_neg h3, if_neg (fun hm => by
            rcases List.mem_cons.mp hm with e | e
            · exact h2 e
            · exact h3 e), List.length_cons]
theorem len_sortU_app {ns : List Int} {k : Int} : (sortU (ns ++ [k])).length = if k ∈ ns then (sortU ns).length else (sortU ns).length + 1 := by
  have e : sortU (ns ++ [k]) = insU k (sortU ns) := pw_unique (pw_sortU _) (pw_insU (pw_sortU _)) fun j => by
    rw [mem_sortU, mem_insU, mem_sortU, List.mem_append, List.mem_singleton]
    exact ⟨fun h => h.symm, fun h => h.symm⟩
  rw [e, len_insU (pw_sortU ns)]
  by_cases h : k ∈ ns
  · rw [if_pos h, if_pos (mem_sortU.mpr h)]
  · rw [if_neg h, if_neg (fun q => h (mem_sortU.mp q))]
/-! the evaluator -/
def intE (f : M Rv) : M Rv := M.bnd f fun x r => match peek r x with
  | some (.int k) => .ok (.val (.int k)) r
  | _ => .no
def ssP (x : Res (List PyData)) (r1 : En) (T : List Nat) : Res Rv := match x with
  | .ok acc r2 => if acc.length < 4000 then (match intsOf acc with
    | some ns => if (sortU ns).length < 64 then .ok (.own (.lst ((sortU ns).map PyData.int))) (restV r1 r2 T) else .no
    | none => .no) else .no
  | _ => .no
def ssE (it : M Src) (tg : PyData → En → Option En) (T : List Nat) (tt : M Bool) (f : M Rv) : M Rv := M.bnd it fun s r => if calm r T = true then ssP (lcN s.nth tg T tt (intE f) s.fuel 0 [] (wipeV r T)) r T else .no
theorem intE_ok {f : M Rv} {r r' : En} {d : PyData} (h : M.bnd (intE f) frz r = .ok d r') : ∃ x k, f r = .ok x r' ∧ peek r' x = some (.int k) ∧ d = .int k := by
  unfold intE M.bnd at h
  cases e : f r with
  | no => simp only [e] at h; cases h
  | ex z r1 => simp only [e] at h; cases h
  | ok x r1 =>
    simp only [e] at h
    cases ep : peek r1 x with
    | none => simp only [ep] at h; cases h
    | some y =>
      cases y with
      | int k => simp only [ep, frz] at h; injection h with h1 h2; subst h1 h2; exact ⟨x, k, rfl, ep, rfl⟩
      | _ => simp only [ep] at h; cases h
theorem lcN_len {nth : En → Nat → Option (Option PyData)} {tg : PyData → En → Option En} {T : List Nat} {tt : M Bool} {f : M Rv} : ∀ {m i : Nat} {acc acc' : List PyData} {r r' : En}, lcN nth tg T tt f m i acc r = .ok acc' r' → acc.length ≤ acc'.length := by
  intro m
  induction m with
  | zero =>
    intro i acc acc' r r' h
    unfold lcN at h
    split at h
    · cases h
    · injection h with h; subst h; exact Nat.le_refl _
    · cases h
  | succ m ih =>
    intro i acc acc' r r' h
    unfold lcN at h
    split at h
    · cases h
    · injection h with h; subst h; exact Nat.le_refl _
    · dsimp only at h
      split at h
      · cases h
      · split at h
        · cases h
        · cases h
        · exact ih h
        · split at h
          · cases h
          · cases h
          · split at h
            · have := ih h
              rw [List.length_append] at this
              omega
            · cases h
/-- the set that grows -/
def SetG (w : World) (H : Hp) (F : Addr → Prop) (O : Addr → Prop) (D : Addr) (acc : List PyData) : Prop := ∃ (S : Int → Bool) (n : Nat), H D = some (SetO w D S n) ∧ n ≤ acc.length ∧ (∃ ns, intsOf acc = some ns ∧ n ≤ (sortU ns).length ∧ ∀ k, S k = true ↔ k ∈ ns) ∧ ¬ F D ∧ ¬ O D
theorem intsOf_app : ∀ {xs : List PyData} {ns : List Int} {k : Int}, intsOf xs = some ns → intsOf (xs ++ [.int k]) = some (ns ++ [k])
  | [], ns, k, h => by simp only [intsOf, Option.some.injEq] at h; subst h; rfl
  | .int i :: xs, ns, k, h => by
    simp only [intsOf, Option.map_eq_some_iff, List.cons_append] at h ⊢
    obtain ⟨ms, h1, h2⟩ := h
    subst h2
    exact ⟨ms ++ [k], intsOf_app h1, rfl⟩
  | .none :: xs, _, _, h => by cases h
  | .bool _ :: xs, _, _, h => by cases h
  | .str _ :: xs, _, _, h => by cases h
  | .list _ :: xs, _, _, h => by cases h
  | .tuple _ :: xs, _, _, h => by cases h
  | .dict _ :: xs, _, _, h => by cases h
theorem setO_immu {w : World} {a : Addr} {S : Int → Bool} {n : Nat} : immu (SetO w a S n) = false := rfl
structure Tz (w : World) (K : PySem.W.Frag) (α : List Addr) (O0 : Addr → Prop) (H0 : Hp) (F0 : Addr → Prop) (H1 : Hp) (F1 : Addr → Prop) (V : Hp → (Addr → Prop) → Prop) (D : Addr) (acc : List PyData) (r : En) (σ : L2.St) (H : Hp) (F : Addr → Prop) : Prop where
  sr : SR K α r σ H F
  v : V H F
  tr : SetG w H F (Own α r σ) D acc
  stay : Stay H1 F1 H F
  step : Step O0 H0 F0 H F (fun a => Own α r σ a ∨ a = D)
theorem SetG.move {w : World} {O O' : Addr → Prop} {O2 : Addr → Prop} {D : Addr} {acc : List PyData} (h : SetG w H F O D acc) (s : Step O H F H' F' O') (ho : ∀ a, O2 a → O' a) : SetG w H' F' O2 D acc := by
  obtain ⟨S, n, hH, hn, hs, hF, hN⟩ := h
  refine ⟨S, n, s.keep D _ hH hN, hn, hs, fun z => ?_, fun z => ?_⟩
  · rcases s.nfz D z with z | z | z
    · exact hF z
    · exact hN z
    · rw [hH] at z; cases z
  · rcases s.own D (ho D z) with z | z
    · exact hN z
    · rw [hH] at z; cases z
theorem Tz.next {w : World} {O0 : Addr → Prop} {H0 H1 : Hp} {F0 F1 : Addr → Prop} {V : Hp → (Addr → Prop) → Prop} {D : Addr} {acc : List PyData} {σ' : L2.St} {O' : Addr → Prop} (t : Tz w K α O0 H0 F0 H1 F1 V D acc r σ H F) (hv : ∀ H F H' F', V H F → Stay H F H' F' → V H' F')
    (S : SR K α r' σ' H' F') (s : Step (Own α r σ) H F H' F' O') (ho : ∀ a, Own α r' σ' a → O' a) : Tz w K α O0 H0 F0 H1 F1 V D acc r' σ' H' F' :=
  ⟨S, hv _ _ _ _ t.v s.stay, t.tr.move s ho, t.stay.trans s.stay, t.step.trans (s.widen (P := fun a => Own α r σ a ∨ a = D) (fun _ z => .inl z) fun a z => z.elim (fun z => .inl (ho a z)) fun z => .inr (.inr z)) fun _ z => z⟩
theorem SetG.grow {w : World} {D : Addr} {acc : List PyData} {S : Int → Bool} {n : Nat} {k : Int} (SS : SR K α r σ H F) (hH : H D = some (SetO w D S n)) (hn : n ≤ acc.length) (hs : ∃ ns, intsOf acc = some ns ∧ n ≤ (sortU ns).length ∧ ∀ k, S k = true ↔ k ∈ ns) (hF : ¬ F D) (hN : ¬ Own α r σ D) :
    let H2 := upd H D (SetO w D (fun j => S j || decide (j = k)) (if S k = true then n else n + 1))
    SR K α r σ H2 F ∧ SetG w H2 F (Own α r σ) D (acc ++ [.int k]) ∧ Stay H F H2 F ∧ Step (fun a => Own α r σ a ∨ a = D) H F H2 F (fun a => Own α r σ a ∨ a = D) := by
  intro H2
  have st : Stay H F H2 F := ⟨fun _ h => h, fun x q => upd_ne (fun e => hF (by rw [← e]; exact q)), fun x w' q i => by
    by_cases e : x = D
    · subst e; rw [hH] at q; cases q; cases i
    · show upd H D _ x = _
      rw [upd_ne e]; exact q⟩
  obtain ⟨ns, h1, h3, h2⟩ := hs
  refine ⟨SS.over st (fun x q => upd_ne fun e => hN (by rw [← e]; exact q)) (fun x ⟨l, q⟩ => SS.sep l x q) (fun x q => ?_), ⟨_, _, upd_same, ?_, ⟨ns ++ [k], intsOf_app h1, ?_, fun j => ?_⟩, hF, hN⟩, st,
    ⟨fun x o q n => by show upd H D _ x = _; rw [upd_ne (show x ≠ D from fun e => n (.inr e))]; exact q, st, fun x q => .inl q, fun x q => .inl q, fun x q => ?_⟩⟩
  · obtain ⟨w', q2⟩ := SS.fdom x q
    exact ⟨w', by show upd H D _ x = _; rw [upd_ne (show x ≠ D from fun e => hF (by rw [← e]; exact q))]; exact q2⟩
  · rw [List.length_append, List.length_singleton]; split <;> omega
  · rw [len_sortU_app]
    by_cases hk : k ∈ ns
    · rw [if_pos hk, if_pos ((h2 k).mpr hk)]; exact h3
    · rw [if_neg hk, if_neg (fun q => hk ((h2 k).mp q))]; omega
  · rw [Bool.or_eq_true, decide_eq_true_eq, h2 j, List.mem_append, List.mem_singleton]
  · by_cases e : x = D
    · subst e
      have q : upd H x (SetO w x (fun j => S j || decide (j = k)) (if S k = true then n else n + 1)) x = none := q
      rw [upd_same] at q; cases q
    · have q : upd H D (SetO w D (fun j => S j || decide (j = k)) (if S k = true then n else n + 1)) x = none := q
      rwa [upd_ne e] at q
theorem ss_ok {w : World} {it : M Src} {g : TG} {tg : PyData → En → Option En} {T : List Nat} {tt : M Bool} {f : M Rv} {Q : VK} (ht : TgOk K α g tg T) (h : tE K α W (ssE it tg T tt f) σ H Q) :
    tSc w (tI K α W it) g (tT K α W0 tt) (tE K α W0 f) T σ H fun v H1 => rSortedSet w [v] H1 Q := by
  obtain ⟨r, F, S, h⟩ := h
  refine ⟨r, F, S, ?_⟩
  unfold ssE M.bnd at h
  cases e : it r with
  | no => simp only [e] at h; exact h
  | ex z r1 => simp only [e] at h; exact h
  | ok s r1 =>
    simp only [e] at h
    intro J V H1 F1 S1 st1 so v1 D hD
    by_cases hc : calm r1 T = true
    case neg => rw [if_neg hc] at h; exact h.elim
    rw [if_pos hc] at h
    let Pw : Res (List PyData) → Prop := fun x => Aft K α σ (Own α r σ) H F W (ssP x r1 T) Q
    have h : Pw (lcN s.nth tg T tt (intE f) s.fuel 0 [] (wipeV r1 T)) := h
    have S1w := S1.wipe T
    refine ⟨fun i m H' => ∃ rc F' acc, Tz w K α (Own α r σ) H F H1 F1 V D acc rc (L2.wipe σ T) H' F' ∧ Pw (lcN s.nth tg T tt (intE f) m i acc rc), ⟨s.fuel, wipeV r1 T, F1, [], ⟨S1w.new _ hD, so.stay _ _ _ _ v1 (stay_new S1 _ hD),
      ⟨_, 0, upd_same, Nat.le_refl _, ⟨[], rfl, Nat.zero_le _, fun k => by simp⟩, notF_new S1 hD, notOwn_new S1w hD⟩, stay_new S1 _ hD, st1.trans (step_new S1 _ hD fun a z => z.imp (fun ⟨l, q⟩ => ⟨l, wipe_holds q⟩) id) fun _ z => z⟩, h⟩, ?_⟩
    rintro i m H2 ⟨rc, F2, acc, t, h⟩
    unfold lcN at h
    cases en : s.nth rc i with
    | none => simp only [en] at h; exact h.elim
    | some o =>
      have tn := so.turn rc _ H2 F2 i o t.sr t.v en
      cases o with
      | none =>
        simp only [en] at h
        obtain ⟨R, ow⟩ := SR.rest S1 t.sr t.stay hc
        refine .inl ⟨tn, ?_⟩
        have h : Aft K α σ (Own α r σ) H F W (ssP (.ok acc rc) r1 T) Q := h
        unfold ssP at h
        dsimp only at h
        split at h
        case isFalse => exact h.elim
        rename_i hz
        obtain ⟨SB, n, e1, e2, ⟨ns, e3, e7, e4⟩, e5, e6⟩ := t.tr
        rw [e3] at h
        dsimp only at h
        split at h
        case isFalse => exact h.elim
        rename_i hz2
        refine ⟨D, SB, n, rfl, e1, by omega, fun ms p pw mem hl hp => ?_⟩
        have em : ms = sortU ns := pw_unique pw (pw_sortU ns) fun k => by rw [mem, e4, mem_sortU]
        subst em
        have e6' : ¬ Own α (restV r1 rc T) σ D := fun z => e6 (ow D z)
        refine h (.ref p) _ F2 (R.new _ hp) (t.step.trans (step_new R _ hp (O' := OwnT α (restV r1 rc T) σ (.own (.lst ((sortU ns).map PyData.int))) (.ref p)) fun a z => z.imp id fun ⟨_, z⟩ => by injection z with z; exact z.symm) fun a z => .inl (ow a z)) ?_
        refine ⟨p, _, rfl, upd_same, ⟨_, rfl, ?_⟩, notF_new R hp, notOwn_new R hp⟩
        have : ∀ (ls : List Int) (H : Hp) (F : Addr → Prop), FrAll K H F (ls.map L2.V.int) (ls.map PyData.int) := fun ls H F => by
          induction ls with
          | nil => exact .nil
          | cons l ls ih => exact .cons (.int l) ih
        exact this _ _ _
      | some d =>
        simp only [en] at h
        obtain ⟨go, yl⟩ := tn
        cases m with
        | zero => exact h.elim
        | succ m =>
          simp only at h
          cases et : tg d (wipeV rc T) with
          | none => simp only [et] at h; exact h.elim
          | some r2 =>
            simp only [et] at h
            refine .inr ⟨go, fun H' => ∃ rc F' acc, Tz w K α (Own α r σ) H F H1 F1 V D acc rc (L2.wipe σ T) H' F' ∧ Pw (lcN s.nth tg T tt (intE f) m (i + 1) acc rc), fun H' q => ⟨m, Nat.lt_succ_self m, q⟩, fun x H' y => ?_⟩
            have Sw : SR K α (wipeV rc T) (L2.wipe σ T) H2 F2 := by
              have q := t.sr.wipe T
              rwa [wipe_wipe] at q
            have tw : Tz w K α (Own α r σ) H F H1 F1 V D acc (wipeV rc T) (L2.wipe σ T) H2 F2 := t.next so.stay Sw (Step.refl fun _ z => z) fun a ⟨l, q⟩ => by
              rw [← wipe_wipe] at q
              exact ⟨l, wipe_holds q⟩
            obtain ⟨S3, fx, st3⟩ := yl_sr Sw (yl x H' y)
            refine ht.go (wipeV rc T) r2 (L2.wipe σ T) H' F2 x d _ S3 fx et fun σ3 S4 ow4 w4 => ?_
            have w4 : L2.wipe σ3 T = L2.wipe σ T := w4.trans (wipe_wipe T σ)
            have t4 : Tz w K α (Own α r σ) H F H1 F1 V D acc r2 σ3 H' F2 := tw.next so.stay S4 st3 ow4
            refine ⟨w4, r2, F2, S4, ?_⟩
            cases ett : tt r2 with
            | no => simp only [ett] at h; exact h
            | ex z r3 => simp only [ett] at h; exact h.elim
            | ok b r3 =>
              simp only [ett] at h
              intro H5 F5 S5 st5
              have t5 : Tz w K α (Own α r σ) H F H1 F1 V D acc r3 σ3 H5 F5 := t4.next so.stay S5 st5 fun _ z => z
              have toW : ∀ {acc : List PyData} {r3 : En} {H5 : Hp} {F5 : Addr → Prop}, Tz w K α (Own α r σ) H F H1 F1 V D acc r3 σ3 H5 F5 → Tz w K α (Own α r σ) H F H1 F1 V D acc (wipeV r3 T) (L2.wipe σ T) H5 F5 := fun {acc r3 H5 F5} t5 => by
                have Sw5 := t5.sr.wipe T
                rw [w4] at Sw5
                exact t5.next so.stay Sw5 (Step.refl fun _ z => z) fun a ⟨l, q⟩ => by
                  rw [← w4] at q
                  exact ⟨l, wipe_holds q⟩
              cases b with
              | false =>
                refine iteF ?_
                exact ⟨wipeV r3 T, F5, acc, toW t5, h⟩
              | true =>
                refine iteT ⟨r3, F5, S5, ?_⟩
                have h : Pw (match M.bnd (intE f) frz r3 with
                  | .no => .no
                  | .ex e r3 => .no
                  | .ok y r3 => if acc.length < sizeLine then lcN s.nth tg T tt (intE f) m (i + 1) (acc ++ [y]) (wipeV r3 T) else .no) := h
                cases ef : M.bnd (intE f) frz r3 with
                | no => rw [ef] at h; exact h.elim
                | ex z r4 => rw [ef] at h; exact h.elim
                | ok dy r4 =>
                  rw [ef] at h
                  dsimp only at h
                  obtain ⟨x1, k, ef1, ep, rfl⟩ := intE_ok ef
                  rw [ef1]
                  intro yv H6 F6 S6 st6 tz
                  have pk := peek_rel S6 tz ep
                  have ey := pk.int
                  subst ey
                  have t7 : Tz w K α (Own α r σ) H F H1 F1 V D acc r4 σ3 H6 F6 := t5.next so.stay S6 (st6.more fun a z => .inl z) fun _ z => z
                  split at h
                  · rename_i hz
                    obtain ⟨SB, n, e1, e2, e3, e4, e5⟩ := t7.tr
                    have hlen : acc.length + 1 < 4000 := by
                      cases el : lcN s.nth tg T tt (intE f) m (i + 1) (acc ++ [.int k]) (wipeV r4 T) with
                      | no => rw [el] at h; exact h.elim
                      | ex z r5 => rw [el] at h; exact h.elim
                      | ok acc' r5 =>
                        have q := lcN_len el
                        rw [el] at h
                        have h : Aft K α σ (Own α r σ) H F W (ssP (.ok acc' r5) r1 T) Q := h
                        unfold ssP at h
                        dsimp only at h
                        split at h
                        · rw [List.length_append, List.length_singleton] at q; omega
                        · exact h.elim
                    obtain ⟨g1, g2, g3, g4⟩ := SetG.grow (k := k) t7.sr e1 e2 e3 e4 e5
                    refine ⟨SB, n, k, rfl, e1, by unfold scanBound; omega, ?_⟩
                    exact ⟨wipeV r4 T, F6, acc ++ [.int k], toW ⟨g1, so.stay _ _ _ _ t7.v g3, g2, t7.stay.trans g3, t7.step.trans g4 fun _ z => z⟩, h⟩
                  · exact h.elim
section
variable {X : Cx} {elt tg iter c : Expr} {ifs : List Expr} {scope : Scope} {own : List (Str × Nat)} {pos spos : Pos} {it : M Src} {g : TG} {tgf : PyData → En → Option En} {tt : M Bool} {f : M Rv}
theorem ev_ss {p cpos : Pos} {T : List Nat} (hgl : Gl X "sorted") (hm : X.mg "sorted" = none) (hT : own.map (·.2) = T) (hc : X.calm = true) (hN : X.N.Nodup) (hi : PI X tg iter (tI K α W it)) (ok : BlkOk X.N X.env.scope scope own)
    (hg : ∀ (s : Shared) (H : Hp) (C : Addr) (cl : List (Str × Addr)) (fp : List Addr), PG (X.blk s H scope (compEnvC scope cl C X.env) fp) tg g) (ht : ∀ (s : Shared) (H : Hp) (C : Addr) (cl : List (Str × Addr)) (fp : List Addr), PTs (X.blk s H scope (compEnvC scope cl C X.env) fp) ifs (tT K α W0 tt))
    (he : ∀ (s : Shared) (H : Hp) (C : Addr) (cl : List (Str × Addr)) (fp : List Addr), PE (X.blk s H scope (compEnvC scope cl C X.env) fp) elt (tE K α W0 f)) (htg : TgOk K α g tgf T) (hs : ∀ x, foldedSetIterable iter X.env x = pure x := by intro _; rfl)
    (hst : starEach [Expr.SetComp elt [⟨tg, iter, ifs, 0⟩] scope pos] X.env = (false, eval (.SetComp elt [⟨tg, iter, ifs, 0⟩] scope pos) X.env) :: starEach [] X.env := by rfl) :
    PE X (.Call (.Name "sorted" p) [.SetComp elt [⟨tg, iter, ifs, 0⟩] scope pos] [] cpos) (tE K α W (ssE it tgf T tt f)) :=
  pe_weak (pe_callB (cr_sortedSet hc) hgl hm (by decide +kernel) (pa_cons (pe_sc hc hN hi ok hg ht he hs) pa_nil hst) (by decide) (by decide) hst rfl) fun σ H Q q => by
    rw [hT]
    exact ss_ok htg q
end
end Mi

/-! Mi34.lean -/
set_option Elab.async false
set_option linter.all false
set_option maxRecDepth 100000
/-! x += e, xs[i] += e (ints) -/
namespace Mi
open PySem L2 PySem.Spec PyProof.Rows
variable {K : PySem.W.Frag} {α : List Addr} {r r' : En} {σ : L2.St} {H H' : Hp} {F F' : Addr → Prop} {W : L2.WX}
def augF (a : PyData) (i : Nat) (x : Rv) : Stm := fun r => match a, peek r x with
  | .int c, some (.int b) => .nx (put r i (.val (.int (c + b))))
  | _, _ => .no
def augN (i : Nat) (f : M Rv) : Stm := fun r => match r.vs[i]? with
  | some (some (.val a)) => ofM f (fun x => augF a i x) r
  | _ => .no
theorem augN_ok {i : Nat} {f : M Rv} {D : Ends} (h : tS K α W (augN i f) D σ H) : tAug i (tE K α W f) (ipI fun i j => i + j) D σ H := by
  obtain ⟨r, F, S, h⟩ := h
  unfold augN at h
  cases e : r.vs[i]? with
  | none => rw [e] at h; exact h.elim
  | some o =>
    cases o with
    | none => rw [e] at h; exact h.elim
    | some s =>
      cases s with
      | own _ => rw [e] at h; exact h.elim
      | bor _ => rw [e] at h; exact h.elim
      | val a =>
        rw [e] at h
        dsimp only at h
        obtain ⟨v, hv, fa⟩ := S.slot i _ e
        refine ⟨v, hv, tE_mono (ofM_E S h) fun y H1 ⟨r1, F1, x, S1, st1, t1, h1⟩ => ?_⟩
        cases ep : peek r1 x with
        | none => cases a <;> (simp only [augF, ep] at h1; exact h1.elim)
        | some d =>
          cases a with
          | int a =>
            cases d with
            | int b =>
              simp only [augF, ep] at h1
              have fa : Fr K H F v (.int a) := fa
              cases fa
              have q := (peek_rel S1 t1 ep).int
              subst q
              refine ⟨a, b, rfl, rfl, ?_⟩
              refine h1 _ H1 F1 (S1.put (s := .val (.int (a + b))) (.int _) fun o a z => nomatch z) (Step.refl fun z q => ?_)
              rcases put_own q with q | ⟨⟨o, q⟩, _⟩
              · exact .inl q
              · cases q
            | _ => simp only [augF, ep] at h1; exact h1.elim
          | _ => simp only [augF] at h1; exact h1.elim
theorem sv_augN {X : Cx} {e : Expr} {i : Nat} {x : Str} {pos' pos : Pos} {f : M Rv} (hN : X.N.Nodup) (hi : X.N[i]? = some x) (hx : Loc X.env.scope x) (he : PE X e (tE K α W f)) (hf : X.fn x = true ∨ X.env.scope.names.lookup x = some .local := by first | exact .inl rfl | exact .inr rfl | assumption) :
    PS X (.AugAssign (.Name x pos') .Add e pos) (tS K α W (augN i f)) := ps_weak (ps_aug hN hi hx he ip_add hf) fun D σ H h => augN_ok h
/-! xs[i] += e -/
def rGetL (K : PySem.W.Frag) : V → V → Hp → VK → Prop := fun x y H Q => ∃ p xs i v, x = .ref p ∧ y = .int i ∧ SqL K H p xs ∧ 0 ≤ i ∧ xs[i.toNat]? = some v ∧ Q v H
theorem get_list {X : Cx} : PGet X (rGetL X.K) := by
  intro pins s σ H x y v u Q I rx ry h
  obtain ⟨p, xs, i, z, rfl, rfl, hq, h0, he, q⟩ := h
  cases rx
  obtain ⟨t, rfl⟩ := ry
  obtain ⟨its, r, pl, hz⟩ := I.list hq
  obtain ⟨w, ew, rw'⟩ := r.get he
  have hl := r.length
  have hlt : i.toNat < its.length := (List.getElem?_eq_some_iff.mp ew).1
  have hn := line63
  exact wpAny_getItem_list pl.isList h0 (by omega) (by simpa using ew) ⟨z, H, I, rw', q⟩
def auF (o i x : Rv) (r : En) : Out := match o with
  | .at l => match look r l, peek r i, peek r x with
    | some (.live (.lst ds)), some (.int k), some (.int b) => if 0 ≤ k then (match ds[k.toNat]? with
      | some (.int a) => .nx (setLo r l (.live (.lst (ds.set k.toNat (.int (a + b))))))
      | _ => .no) else .no
    | _, _, _ => .no
  | _ => .no
/-- the index a constant, the added one too (nothing is changed between) -/
def auS (j : Nat) (k b : Int) : Stm := fun r => ofM (nmE j) (fun o => auF o (.val (.int k)) (.val (.int b))) r
theorem auS_ok {j : Nat} {k b : Int} {D : Ends} (h : tS K α W (auS j k b) D σ H) : tAugS (tE K α W (nmE j)) (tE K α W (kE (.int k))) (tE K α W (kE (.int b))) (rGetL K) (ipI fun i j => i + j) rSetL D σ H := by
  obtain ⟨r, F, S, h⟩ := h
  refine tE_mono (ofM_E S h) fun vo H1 ⟨r1, F1, o, S1, st1, t1, h1⟩ => ?_
  refine ⟨r1, F1, S1, fun vi H2 F2 S2 st2 t2 => ?_⟩
  have e := (show Fr K H2 F2 vi (.int k) from t2)
  cases e
  have h2 : AftS K α (OwnT α r1 σ o vo) H2 F2 W (auF o (.val (.int k)) (.val (.int b)) r1) D := AftS.step h1 (st2.widen (P := OwnT α r1 σ o vo) (P' := OwnT α r1 σ o vo) (fun _ z => .inl z) fun _ z => .inr z) fun _ z => z
  cases o with
  | val d => exact h2.elim
  | own o => exact h2.elim
  | «at» l =>
    unfold auF at h2
    simp only at h2
    split at h2
    · rename_i ds k' b' q1 q2 q3
      have q2 : some (PyData.int k) = some (.int k') := q2
      have q3 : some (PyData.int b) = some (.int b') := q3
      injection q2 with q2; injection q2 with q2; subst q2
      injection q3 with q3; injection q3 with q3; subst q3
      split at h2
      · rename_i hk
        split at h2
        · rename_i a qa
          obtain ⟨ad, rfl, ha⟩ := t1
          obtain ⟨a', u, e1, hh, xs, rfl, fx⟩ := content_rel S2 (x := .at l) (b := .live (.lst ds)) ⟨ad, rfl, ha⟩ q1
          cases e1
          obtain ⟨v, ev, fv⟩ := fx.get qa
          cases fv
          refine ⟨ad, xs, k, .int a, rfl, rfl, .inl (.inl hh), hk, ev, ?_⟩
          refine ⟨r1, F2, S2, fun vb H3 F3 S3 st3 t3 => ?_⟩
          have eb := (show Fr K H3 F3 vb (.int b) from t3)
          cases eb
          refine ⟨a, b, rfl, rfl, ?_⟩
          obtain ⟨a2, u2, e2, hh3, xs3, rfl, fx3⟩ := content_rel S3 (x := .at l) (b := .live (.lst ds)) ⟨ad, rfl, ha⟩ q1
          cases e2
          obtain ⟨S', st, ow⟩ := S3.write q1 ha (o' := .lst (ds.set k.toNat (.int (a + b)))) (u' := .lst (xs3.set k.toNat (.int (a + b)))) ⟨_, rfl, fx3.set (.int _) k.toNat⟩
          have hlen : k.toNat < xs3.length := by
            rw [fx3.len]
            exact (List.getElem?_eq_some_iff.mp qa).1
          refine ⟨ad, xs3, k, k.toNat, rfl, rfl, hh3, by unfold ixN; rw [if_pos hk, if_pos (by omega)], ?_⟩
          have h3 : AftS K α (OwnT α r1 σ (.at l) (.ref ad)) H3 F3 W (.nx (setLo r1 l (.live (.lst (ds.set k.toNat (.int (a + b))))))) D := AftS.step h2 (st3.widen (P := OwnT α r1 σ (.at l) (.ref ad)) (P' := OwnT α r1 σ (.at l) (.ref ad)) (fun _ z => .inl z) fun _ z => .inr z) fun _ z => z
          exact h3 σ _ F3 S' (st.widen (fun _ z => .inl z) fun z q => .inl q)
        · exact h2.elim
      · exact h2.elim
    · exact h2.elim
theorem sv_auS {X : Cx} {o ke be : Expr} {j : Nat} {k b : Int} {tpos pos : Pos} (ho : PE X o (tE X.K α W (nmE j))) (hk : PE X ke (tE X.K α W (kE (.int k)))) (hb : PE X be (tE X.K α W (kE (.int b))))
    (ha : ∀ ov iv new, augStore ke ov iv new = (do holding [new, ov, iv] (setItem ov iv new); release [new, ov, iv] []; pure .next) := by intros; rfl) : PS X (.AugAssign (.Subscript o ke tpos) .Add be pos) (tS X.K α W (auS j k b)) :=
  ps_weak (ps_augS ho hk get_list hb ip_add set_list ha) fun D σ H h => auS_ok h
end Mi

/-! Mi35.lean -/
set_option Elab.async false
set_option linter.all false
set_option maxRecDepth 100000
/-! int(text) -/
namespace Mi
open PySem L2 PySem.Spec PyProof.Rows
variable {K : PySem.W.Frag}
def gIntX (d : PyData) : Option Rv := match d with
  | .str a => gIntS (.str a)
  | d => gIntB d
theorem o_intX : Op1 K (fun x H Q => (∃ a n, [x] = [.str a] ∧ PySem.intText? a = some n ∧ a.length ≤ 640 ∧ Q (.int n) H) ∨ ((∃ i, [x] = [.int i] ∧ Q (.int i) H) ∨ ∃ k, [x] = [.bl k] ∧ Q (.int (if k then 1 else 0)) H)) gIntX := fun H F x d z Q px h q => by
  cases d with
  | str y => exact .inl (o_intS H F x _ z Q px h q)
  | _ => exact .inr (o_intB H F x _ z Q px h q)
end Mi

/-! Lw10.lean -/
set_option Elab.async false
set_option linter.all false
set_option maxRecDepth 100000
namespace Lw
open PySem PySem.Spec PyProof.Rows L2 Mi
def topS (i : Nat) : Stmt := PySem.Challenge.pw_fdwires_k10_normal_forms.main.body.getD i (.Pass ⟨0, 0, 0, 0⟩)
/-- the names of the top that are read -/
structure Nm (mg : Str → Option Value) : Prop where
  b_len : mg "len" = none
  b_list : mg "list" = none
  b_tuple : mg "tuple" = none
  b_range : mg "range" = none
  b_enumerate : mg "enumerate" = none
  b_int : mg "int" = none
  b_str : mg "str" = none
  b_max : mg "max" = none
  b_min : mg "min" = none
  b_all : mg "all" = none
  b_sorted : mg "sorted" = none
  b_repr : mg "repr" = none
  b_isinstance : mg "isinstance" = none
  b_type : mg "type" = none
  c_DESCRIPTORS : ∃ t, mg "DESCRIPTORS" = some (.int 10 t)
  c_DIGITS : ∃ t, mg "DIGITS" = some (.str "0123456789" t)
  c_MOST_LETTERS : ∃ t, mg "MOST_LETTERS" = some (.int 8 t)
  c_MOST_WORDS : ∃ t, mg "MOST_WORDS" = some (.int 40 t)
/-! _law_draw -/
abbrev s__law_draw : Stmt := topS 20
theorem sc__law_draw : FnScope ["source", "span", "digit", "mixed"] ["source", "span"] (defScope s__law_draw) := ⟨rfl, rfl, rfl, by decide +kernel, rfl, by decide +kernel, by decide +kernel⟩
def b__law_draw : Stm := seqS (ifS (tstB (binE gGt (binE gIx (nmE 0) (kE (.int 0))) (kE (.int 0)))) (seqS (setS 2 (binE gMod (binE gIx (nmE 0) (kE (.int 0))) (nmE 1))) <| seqS (stoS (binE gDiv (binE gIx (nmE 0) (kE (.int 0))) (nmE 1)) 0 (kE (.int 0))) <| retS (nmE 2)) (nxS)) <| seqS (stoS (binE gAdd (binE gIx (nmE 0) (kE (.int 2))) (kE (.int 1))) 0 (kE (.int 2))) <| seqS (setS 3 (binE gMod (binE gPow (binE gAdd (binE gIx (nmE 0) (kE (.int 1))) (binE gMul (kE (.int 950993)) (binE gIx (nmE 0) (kE (.int 2))))) (kE (.int 3))) (binE gAdd (binE gPow (kE (.int 10)) (kE (.int 38))) (kE (.int 133))))) <| seqS (setS 3 (binE gMod (binE gPow (binE gAdd (nmE 3) (binE gMul (kE (.int 107)) (binE gIx (nmE 0) (kE (.int 2))))) (kE (.int 3))) (binE gAdd (binE gPow (kE (.int 10)) (kE (.int 37))) (kE (.int 43))))) <| retS (binE gMod (binE gDiv (nmE 3) (kE (.int 65699))) (nmE 1))
abbrev G__law_draw : List Ag → FR := runF 2 4 b__law_draw
theorem k__law_draw {P : Program} {w : World} {K : PySem.W.Frag} {mg : Str → Option Value} {base : Heap} {f : Addr} {fd : FuncData} (F : Fun K "_law_draw" "_law_draw" s__law_draw f fd) (N : Nm mg)  : FnG P w K mg base 1 f fd ["source", "span"] (spF K 2 4 b__law_draw) :=
  fg_of F sc__law_draw rfl rfl fun cdv A outer s H β E hr hgd tk po => sv_cons (sv_if (tv_cmp op_gt (nomark _) o_cmp (ev_ix ix_seq (fun _ _ => rfl) o_ix (ev_nm 0 (pv 0)) (ev_int)) (ev_int)) (sv_cons (sv_set (i := 2) sc__law_draw.nd rfl (by first | exact Or.inl rfl | exact Or.inr rfl) (ev_bin op_mod o_mod (ev_ix ix_seq (fun _ _ => rfl) o_ix (ev_nm 0 (pv 0)) (ev_int)) (ev_nm 1 (pv 1)))) <| sv_cons (sv_sto (ev_bin op_fdivW o_div (ev_ix ix_seq (fun _ _ => rfl) o_ix (ev_nm 0 (pv 0)) (ev_int)) (ev_nm 1 (pv 1))) (pg_sub (ev_nm 0 (pv 0)) (ev_int) set_list)) <| sv_one (sv_ret (ev_nm 2 (pv 2)))) (sv_nil)) <| sv_cons (sv_sto (ev_bin op_addX o_add (ev_ix ix_seq (fun _ _ => rfl) o_ix (ev_nm 0 (pv 0)) (ev_int)) (ev_int)) (pg_sub (ev_nm 0 (pv 0)) (ev_int) set_list)) <| sv_cons (sv_set (i := 3) sc__law_draw.nd rfl (by first | exact Or.inl rfl | exact Or.inr rfl) (ev_bin op_mod o_mod (ev_bin op_powW o_pow (ev_bin op_addX o_add (ev_ix ix_seq (fun _ _ => rfl) o_ix (ev_nm 0 (pv 0)) (ev_int)) (ev_bin op_mulW o_mul (ev_int) (ev_ix ix_seq (fun _ _ => rfl) o_ix (ev_nm 0 (pv 0)) (ev_int)))) (ev_int)) (ev_bin op_addX o_add (ev_bin op_powW o_pow (ev_int) (ev_int)) (ev_int)))) <| sv_cons (sv_set (i := 3) sc__law_draw.nd rfl (by first | exact Or.inl rfl | exact Or.inr rfl) (ev_bin op_mod o_mod (ev_bin op_powW o_pow (ev_bin op_addX o_add (ev_nm 3 (pv 3)) (ev_bin op_mulW o_mul (ev_int) (ev_ix ix_seq (fun _ _ => rfl) o_ix (ev_nm 0 (pv 0)) (ev_int)))) (ev_int)) (ev_bin op_addX o_add (ev_bin op_powW o_pow (ev_int) (ev_int)) (ev_int)))) <| sv_one (sv_ret (ev_bin op_mod o_mod (ev_bin op_fdivW o_div (ev_nm 3 (pv 3)) (ev_int)) (ev_nm 1 (pv 1))))
/-! _law_word_here -/
abbrev s__law_word_here : Stmt := topS 21
theorem sc__law_word_here : FnScope ["source", "size", "one", "two", "begin", "drawn", "name_here", "some"] ["source", "size"] (defScope s__law_word_here) := ⟨rfl, rfl, rfl, by decide +kernel, rfl, by decide +kernel, by decide +kernel⟩
def b__law_word_here : Stm := seqS (parS 2 3 (consR (unE gStrI (callE G__law_draw (consR (nmE 0) (consR (nmE 1) (nilR))))) (consR (unE gStrI (callE G__law_draw (consR (nmE 0) (consR (nmE 1) (nilR))))) (nilR)))) <| seqS (setS 4 (callE G__law_draw (consR (nmE 0) (consR (kE (.int 26)) (nilR))))) <| seqS (setS 5 (slE (kE (.str "abcdefghijklmnopqrstuvwxyz")) (some (nmE 4)) (some (binE gAdd (binE gAdd (nmE 4) (kE (.int 1))) (callE G__law_draw (consR (nmE 0) (consR (kE (.int 8)) (nilR)))))))) <| seqS (setS 6 (binE gIx (lstE (consL (kE (.str "f")) (consL (kE (.str "g")) (consL (kE (.str "abcdefgh")) (consL (nmE 5) (nilL)))))) (callE G__law_draw (consR (nmE 0) (consR (kE (.int 4)) (nilR)))))) <| seqS (setS 7 (binE gAdd (repE (lstE (consL (binE gAdd (binE gAdd (nmE 2) (kE (.str ">&"))) (nmE 3)) (nilL))) (kE (.int 3))) (lstE (consL (binE gAdd (nmE 2) (kE (.str ">&-"))) (consL (binE gAdd (binE gAdd (nmE 2) (kE (.str ">"))) (nmE 6)) (consL (binE gAdd (binE gAdd (nmE 2) (kE (.str "<"))) (nmE 6)) (nilL))))))) <| retS (binE gIx (nmE 7) (callE G__law_draw (consR (nmE 0) (consR (kE (.int 6)) (nilR)))))
abbrev G__law_word_here : List Ag → FR := runF 2 8 b__law_word_here
theorem k__law_word_here {P : Program} {w : World} {K : PySem.W.Frag} {mg : Str → Option Value} {base : Heap} {f : Addr} {fd : FuncData} (F : Fun K "_law_word_here" "_law_word_here" s__law_word_here f fd) (N : Nm mg) (D__law_draw : Def P w K mg base "_law_draw" 1 2 4 b__law_draw) : FnG P w K mg base 2 f fd ["source", "size"] (spF K 2 8 b__law_word_here) :=
  fg_of F sc__law_word_here rfl rfl fun cdv A outer s H β E hr hgd tk po => sv_cons (sv_par rfl sc__law_word_here.nd rfl rfl (by decide) rfl rfl (ar_cons (ev_t1 call_str_int o_strI (by rfl) N.b_str (by decide +kernel) (ev_callD (D__law_draw.mono (by decide)) hr hgd tk (by rfl) (by decide) (ar_cons (ev_nm 0 (pv 0)) (ar_cons (ev_nm 1 (pv 1)) (ar_nil))))) (ar_cons (ev_t1 call_str_int o_strI (by rfl) N.b_str (by decide +kernel) (ev_callD (D__law_draw.mono (by decide)) hr hgd tk (by rfl) (by decide) (ar_cons (ev_nm 0 (pv 0)) (ar_cons (ev_nm 1 (pv 1)) (ar_nil))))) (ar_nil))) (by rfl)) <| sv_cons (sv_set (i := 4) sc__law_word_here.nd rfl (by first | exact Or.inl rfl | exact Or.inr rfl) (ev_callD (D__law_draw.mono (by decide)) hr hgd tk (by rfl) (by decide) (ar_cons (ev_nm 0 (pv 0)) (ar_cons (ev_int) (ar_nil))))) <| sv_cons (sv_set (i := 5) sc__law_word_here.nd rfl (by first | exact Or.inl rfl | exact Or.inr rfl) (ev_slLH (ev_str) (ev_nm 4 (pv 4)) (ev_bin op_addX o_add (ev_bin op_addX o_add (ev_nm 4 (pv 4)) (ev_int)) (ev_callD (D__law_draw.mono (by decide)) hr hgd tk (by rfl) (by decide) (ar_cons (ev_nm 0 (pv 0)) (ar_cons (ev_int) (ar_nil))))))) <| sv_cons (sv_set (i := 6) sc__law_word_here.nd rfl (by first | exact Or.inl rfl | exact Or.inr rfl) (ev_ix ix_seq (fun _ _ => rfl) o_ix (ev_lst (al_cons (ev_str) (al_cons (ev_str) (al_cons (ev_str) (al_cons (ev_nm 5 (pv 5)) (al_nil)))))) (ev_callD (D__law_draw.mono (by decide)) hr hgd tk (by rfl) (by decide) (ar_cons (ev_nm 0 (pv 0)) (ar_cons (ev_int) (ar_nil)))))) <| sv_cons (sv_set (i := 7) sc__law_word_here.nd rfl (by first | exact Or.inl rfl | exact Or.inr rfl) (ev_bin op_addX o_add (ev_rep (ev_lst (al_cons (ev_bin op_addX o_add (ev_bin op_addX o_add (ev_nm 2 (pv 2)) (ev_str)) (ev_nm 3 (pv 3))) (al_nil))) (ev_int)) (ev_lst (al_cons (ev_bin op_addX o_add (ev_nm 2 (pv 2)) (ev_str)) (al_cons (ev_bin op_addX o_add (ev_bin op_addX o_add (ev_nm 2 (pv 2)) (ev_str)) (ev_nm 6 (pv 6))) (al_cons (ev_bin op_addX o_add (ev_bin op_addX o_add (ev_nm 2 (pv 2)) (ev_str)) (ev_nm 6 (pv 6))) (al_nil))))))) <| sv_one (sv_ret (ev_ix ix_seq (fun _ _ => rfl) o_ix (ev_nm 7 (pv 7)) (ev_callD (D__law_draw.mono (by decide)) hr hgd tk (by rfl) (by decide) (ar_cons (ev_nm 0 (pv 0)) (ar_cons (ev_int) (ar_nil))))))
/-! _law_some_words -/
abbrev s__law_some_words : Stmt := topS 22
theorem sc__law_some_words : FnScope ["source", "most", "size", "lap"] ["source", "most"] (defScope s__law_some_words) := ⟨rfl, rfl, rfl, by decide +kernel, rfl, by decide +kernel, by decide +kernel⟩
def b__law_some_words : Stm := seqS (setS 2 (binE gIx (lstE (consL (kE (.int 3)) (consL (kE (.int 5)) (consL (kE (.int 10)) (nilL))))) (callE G__law_draw (consR (nmE 0) (consR (kE (.int 3)) (nilR)))))) <| retS (lcE (rng1 (binE gIx (lstE (consL (callE G__law_draw (consR (nmE 0) (consR (binE gAdd (nmE 1) (kE (.int 1))) (nilR)))) (consL (nmE 1) (nilL)))) (callE G__law_draw (consR (nmE 0) (consR (kE (.int 2)) (nilR)))))) (fun d r => some (put r 3 (.val d))) [3] (yesB) (callE G__law_word_here (consR (nmE 0) (consR (nmE 2) (nilR)))))
abbrev G__law_some_words : List Ag → FR := runF 2 4 b__law_some_words
theorem k__law_some_words {P : Program} {w : World} {K : PySem.W.Frag} {mg : Str → Option Value} {base : Heap} {f : Addr} {fd : FuncData} (F : Fun K "_law_some_words" "_law_some_words" s__law_some_words f fd) (N : Nm mg) (D__law_draw : Def P w K mg base "_law_draw" 1 2 4 b__law_draw) (D__law_word_here : Def P w K mg base "_law_word_here" 2 2 8 b__law_word_here) : FnG P w K mg base 3 f fd ["source", "most"] (spF K 2 4 b__law_some_words) :=
  fg_of F sc__law_some_words rfl rfl fun cdv A outer s H β E hr hgd tk po => sv_cons (sv_set (i := 2) sc__law_some_words.nd rfl (by first | exact Or.inl rfl | exact Or.inr rfl) (ev_ix ix_seq (fun _ _ => rfl) o_ix (ev_lst (al_cons (ev_int) (al_cons (ev_int) (al_cons (ev_int) (al_nil))))) (ev_callD (D__law_draw.mono (by decide)) hr hgd tk (by rfl) (by decide) (ar_cons (ev_nm 0 (pv 0)) (ar_cons (ev_int) (ar_nil)))))) <| sv_one (sv_ret (ev_lc (own := [("lap", 3)]) (T := [3]) rfl rfl sc__law_some_words.nd (iv_rng1 (by rfl) N.b_range (ev_ix ix_seq (fun _ _ => rfl) o_ix (ev_lst (al_cons (ev_callD (D__law_draw.mono (by decide)) hr hgd tk (by rfl) (by decide) (ar_cons (ev_nm 0 (pv 0)) (ar_cons (ev_bin op_addX o_add (ev_nm 1 (pv 1)) (ev_int)) (ar_nil)))) (al_cons (ev_nm 1 (pv 1)) (al_nil)))) (ev_callD (D__law_draw.mono (by decide)) hr hgd tk (by rfl) (by decide) (ar_cons (ev_nm 0 (pv 0)) (ar_cons (ev_int) (ar_nil)))))) (blkOk_by (own := [("lap", 3)]) (N := ["source", "most", "size", "lap"]) (sc := defScope s__law_some_words) (by decide +kernel)) (fun _ _ _ _ _ => pg_name (i := 3) sc__law_some_words.nd rfl (by first | exact Or.inl rfl | exact Or.inr rfl)) (fun _ _ _ _ _ => ts_nil) (fun _ _ _ _ _ => ev_callD (D__law_word_here.mono (by decide)) hr hgd takes0 (by rfl) (by decide) (ar_cons (ev_nm 0 (pv 0)) (ar_cons (ev_nm 2 (pv 2)) (ar_nil)))) (tg_name 3)))
/-! is_list -/
abbrev s_is_list : Stmt := topS 7
theorem sc_is_list : FnScope ["value"] ["value"] (defScope s_is_list) := ⟨rfl, rfl, rfl, by decide +kernel, rfl, by decide +kernel, by decide +kernel⟩
def b_is_list : Stm := retS (unE (gTyEq "list") (nmE 0))
abbrev G_is_list : List Ag → FR := runF 1 1 b_is_list
theorem k_is_list {P : Program} {w : World} {K : PySem.W.Frag} {mg : Str → Option Value} {base : Heap} {f : Addr} {fd : FuncData} (F : Fun K "is_list" "is_list" s_is_list f fd) (N : Nm mg)  : FnG P w K mg base 1 f fd ["value"] (spF K 1 1 b_is_list) :=
  fg_of F sc_is_list rfl rfl fun cdv A outer s H β E hr hgd tk po => sv_one (sv_ret (ev_tyEq PySem.TypeEq.meta_list (by rfl) N.b_type (by rfl) N.b_list (by decide +kernel) (ev_nm 0 (pv 0))))
/-! is_name -/
abbrev s_is_name : Stmt := topS 8
theorem sc_is_name : FnScope ["value", "letter"] ["value"] (defScope s_is_name) := ⟨rfl, rfl, rfl, by decide +kernel, rfl, by decide +kernel, by decide +kernel⟩
def b_is_name : Stm := seqS (ifS (orB (notB (tstT (unE (gIsi "str") (nmE 0)))) (notB (tstB (chE gLe gLe (kE (.int 1)) (unE gLen (nmE 0)) (kE (.int 8)))))) (retS (kE (.bool false))) (nxS)) <| retS (unE gAll (lcE (sqI (nmE 0)) (fun d r => some (put r 1 (.val d))) [1] (yesB) (chE gLeS gLeS (kE (.str "a")) (nmE 1) (kE (.str "z")))))
abbrev G_is_name : List Ag → FR := runF 1 2 b_is_name
theorem k_is_name {P : Program} {w : World} {K : PySem.W.Frag} {mg : Str → Option Value} {base : Heap} {f : Addr} {fd : FuncData} (F : Fun K "is_name" "is_name" s_is_name f fd) (N : Nm mg)  : FnG P w K mg base 1 f fd ["value"] (spF K 1 2 b_is_name) :=
  fg_of F sc_is_name rfl rfl fun cdv A outer s H β E hr hgd tk po => sv_cons (sv_if ((tv_or (tv_not (tv_truth (ev_isi isi_str (by rfl) N.b_isinstance (by rfl) N.b_str (by decide +kernel) (ev_nm 0 (pv 0))))) (tv_or1 (tv_not (tv_chain op_le op_le o_cmp o_cmp (ev_int) (ev_b1 call_len o_len (by rfl) N.b_len (by decide +kernel) (ev_nm 0 (pv 0))) (ev_gint (by rfl) N.c_MOST_LETTERS))))).pt) (sv_one (sv_ret (ev_bl))) (sv_nil)) <| sv_one (sv_ret (ev_b1 (cr_all rfl) o_all (by rfl) N.b_all (by decide +kernel) (ev_lc (own := [("letter", 1)]) (T := [1]) rfl rfl sc_is_name.nd (iv_sq (ev_nm 0 (pv 0))) (blkOk_by (own := [("letter", 1)]) (N := ["value", "letter"]) (sc := defScope s_is_name) (by decide +kernel)) (fun _ _ _ _ _ => pg_name (i := 1) sc_is_name.nd rfl (by first | exact Or.inl rfl | exact Or.inr rfl)) (fun _ _ _ _ _ => ts_nil) (fun _ _ _ _ _ => ev_chain op_le_str op_le_str o_leS o_leS (ev_str) (ev_nm 1 (pv 1)) (ev_str)) (tg_name 1))))
/-! redirection_step -/
abbrev s_redirection_step : Stmt := topS 13
theorem sc_redirection_step : FnScope ["value", "number", "sign", "rest"] ["value"] (defScope s_redirection_step) := ⟨rfl, rfl, rfl, by decide +kernel, rfl, by decide +kernel, by decide +kernel⟩
def b_redirection_step : Stm := seqS (ifS (orB (notB (tstT (unE (gIsi "str") (nmE 0)))) (orB (tstB (binE gLt (unE gLen (nmE 0)) (kE (.int 3)))) (tstB (binE gNotIn (binE gIx (nmE 0) (kE (.int 0))) (kE (.str "0123456789")))))) (retS (kE .none)) (nxS)) <| seqS (setS 1 (unE gIntX (binE gIx (nmE 0) (kE (.int 0))))) <| seqS (setS 2 (binE gIx (nmE 0) (kE (.int 1)))) <| seqS (setS 3 (slE (nmE 0) (some (kE (.int 2))) none)) <| seqS (ifS (andB (tstB (binE gIn (nmE 2) (tupE (consL (kE (.str "<")) (consL (kE (.str ">")) (nilL)))))) (tstT (callE G_is_name (consR (nmE 3) (nilR))))) (retS (tupE (consL (kE (.str "open")) (consL (nmE 1) (consL (nmE 3) (nilL)))))) (nxS)) <| seqS (ifS (andB (tstB (binE gEq (nmE 2) (kE (.str ">")))) (tstB (binE gEq (nmE 3) (kE (.str "&-"))))) (retS (tupE (consL (kE (.str "close")) (consL (nmE 1) (nilL))))) (nxS)) <| seqS (ifS (andB (tstB (binE gEq (nmE 2) (kE (.str ">")))) (andB (tstB (binE gEq (unE gLen (nmE 3)) (kE (.int 2)))) (andB (tstB (binE gEq (binE gIx (nmE 3) (kE (.int 0))) (kE (.str "&")))) (tstB (binE gIn (binE gIx (nmE 3) (kE (.int 1))) (kE (.str "0123456789"))))))) (retS (tupE (consL (kE (.str "copy")) (consL (unE gIntX (binE gIx (nmE 3) (kE (.int 1)))) (consL (nmE 1) (nilL)))))) (nxS)) <| retS (kE .none)
abbrev G_redirection_step : List Ag → FR := runF 1 4 b_redirection_step
theorem k_redirection_step {P : Program} {w : World} {K : PySem.W.Frag} {mg : Str → Option Value} {base : Heap} {f : Addr} {fd : FuncData} (F : Fun K "redirection_step" "redirection_step" s_redirection_step f fd) (N : Nm mg) (D_is_name : Def P w K mg base "is_name" 1 1 2 b_is_name) : FnG P w K mg base 2 f fd ["value"] (spF K 1 4 b_redirection_step) :=
  fg_of F sc_redirection_step rfl rfl fun cdv A outer s H β E hr hgd tk po => sv_cons (sv_if ((tv_or (tv_not (tv_truth (ev_isi isi_str (by rfl) N.b_isinstance (by rfl) N.b_str (by decide +kernel) (ev_nm 0 (pv 0))))) (tv_or (tv_cmp op_lt (nomark _) o_cmp (ev_b1 call_len o_len (by rfl) N.b_len (by decide +kernel) (ev_nm 0 (pv 0))) (ev_int)) (tv_or1 (tv_cmp (op_notInX (u65 hr)) (by rfl) o_notIn (ev_ix ix_seq (fun _ _ => rfl) o_ix (ev_nm 0 (pv 0)) (ev_int)) (ev_gstr (by rfl) N.c_DIGITS))))).pt) (sv_one (sv_ret (ev_non))) (sv_nil)) <| sv_cons (sv_set (i := 1) sc_redirection_step.nd rfl (by first | exact Or.inl rfl | exact Or.inr rfl) (ev_t1 (L2.CallR.or call_int_str call_int1) o_intX (by rfl) N.b_int (by decide +kernel) (ev_ix ix_seq (fun _ _ => rfl) o_ix (ev_nm 0 (pv 0)) (ev_int)))) <| sv_cons (sv_set (i := 2) sc_redirection_step.nd rfl (by first | exact Or.inl rfl | exact Or.inr rfl) (ev_ix ix_seq (fun _ _ => rfl) o_ix (ev_nm 0 (pv 0)) (ev_int))) <| sv_cons (sv_set (i := 3) sc_redirection_step.nd rfl (by first | exact Or.inl rfl | exact Or.inr rfl) (ev_slL (ev_nm 0 (pv 0)) (ev_int))) <| sv_cons (sv_if ((tv_and (tv_cmp (op_inX (u65 hr)) (by rfl) o_in (ev_nm 2 (pv 2)) (ev_tup (al_cons (ev_str) (al_cons (ev_str) (al_nil))))) (tv_and1 (tv_truth (ev_callD (D_is_name.mono (by decide)) hr hgd tk (by rfl) (by decide) (ar_cons (ev_nm 3 (pv 3)) (ar_nil)))))).pt) (sv_one (sv_ret (ev_tup (al_cons (ev_str) (al_cons (ev_nm 1 (pv 1)) (al_cons (ev_nm 3 (pv 3)) (al_nil))))))) (sv_nil)) <| sv_cons (sv_if ((tv_and (tv_cmp (op_eqX hr.units) (nomark _) o_eq (ev_nm 2 (pv 2)) (ev_str)) (tv_and1 (tv_cmp (op_eqX hr.units) (nomark _) o_eq (ev_nm 3 (pv 3)) (ev_str)))).pt) (sv_one (sv_ret (ev_tup (al_cons (ev_str) (al_cons (ev_nm 1 (pv 1)) (al_nil)))))) (sv_nil)) <| sv_cons (sv_if ((tv_and (tv_cmp (op_eqX hr.units) (nomark _) o_eq (ev_nm 2 (pv 2)) (ev_str)) (tv_and (tv_cmp (op_eqX hr.units) (nomark _) o_eq (ev_b1 call_len o_len (by rfl) N.b_len (by decide +kernel) (ev_nm 3 (pv 3))) (ev_int)) (tv_and (tv_cmp (op_eqX hr.units) (nomark _) o_eq (ev_ix ix_seq (fun _ _ => rfl) o_ix (ev_nm 3 (pv 3)) (ev_int)) (ev_str)) (tv_and1 (tv_cmp (op_inX (u65 hr)) (by rfl) o_in (ev_ix ix_seq (fun _ _ => rfl) o_ix (ev_nm 3 (pv 3)) (ev_int)) (ev_gstr (by rfl) N.c_DIGITS)))))).pt) (sv_one (sv_ret (ev_tup (al_cons (ev_str) (al_cons (ev_t1 (L2.CallR.or call_int_str call_int1) o_intX (by rfl) N.b_int (by decide +kernel) (ev_ix ix_seq (fun _ _ => rfl) o_ix (ev_nm 3 (pv 3)) (ev_int))) (al_cons (ev_nm 1 (pv 1)) (al_nil))))))) (sv_nil)) <| sv_one (sv_ret (ev_non))
/-! check_words -/
abbrev s_check_words : Stmt := topS 14
theorem sc_check_words : FnScope ["value", "index", "word"] ["value"] (defScope s_check_words) := ⟨rfl, rfl, rfl, by decide +kernel, rfl, by decide +kernel, by decide +kernel⟩
def b_check_words : Stm := seqS (ifS (orB (notB (tstT (callE G_is_list (consR (nmE 0) (nilR))))) (tstB (binE gGt (unE gLen (nmE 0)) (kE (.int 40))))) ((fun _ => .no)) (nxS)) <| forS (enuI (nmE 0)) (tgTup [1, 2]) (ifS (tstB (binE gIsN (callE G_redirection_step (consR (nmE 2) (nilR))) (kE .none))) ((fun _ => .no)) (nxS))
abbrev G_check_words : List Ag → FR := runF 1 3 b_check_words
theorem k_check_words {P : Program} {w : World} {K : PySem.W.Frag} {mg : Str → Option Value} {base : Heap} {f : Addr} {fd : FuncData} (F : Fun K "check_words" "check_words" s_check_words f fd) (N : Nm mg) (D_is_list : Def P w K mg base "is_list" 1 1 1 b_is_list) (D_redirection_step : Def P w K mg base "redirection_step" 2 1 4 b_redirection_step) : FnG P w K mg base 3 f fd ["value"] (spF K 1 3 b_check_words) :=
  fg_of F sc_check_words rfl rfl fun cdv A outer s H β E hr hgd tk po => sv_cons (sv_if ((tv_or (tv_not (tv_truth (ev_callD (D_is_list.mono (by decide)) hr hgd tk (by rfl) (by decide) (ar_cons (ev_nm 0 (pv 0)) (ar_nil))))) (tv_or1 (tv_cmp op_gt (nomark _) o_cmp (ev_b1 call_len o_len (by rfl) N.b_len (by decide +kernel) (ev_nm 0 (pv 0))) (ev_gint (by rfl) N.c_MOST_WORDS)))).pt) (sv_one (sv_no)) (sv_nil)) <| sv_one (sv_for po rfl (iv_enu (by rfl) N.b_enumerate (ev_nm 0 (pv 0))) (pg_tup rfl (pgs_cons (pg_name (i := 1) sc_check_words.nd rfl (by first | exact Or.inl rfl | exact Or.inr rfl)) (pgs_cons (pg_name (i := 2) sc_check_words.nd rfl (by first | exact Or.inl rfl | exact Or.inr rfl)) (pgs_nil)))) (tg_tup [1, 2]) (sv_one (sv_if (tv_cmp op_isN (nomark _) o_isN (ev_callD (D_redirection_step.mono (by decide)) hr hgd tk (by rfl) (by decide) (ar_cons (ev_nm 2 (pv 2)) (ar_nil))) (ev_non)) (sv_one (sv_no)) (sv_nil))))
/-! table_behind -/
abbrev s_table_behind : Stmt := topS 10
theorem sc_table_behind : FnScope ["table", "step", "fresh", "ends", "word"] ["table", "step", "fresh"] (defScope s_table_behind) := ⟨rfl, rfl, rfl, by decide +kernel, rfl, by decide +kernel, by decide +kernel⟩
def b_table_behind : Stm := seqS (setS 3 (unE gList (nmE 0))) <| seqS (setS 4 (binE gIx (nmE 1) (kE (.int 0)))) <| seqS (ifS (tstB (binE gEq (nmE 4) (kE (.str "pipe")))) (seqS (stoS (binE gIx (nmE 2) (kE (.int 0))) 3 (binE gIx (nmE 1) (kE (.int 1)))) <| stoS (binE gIx (nmE 2) (kE (.int 1))) 3 (binE gIx (nmE 1) (kE (.int 2)))) (ifS (tstB (binE gEq (nmE 4) (kE (.str "open")))) (stoS (binE gIx (nmE 2) (kE (.int 0))) 3 (binE gIx (nmE 1) (kE (.int 1)))) (ifS (tstB (binE gEq (nmE 4) (kE (.str "copy")))) (stoS (binE gIx (nmE 3) (binE gIx (nmE 1) (kE (.int 1)))) 3 (binE gIx (nmE 1) (kE (.int 2)))) (ifS (tstB (binE gEq (nmE 4) (kE (.str "close")))) (stoS (kE .none) 3 (binE gIx (nmE 1) (kE (.int 1)))) (nxS))))) <| retS (nmE 3)
abbrev G_table_behind : List Ag → FR := runF 3 5 b_table_behind
theorem k_table_behind {P : Program} {w : World} {K : PySem.W.Frag} {mg : Str → Option Value} {base : Heap} {f : Addr} {fd : FuncData} (F : Fun K "table_behind" "table_behind" s_table_behind f fd) (N : Nm mg)  : FnG P w K mg base 1 f fd ["table", "step", "fresh"] (spF K 3 5 b_table_behind) :=
  fg_of F sc_table_behind rfl rfl fun cdv A outer s H β E hr hgd tk po => sv_cons (sv_set (i := 3) sc_table_behind.nd rfl (by first | exact Or.inl rfl | exact Or.inr rfl) (ev_t1 call_list_of o_list (by rfl) N.b_list (by decide +kernel) (ev_nm 0 (pv 0)))) <| sv_cons (sv_set (i := 4) sc_table_behind.nd rfl (by first | exact Or.inl rfl | exact Or.inr rfl) (ev_ix ix_seq (fun _ _ => rfl) o_ix (ev_nm 1 (pv 1)) (ev_int))) <| sv_cons (sv_if (tv_cmp (op_eqX hr.units) (nomark _) o_eq (ev_nm 4 (pv 4)) (ev_str)) (sv_cons (sv_sto (ev_ix ix_seq (fun _ _ => rfl) o_ix (ev_nm 2 (pv 2)) (ev_int)) (pg_sub (ev_nm 3 (pv 3)) (ev_ix ix_seq (fun _ _ => rfl) o_ix (ev_nm 1 (pv 1)) (ev_int)) set_list)) <| sv_one (sv_sto (ev_ix ix_seq (fun _ _ => rfl) o_ix (ev_nm 2 (pv 2)) (ev_int)) (pg_sub (ev_nm 3 (pv 3)) (ev_ix ix_seq (fun _ _ => rfl) o_ix (ev_nm 1 (pv 1)) (ev_int)) set_list))) (sv_one (sv_if (tv_cmp (op_eqX hr.units) (nomark _) o_eq (ev_nm 4 (pv 4)) (ev_str)) (sv_one (sv_sto (ev_ix ix_seq (fun _ _ => rfl) o_ix (ev_nm 2 (pv 2)) (ev_int)) (pg_sub (ev_nm 3 (pv 3)) (ev_ix ix_seq (fun _ _ => rfl) o_ix (ev_nm 1 (pv 1)) (ev_int)) set_list))) (sv_one (sv_if (tv_cmp (op_eqX hr.units) (nomark _) o_eq (ev_nm 4 (pv 4)) (ev_str)) (sv_one (sv_sto (ev_ix ix_seq (fun _ _ => rfl) o_ix (ev_nm 3 (pv 3)) (ev_ix ix_seq (fun _ _ => rfl) o_ix (ev_nm 1 (pv 1)) (ev_int))) (pg_sub (ev_nm 3 (pv 3)) (ev_ix ix_seq (fun _ _ => rfl) o_ix (ev_nm 1 (pv 1)) (ev_int)) set_list))) (sv_one (sv_if (tv_cmp (op_eqX hr.units) (nomark _) o_eq (ev_nm 4 (pv 4)) (ev_str)) (sv_one (sv_sto (ev_non) (pg_sub (ev_nm 3 (pv 3)) (ev_ix ix_seq (fun _ _ => rfl) o_ix (ev_nm 1 (pv 1)) (ev_int)) set_list))) (sv_nil)))))))) <| sv_one (sv_ret (ev_nm 3 (pv 3)))
/-! run_words -/
abbrev s_run_words : Stmt := topS 15
theorem sc_run_words : FnScope ["words", "table", "ends", "openings", "copies", "word", "step", "fresh"] ["words", "table"] (defScope s_run_words) := ⟨rfl, rfl, rfl, by decide +kernel, rfl, by decide +kernel, by decide +kernel⟩
def b_run_words : Stm := seqS (setS 2 (unE gList (nmE 1))) <| seqS (setS 3 (lstE (nilL))) <| seqS (setS 4 (lstE (nilL))) <| seqS (forS (seqI (nmE 0)) (fun d r => some (put r 5 (.val d))) (seqS (setS 6 (callE G_redirection_step (consR (nmE 5) (nilR)))) <| seqS (setS 7 (tupE (nilL))) <| seqS (ifS (tstB (binE gEq (binE gIx (nmE 6) (kE (.int 0))) (kE (.str "open")))) (seqS (setS 7 (tupE (consL (tupE (consL (kE (.str "new")) (consL (unE gLen (nmE 3)) (nilL)))) (nilL)))) <| dropS (mutE 3 uApp (consL (tupE (consL (binE gIx (nmE 5) (kE (.int 1))) (consL (binE gIx (nmE 6) (kE (.int 2))) (nilL)))) (nilL)))) (nxS)) <| seqS (ifS (tstB (binE gEq (binE gIx (nmE 6) (kE (.int 0))) (kE (.str "copy")))) (dropS (mutE 4 uApp (consL (tupE (consL (binE gIx (nmE 6) (kE (.int 1))) (consL (binE gIx (nmE 2) (binE gIx (nmE 6) (kE (.int 1)))) (nilL)))) (nilL)))) (nxS)) <| setS 2 (callE G_table_behind (consR (fzE (nmE 2)) (consR (nmE 6) (consR (nmE 7) (nilR))))))) <| retS (tupE (consL (nmE 2) (consL (nmE 3) (consL (nmE 4) (nilL)))))
abbrev G_run_words : List Ag → FR := runF 2 8 b_run_words
theorem k_run_words {P : Program} {w : World} {K : PySem.W.Frag} {mg : Str → Option Value} {base : Heap} {f : Addr} {fd : FuncData} (F : Fun K "run_words" "run_words" s_run_words f fd) (N : Nm mg) (D_redirection_step : Def P w K mg base "redirection_step" 2 1 4 b_redirection_step) (D_table_behind : Def P w K mg base "table_behind" 1 3 5 b_table_behind) : FnG P w K mg base 3 f fd ["words", "table"] (spF K 2 8 b_run_words) :=
  fg_of F sc_run_words rfl rfl fun cdv A outer s H β E hr hgd tk po => sv_cons (sv_set (i := 2) sc_run_words.nd rfl (by first | exact Or.inl rfl | exact Or.inr rfl) (ev_t1 call_list_of o_list (by rfl) N.b_list (by decide +kernel) (ev_nm 1 (pv 1)))) <| sv_cons (sv_set (i := 3) sc_run_words.nd rfl (by first | exact Or.inl rfl | exact Or.inr rfl) (ev_lst (al_nil))) <| sv_cons (sv_set (i := 4) sc_run_words.nd rfl (by first | exact Or.inl rfl | exact Or.inr rfl) (ev_lst (al_nil))) <| sv_cons (sv_for po rfl (iv_seq (ev_nm 0 (pv 0))) (pg_name (i := 5) sc_run_words.nd rfl (by first | exact Or.inl rfl | exact Or.inr rfl)) (tg_name 5) (sv_cons (sv_set (i := 6) sc_run_words.nd rfl (by first | exact Or.inl rfl | exact Or.inr rfl) (ev_callD (D_redirection_step.mono (by decide)) hr hgd tk (by rfl) (by decide) (ar_cons (ev_nm 5 (pv 5)) (ar_nil)))) <| sv_cons (sv_set (i := 7) sc_run_words.nd rfl (by first | exact Or.inl rfl | exact Or.inr rfl) (ev_tup (al_nil))) <| sv_cons (sv_if (tv_cmp (op_eqX hr.units) (nomark _) o_eq (ev_ix ix_seq (fun _ _ => rfl) o_ix (ev_nm 6 (pv 6)) (ev_int)) (ev_str)) (sv_cons (sv_set (i := 7) sc_run_words.nd rfl (by first | exact Or.inl rfl | exact Or.inr rfl) (ev_tup (al_cons (ev_tup (al_cons (ev_str) (al_cons (ev_b1 call_len o_len (by rfl) N.b_len (by decide +kernel) (ev_nm 3 (pv 3))) (al_nil)))) (al_nil)))) <| sv_one (sv_expr (ev_mut (pe_bm PySem.F.plainAttrs_list PySem.F.slot_list_append PySem.F.type_list_append mt_append (ev_nm 3 (pv 3)) (al_cons (ev_tup (al_cons (ev_ix ix_seq (fun _ _ => rfl) o_ix (ev_nm 5 (pv 5)) (ev_int)) (al_cons (ev_ix ix_seq (fun _ _ => rfl) o_ix (ev_nm 6 (pv 6)) (ev_int)) (al_nil)))) (al_nil))) m_app))) (sv_nil)) <| sv_cons (sv_if (tv_cmp (op_eqX hr.units) (nomark _) o_eq (ev_ix ix_seq (fun _ _ => rfl) o_ix (ev_nm 6 (pv 6)) (ev_int)) (ev_str)) (sv_one (sv_expr (ev_mut (pe_bm PySem.F.plainAttrs_list PySem.F.slot_list_append PySem.F.type_list_append mt_append (ev_nm 4 (pv 4)) (al_cons (ev_tup (al_cons (ev_ix ix_seq (fun _ _ => rfl) o_ix (ev_nm 6 (pv 6)) (ev_int)) (al_cons (ev_ix ix_seq (fun _ _ => rfl) o_ix (ev_nm 2 (pv 2)) (ev_ix ix_seq (fun _ _ => rfl) o_ix (ev_nm 6 (pv 6)) (ev_int))) (al_nil)))) (al_nil))) m_app))) (sv_nil)) <| sv_one (sv_set (i := 2) sc_run_words.nd rfl (by first | exact Or.inl rfl | exact Or.inr rfl) (ev_callD (D_table_behind.mono (by decide)) hr hgd tk (by rfl) (by decide) (ar_cons (ev_fz (ev_nm 2 (pv 2))) (ar_cons (ev_nm 6 (pv 6)) (ar_cons (ev_nm 7 (pv 7)) (ar_nil)))))))) <| sv_one (sv_ret (ev_tup (al_cons (ev_nm 2 (pv 2)) (al_cons (ev_nm 3 (pv 3)) (al_cons (ev_nm 4 (pv 4)) (al_nil))))))
/-! form_of -/
abbrev s_form_of : Stmt := topS 16
theorem sc_form_of : FnScope ["words", "ends", "openings", "copies", "sources", "needs", "_", "source", "number"] ["words"] (defScope s_form_of) := ⟨rfl, rfl, rfl, by decide +kernel, rfl, by decide +kernel, by decide +kernel⟩
def b_form_of : Stm := seqS (unpS [1, 2, 3] (callE G_run_words (consR (nmE 0) (consR (fzE (lcE (rng1 (kE (.int 10))) (fun d r => some (put r 8 (.val d))) [8] (yesB) (tupE (consL (kE (.str "old")) (consL (nmE 8) (nilL)))))) (nilR))))) <| seqS (setS 4 (lcE (seqI (nmE 3)) (tgTup [6, 7]) [6, 7] (yesB) (nmE 7))) <| seqS (ifS (tstB (binE gIn (kE .none) (nmE 4))) (retS (kE .none)) (nxS)) <| seqS (setS 5 (ssE (seqI (nmE 4)) (fun d r => some (put r 7 (.val d))) [7] (tstB (binE gEq (binE gIx (nmE 7) (kE (.int 0))) (kE (.str "old")))) (binE gIx (nmE 7) (kE (.int 1))))) <| retS (tupE (consL (unE gTuple (nmE 5)) (consL (unE gTuple (nmE 2)) (consL (unE gTuple (nmE 1)) (nilL)))))
abbrev G_form_of : List Ag → FR := runF 1 9 b_form_of
theorem k_form_of {P : Program} {w : World} {K : PySem.W.Frag} {mg : Str → Option Value} {base : Heap} {f : Addr} {fd : FuncData} (F : Fun K "form_of" "form_of" s_form_of f fd) (N : Nm mg) (D_run_words : Def P w K mg base "run_words" 3 2 8 b_run_words) : FnG P w K mg base 4 f fd ["words"] (spF K 1 9 b_form_of) :=
  fg_of F sc_form_of rfl rfl fun cdv A outer s H β E hr hgd tk po => sv_cons (sv_unp (is := [1, 2, 3]) (ev_callD (D_run_words.mono (by decide)) hr hgd tk (by rfl) (by decide) (ar_cons (ev_nm 0 (pv 0)) (ar_cons (ev_fz (ev_lc (own := [("number", 8)]) (T := [8]) rfl rfl sc_form_of.nd (iv_rng1 (by rfl) N.b_range (ev_gint (by rfl) N.c_DESCRIPTORS)) (blkOk_by (own := [("number", 8)]) (N := ["words", "ends", "openings", "copies", "sources", "needs", "_", "source", "number"]) (sc := defScope s_form_of) (by decide +kernel)) (fun _ _ _ _ _ => pg_name (i := 8) sc_form_of.nd rfl (by first | exact Or.inl rfl | exact Or.inr rfl)) (fun _ _ _ _ _ => ts_nil) (fun _ _ _ _ _ => ev_tup (al_cons (ev_str) (al_cons (ev_nm 8 (pv 8)) (al_nil)))) (tg_name 8))) (ar_nil)))) (pg_tup rfl (pgs_cons (pg_name (i := 1) sc_form_of.nd rfl (by first | exact Or.inl rfl | exact Or.inr rfl)) (pgs_cons (pg_name (i := 2) sc_form_of.nd rfl (by first | exact Or.inl rfl | exact Or.inr rfl)) (pgs_cons (pg_name (i := 3) sc_form_of.nd rfl (by first | exact Or.inl rfl | exact Or.inr rfl)) (pgs_nil)))))) <| sv_cons (sv_setLc (i := 4) (own := [("_", 6), ("source", 7)]) (T := [6, 7]) rfl rfl sc_form_of.nd rfl rfl (sw_true rfl rfl rfl (by decide +kernel)) (iv_seq (ev_nm 3 (pv 3))) (blkOk_by (own := [("_", 6), ("source", 7)]) (N := ["words", "ends", "openings", "copies", "sources", "needs", "_", "source", "number"]) (sc := defScope s_form_of) (by decide +kernel)) (fun _ _ _ _ _ => pg_tup rfl (pgs_cons (pg_name (i := 6) sc_form_of.nd rfl (by first | exact Or.inl rfl | exact Or.inr rfl)) (pgs_cons (pg_name (i := 7) sc_form_of.nd rfl (by first | exact Or.inl rfl | exact Or.inr rfl)) (pgs_nil)))) (fun _ _ _ _ _ => ts_nil) (fun _ _ _ _ _ => ev_nm 7 (pv 7)) (tg_tup [6, 7])) <| sv_cons (sv_if (tv_cmp (op_inX (u65 hr)) (by rfl) o_in (ev_non) (ev_nm 4 (pv 4))) (sv_one (sv_ret (ev_non))) (sv_nil)) <| sv_cons (sv_set (i := 5) sc_form_of.nd rfl (by first | exact Or.inl rfl | exact Or.inr rfl) (ev_ss (own := [("source", 7)]) (T := [7]) (by rfl) N.b_sorted rfl rfl sc_form_of.nd (iv_seq (ev_nm 4 (pv 4))) (blkOk_by (own := [("source", 7)]) (N := ["words", "ends", "openings", "copies", "sources", "needs", "_", "source", "number"]) (sc := defScope s_form_of) (by decide +kernel)) (fun _ _ _ _ _ => pg_name (i := 7) sc_form_of.nd rfl (by first | exact Or.inl rfl | exact Or.inr rfl)) (fun _ _ _ _ _ => ts_one (tv_cmp (op_eqX hr.units) (nomark _) o_eq (ev_ix ix_seq (fun _ _ => rfl) o_ix (ev_nm 7 (pv 7)) (ev_int)) (ev_str))) (fun _ _ _ _ _ => ev_ix ix_seq (fun _ _ => rfl) o_ix (ev_nm 7 (pv 7)) (ev_int)) (tg_name 7))) <| sv_one (sv_ret (ev_tup (al_cons (ev_t1 call_tuple_of o_tuple (by rfl) N.b_tuple (by decide +kernel) (ev_nm 5 (pv 5))) (al_cons (ev_t1 call_tuple_of o_tuple (by rfl) N.b_tuple (by decide +kernel) (ev_nm 2 (pv 2))) (al_cons (ev_t1 call_tuple_of o_tuple (by rfl) N.b_tuple (by decide +kernel) (ev_nm 1 (pv 1))) (al_nil))))))
/-! normal_form -/
abbrev s_normal_form : Stmt := topS 17
theorem sc_normal_form : FnScope ["words"] ["words"] (defScope s_normal_form) := ⟨rfl, rfl, rfl, by decide +kernel, rfl, by decide +kernel, by decide +kernel⟩
def b_normal_form : Stm := seqS (dropS (callE G_check_words (consR (nmE 0) (nilR)))) <| retS (callE G_form_of (consR (nmE 0) (nilR)))
abbrev G_normal_form : List Ag → FR := runF 1 1 b_normal_form
theorem k_normal_form {P : Program} {w : World} {K : PySem.W.Frag} {mg : Str → Option Value} {base : Heap} {f : Addr} {fd : FuncData} (F : Fun K "normal_form" "normal_form" s_normal_form f fd) (N : Nm mg) (D_check_words : Def P w K mg base "check_words" 3 1 3 b_check_words) (D_form_of : Def P w K mg base "form_of" 4 1 9 b_form_of) : FnG P w K mg base 5 f fd ["words"] (spF K 1 1 b_normal_form) :=
  fg_of F sc_normal_form rfl rfl fun cdv A outer s H β E hr hgd tk po => sv_cons (sv_expr (ev_callD (D_check_words.mono (by decide)) hr hgd tk (by rfl) (by decide) (ar_cons (ev_nm 0 (pv 0)) (ar_nil)))) <| sv_one (sv_ret (ev_callD (D_form_of.mono (by decide)) hr hgd tk (by rfl) (by decide) (ar_cons (ev_nm 0 (pv 0)) (ar_nil))))
/-! _law_played -/
abbrev s__law_played : Stmt := topS 23
theorem sc__law_played : FnScope ["words_here", "first", "row", "made", "word", "one", "rest"] ["words_here", "first"] (defScope s__law_played) := ⟨rfl, rfl, rfl, by decide +kernel, rfl, by decide +kernel, by decide +kernel⟩
def b__law_played : Stm := seqS (parS 2 3 (consR (unE gList (nmE 1)) (consR (lstE (nilL)) (nilR)))) <| seqS (forS (seqI (nmE 0)) (fun d r => some (put r 4 (.val d))) (seqS (parS 5 6 (consR (unE gIntX (binE gIx (nmE 4) (kE (.int 0)))) (consR (slE (nmE 4) (some (kE (.int 2))) none) (nilR)))) <| ifS (tstB (binE gEq (nmE 6) (kE (.str "&-")))) (stoS (kE .none) 2 (nmE 5)) (ifS (tstB (binE gEq (binE gIx (nmE 6) (kE (.int 0))) (kE (.str "&")))) (seqS (ifS (tstB (binE gIsN (binE gIx (nmE 2) (unE gIntX (binE gIx (nmE 6) (kE (.int 1))))) (kE .none))) (retS (lstE (consL (nmE 1) (consL (lstE (nilL)) (consL (unE gIntX (binE gIx (nmE 6) (kE (.int 1)))) (nilL)))))) (nxS)) <| stoS (binE gIx (nmE 2) (unE gIntX (binE gIx (nmE 6) (kE (.int 1))))) 2 (nmE 5)) (seqS (stoS (tupE (consL (kE (.str "new")) (consL (unE gLen (nmE 3)) (nilL)))) 2 (nmE 5)) <| dropS (mutE 3 uApp (consL (tupE (consL (binE gIx (nmE 4) (kE (.int 1))) (consL (nmE 6) (nilL)))) (nilL))))))) <| retS (lstE (consL (nmE 2) (consL (nmE 3) (consL (kE .none) (nilL)))))
abbrev G__law_played : List Ag → FR := runF 2 7 b__law_played
theorem k__law_played {P : Program} {w : World} {K : PySem.W.Frag} {mg : Str → Option Value} {base : Heap} {f : Addr} {fd : FuncData} (F : Fun K "_law_played" "_law_played" s__law_played f fd) (N : Nm mg)  : FnG P w K mg base 1 f fd ["words_here", "first"] (spF K 2 7 b__law_played) :=
  fg_of F sc__law_played rfl rfl fun cdv A outer s H β E hr hgd tk po => sv_cons (sv_par rfl sc__law_played.nd rfl rfl (by decide) rfl rfl (ar_cons (ev_t1 call_list_of o_list (by rfl) N.b_list (by decide +kernel) (ev_nm 1 (pv 1))) (ar_cons (ev_lst (al_nil)) (ar_nil))) (by rfl)) <| sv_cons (sv_for po rfl (iv_seq (ev_nm 0 (pv 0))) (pg_name (i := 4) sc__law_played.nd rfl (by first | exact Or.inl rfl | exact Or.inr rfl)) (tg_name 4) (sv_cons (sv_par rfl sc__law_played.nd rfl rfl (by decide) rfl rfl (ar_cons (ev_t1 (L2.CallR.or call_int_str call_int1) o_intX (by rfl) N.b_int (by decide +kernel) (ev_ix ix_seq (fun _ _ => rfl) o_ix (ev_nm 4 (pv 4)) (ev_int))) (ar_cons (ev_slL (ev_nm 4 (pv 4)) (ev_int)) (ar_nil))) (by rfl)) <| sv_one (sv_if (tv_cmp (op_eqX hr.units) (nomark _) o_eq (ev_nm 6 (pv 6)) (ev_str)) (sv_one (sv_sto (ev_non) (pg_sub (ev_nm 2 (pv 2)) (ev_nm 5 (pv 5)) set_list))) (sv_one (sv_if (tv_cmp (op_eqX hr.units) (nomark _) o_eq (ev_ix ix_seq (fun _ _ => rfl) o_ix (ev_nm 6 (pv 6)) (ev_int)) (ev_str)) (sv_cons (sv_if (tv_cmp op_isN (nomark _) o_isN (ev_ix ix_seq (fun _ _ => rfl) o_ix (ev_nm 2 (pv 2)) (ev_t1 (L2.CallR.or call_int_str call_int1) o_intX (by rfl) N.b_int (by decide +kernel) (ev_ix ix_seq (fun _ _ => rfl) o_ix (ev_nm 6 (pv 6)) (ev_int)))) (ev_non)) (sv_one (sv_ret (ev_lst (al_cons (ev_nm 1 (pv 1)) (al_cons (ev_lst (al_nil)) (al_cons (ev_t1 (L2.CallR.or call_int_str call_int1) o_intX (by rfl) N.b_int (by decide +kernel) (ev_ix ix_seq (fun _ _ => rfl) o_ix (ev_nm 6 (pv 6)) (ev_int))) (al_nil))))))) (sv_nil)) <| sv_one (sv_sto (ev_ix ix_seq (fun _ _ => rfl) o_ix (ev_nm 2 (pv 2)) (ev_t1 (L2.CallR.or call_int_str call_int1) o_intX (by rfl) N.b_int (by decide +kernel) (ev_ix ix_seq (fun _ _ => rfl) o_ix (ev_nm 6 (pv 6)) (ev_int)))) (pg_sub (ev_nm 2 (pv 2)) (ev_nm 5 (pv 5)) set_list))) (sv_cons (sv_sto (ev_tup (al_cons (ev_str) (al_cons (ev_b1 call_len o_len (by rfl) N.b_len (by decide +kernel) (ev_nm 3 (pv 3))) (al_nil)))) (pg_sub (ev_nm 2 (pv 2)) (ev_nm 5 (pv 5)) set_list)) <| sv_one (sv_expr (ev_mut (pe_bm PySem.F.plainAttrs_list PySem.F.slot_list_append PySem.F.type_list_append mt_append (ev_nm 3 (pv 3)) (al_cons (ev_tup (al_cons (ev_ix ix_seq (fun _ _ => rfl) o_ix (ev_nm 4 (pv 4)) (ev_int)) (al_cons (ev_nm 6 (pv 6)) (al_nil)))) (al_nil))) m_app)))))))) <| sv_one (sv_ret (ev_lst (al_cons (ev_nm 2 (pv 2)) (al_cons (ev_nm 3 (pv 3)) (al_cons (ev_non) (al_nil))))))
/-! _law_form -/
abbrev s__law_form : Stmt := topS 24
theorem sc__law_form : FnScope ["words_here", "n", "full", "row", "made", "fails", "needs"] ["words_here"] (defScope s__law_form) := ⟨rfl, rfl, rfl, by decide +kernel, rfl, by decide +kernel, by decide +kernel⟩
def b__law_form : Stm := seqS (setS 2 (lcE (rng1 (kE (.int 10))) (fun d r => some (put r 1 (.val d))) [1] (yesB) (tupE (consL (kE (.str "old")) (consL (nmE 1) (nilL)))))) <| seqS (unlS [3, 4, 5] (callE G__law_played (consR (nmE 0) (consR (fzE (nmE 2)) (nilR))))) <| seqS (ifS (tstB (binE gIsntN (nmE 5) (kE .none))) (retS (kE .none)) (nxS)) <| seqS (setS 6 (lstE (nilL))) <| seqS (forS (rng1 (kE (.int 10))) (fun d r => some (put r 1 (.val d))) (ifS (tstB (binE gIsntN (binE gIx (callE G__law_played (consR (nmE 0) (consR (fzE (binE gAdd (binE gAdd (slE (nmE 2) none (some (nmE 1))) (lstE (consL (kE .none) (nilL)))) (slE (nmE 2) (some (binE gAdd (nmE 1) (kE (.int 1)))) none))) (nilR)))) (kE (.int 2))) (kE .none))) (dropS (mutE 6 uApp (consL (nmE 1) (nilL)))) (nxS))) <| retS (tupE (consL (unE gTuple (nmE 6)) (consL (unE gTuple (nmE 4)) (consL (unE gTuple (nmE 3)) (nilL)))))
abbrev G__law_form : List Ag → FR := runF 1 7 b__law_form
theorem k__law_form {P : Program} {w : World} {K : PySem.W.Frag} {mg : Str → Option Value} {base : Heap} {f : Addr} {fd : FuncData} (F : Fun K "_law_form" "_law_form" s__law_form f fd) (N : Nm mg) (D__law_played : Def P w K mg base "_law_played" 1 2 7 b__law_played) : FnG P w K mg base 2 f fd ["words_here"] (spF K 1 7 b__law_form) :=
  fg_of F sc__law_form rfl rfl fun cdv A outer s H β E hr hgd tk po => sv_cons (sv_setLc (i := 2) (own := [("n", 1)]) (T := [1]) rfl rfl sc__law_form.nd rfl rfl (sw_true rfl rfl rfl (by decide +kernel)) (iv_rng1 (by rfl) N.b_range (ev_int)) (blkOk_by (own := [("n", 1)]) (N := ["words_here", "n", "full", "row", "made", "fails", "needs"]) (sc := defScope s__law_form) (by decide +kernel)) (fun _ _ _ _ _ => pg_name (i := 1) sc__law_form.nd rfl (by first | exact Or.inl rfl | exact Or.inr rfl)) (fun _ _ _ _ _ => ts_nil) (fun _ _ _ _ _ => ev_tup (al_cons (ev_str) (al_cons (ev_nm 1 (pv 1)) (al_nil)))) (tg_name 1)) <| sv_cons (sv_unl (is := [3, 4, 5]) (ev_callD (D__law_played.mono (by decide)) hr hgd tk (by rfl) (by decide) (ar_cons (ev_nm 0 (pv 0)) (ar_cons (ev_fz (ev_nm 2 (pv 2))) (ar_nil)))) (pg_unl rfl (pgs_cons (pg_name (i := 3) sc__law_form.nd rfl (by first | exact Or.inl rfl | exact Or.inr rfl)) (pgs_cons (pg_name (i := 4) sc__law_form.nd rfl (by first | exact Or.inl rfl | exact Or.inr rfl)) (pgs_cons (pg_name (i := 5) sc__law_form.nd rfl (by first | exact Or.inl rfl | exact Or.inr rfl)) (pgs_nil)))))) <| sv_cons (sv_if (tv_cmp op_notN (nomark _) o_isntN (ev_nm 5 (pv 5)) (ev_non)) (sv_one (sv_ret (ev_non))) (sv_nil)) <| sv_cons (sv_set (i := 6) sc__law_form.nd rfl (by first | exact Or.inl rfl | exact Or.inr rfl) (ev_lst (al_nil))) <| sv_cons (sv_for po rfl (iv_rng1 (by rfl) N.b_range (ev_int)) (pg_name (i := 1) sc__law_form.nd rfl (by first | exact Or.inl rfl | exact Or.inr rfl)) (tg_name 1) (sv_one (sv_if (tv_cmp op_notN (nomark _) o_isntN (ev_ix ix_seq (fun _ _ => rfl) o_ix (ev_callD (D__law_played.mono (by decide)) hr hgd tk (by rfl) (by decide) (ar_cons (ev_nm 0 (pv 0)) (ar_cons (ev_fz (ev_bin op_addX o_add (ev_bin op_addX o_add (ev_slH (ev_nm 2 (pv 2)) (ev_nm 1 (pv 1))) (ev_lst (al_cons (ev_non) (al_nil)))) (ev_slL (ev_nm 2 (pv 2)) (ev_bin op_addX o_add (ev_nm 1 (pv 1)) (ev_int))))) (ar_nil)))) (ev_int)) (ev_non)) (sv_one (sv_expr (ev_mut (pe_bm PySem.F.plainAttrs_list PySem.F.slot_list_append PySem.F.type_list_append mt_append (ev_nm 6 (pv 6)) (al_cons (ev_nm 1 (pv 1)) (al_nil))) m_app))) (sv_nil)))) <| sv_one (sv_ret (ev_tup (al_cons (ev_t1 call_tuple_of o_tuple (by rfl) N.b_tuple (by decide +kernel) (ev_nm 6 (pv 6))) (al_cons (ev_t1 call_tuple_of o_tuple (by rfl) N.b_tuple (by decide +kernel) (ev_nm 4 (pv 4))) (al_cons (ev_t1 call_tuple_of o_tuple (by rfl) N.b_tuple (by decide +kernel) (ev_nm 3 (pv 3))) (al_nil))))))
/-! _law_right -/
abbrev s__law_right : Stmt := topS 25
theorem sc__law_right : FnScope ["row", "before", "due"] ["row"] (defScope s__law_right) := ⟨rfl, rfl, rfl, by decide +kernel, rfl, by decide +kernel, by decide +kernel⟩
def b__law_right : Stm := seqS (parS 1 2 (consR (unE gRepr (nmE 0)) (consR (callE G__law_form (consR (nmE 0) (nilR))) (nilR)))) <| retS (andE (binE gEq (unE gRepr (lstE (consL (callE G_normal_form (consR (nmE 0) (nilR))) (consL (callKW [0] G_normal_form (consR (nmE 0) (nilR))) (nilL))))) (unE gRepr (lstE (consL (nmE 2) (consL (nmE 2) (nilL)))))) (binE gEq (unE gRepr (nmE 0)) (nmE 1)))
abbrev G__law_right : List Ag → FR := runF 1 3 b__law_right
theorem k__law_right {P : Program} {w : World} {K : PySem.W.Frag} {mg : Str → Option Value} {base : Heap} {f : Addr} {fd : FuncData} (F : Fun K "_law_right" "_law_right" s__law_right f fd) (N : Nm mg) (D__law_form : Def P w K mg base "_law_form" 2 1 7 b__law_form) (D_normal_form : Def P w K mg base "normal_form" 5 1 1 b_normal_form) (DK_normal_form_words : DefK P w K mg base "normal_form" 5 1 1 b_normal_form ["words"] [0]) : FnG P w K mg base 6 f fd ["row"] (spF K 1 3 b__law_right) :=
  fg_of F sc__law_right rfl rfl fun cdv A outer s H β E hr hgd tk po => sv_cons (sv_par rfl sc__law_right.nd rfl rfl (by decide) rfl rfl (ar_cons (ev_b1 (call_reprD hgd hr.units) o_repr (by rfl) N.b_repr (by decide +kernel) (ev_nm 0 (pv 0))) (ar_cons (ev_callD (D__law_form.mono (by decide)) hr hgd tk (by rfl) (by decide) (ar_cons (ev_nm 0 (pv 0)) (ar_nil))) (ar_nil))) (by rfl)) <| sv_one (sv_ret (ev_and (ev_cmp (op_eqX hr.units) (nomark _) o_eq (ev_b1 (call_reprD hgd hr.units) o_repr (by rfl) N.b_repr (by decide +kernel) (ev_lst (al_cons (ev_callD (D_normal_form.mono (by decide)) hr hgd tk (by rfl) (by decide) (ar_cons (ev_nm 0 (pv 0)) (ar_nil))) (al_cons (ev_callKW (DK_normal_form_words.mono (by decide)) hr hgd tk (by rfl) (by decide) (by decide) (by decide) rfl (kr_cons (ev_nm 0 (pv 0)) (kr_nil))) (al_nil))))) (ev_b1 (call_reprD hgd hr.units) o_repr (by rfl) N.b_repr (by decide +kernel) (ev_lst (al_cons (ev_nm 2 (pv 2)) (al_cons (ev_nm 2 (pv 2)) (al_nil)))))) (ev_and1 (ev_cmp (op_eqX hr.units) (nomark _) o_eq (ev_b1 (call_reprD hgd hr.units) o_repr (by rfl) N.b_repr (by decide +kernel) (ev_nm 0 (pv 0))) (ev_nm 1 (pv 1))))))
/-! _law_holds -/
abbrev s__law_holds : Stmt := topS 26
theorem sc__law_holds : FnScope ["source", "most", "lap", "row", "told"] ["source", "most"] (defScope s__law_holds) := ⟨rfl, rfl, rfl, by decide +kernel, rfl, by decide +kernel, by decide +kernel⟩
def b__law_holds : Stm := seqS (forS (rng1 (kE (.int 4))) (fun d r => some (put r 2 (.val d))) (seqS (setS 3 (callE G__law_some_words (consR (nmE 0) (consR (nmE 1) (nilR))))) <| seqS (ifS (notB (tstT (callE G__law_right (consR (nmE 3) (nilR))))) (retS (kE (.bool false))) (nxS)) <| seqS (whlN (tstB (binE gIsN (callE G__law_form (consR (nmE 3) (nilR))) (kE .none))) (dropS (mutE 3 uPop0 nilL)) 1000) <| seqS (ifS (notB (tstT (callE G__law_right (consR (nmE 3) (nilR))))) (retS (kE (.bool false))) (nxS)) <| seqS (dropS (mutE 3 uApp (consL (kE (.str "1>&2")) (nilL)))) <| ifS (andB (tstB (binE gLt (unE gLen (nmE 3)) (kE (.int 41)))) (notB (tstT (callE G__law_right (consR (nmE 3) (nilR)))))) (retS (kE (.bool false))) (nxS))) <| seqS (setS 4 (lstE (consL (callE G_normal_form (consR (lstE (consL (kE (.str "1>&-")) (consL (kE (.str "2>&1")) (nilL)))) (nilR))) (consL (binE gIx (callE G_normal_form (consR (lstE (consL (kE (.str "1>f")) (consL (kE (.str "2>&1")) (nilL)))) (nilR))) (kE (.int 1))) (consL (binE gIx (callE G_normal_form (consR (lstE (consL (kE (.str "3>&3")) (nilL))) (nilR))) (kE (.int 0))) (nilL)))))) <| retS (andE (binE gEq (nmE 4) (lstE (consL (kE .none) (consL (tupE (consL (tupE (consL (kE (.str ">")) (consL (kE (.str "f")) (nilL)))) (nilL))) (consL (tupE (consL (kE (.int 3)) (nilL))) (nilL)))))) (binE gEq (callE G_normal_form (consR (lstE (nilL)) (nilR))) (callE G__law_form (consR (lstE (nilL)) (nilR)))))
abbrev G__law_holds : List Ag → FR := runF 2 5 b__law_holds
theorem k__law_holds {P : Program} {w : World} {K : PySem.W.Frag} {mg : Str → Option Value} {base : Heap} {f : Addr} {fd : FuncData} (F : Fun K "_law_holds" "_law_holds" s__law_holds f fd) (N : Nm mg) (D__law_some_words : Def P w K mg base "_law_some_words" 3 2 4 b__law_some_words) (D_normal_form : Def P w K mg base "normal_form" 5 1 1 b_normal_form) (D__law_right : Def P w K mg base "_law_right" 6 1 3 b__law_right) (D__law_form : Def P w K mg base "_law_form" 2 1 7 b__law_form) : FnG P w K mg base 7 f fd ["source", "most"] (spF K 2 5 b__law_holds) :=
  fg_of F sc__law_holds rfl rfl fun cdv A outer s H β E hr hgd tk po => sv_cons (sv_for po rfl (iv_rng1 (by rfl) N.b_range (ev_int)) (pg_name (i := 2) sc__law_holds.nd rfl (by first | exact Or.inl rfl | exact Or.inr rfl)) (tg_name 2) (sv_cons (sv_set (i := 3) sc__law_holds.nd rfl (by first | exact Or.inl rfl | exact Or.inr rfl) (ev_callD (D__law_some_words.mono (by decide)) hr hgd tk (by rfl) (by decide) (ar_cons (ev_nm 0 (pv 0)) (ar_cons (ev_nm 1 (pv 1)) (ar_nil))))) <| sv_cons (sv_if (tv_not (tv_truth (ev_callD (D__law_right.mono (by decide)) hr hgd tk (by rfl) (by decide) (ar_cons (ev_nm 3 (pv 3)) (ar_nil))))) (sv_one (sv_ret (ev_bl))) (sv_nil)) <| sv_cons (sv_while 1000 po (tv_cmp op_isN (nomark _) o_isN (ev_callD (D__law_form.mono (by decide)) hr hgd tk (by rfl) (by decide) (ar_cons (ev_nm 3 (pv 3)) (ar_nil))) (ev_non)) (sv_one (sv_expr (ev_mut0 (pe_bm0 PySem.F.plainAttrs_list PySem.F.slot_list_pop PySem.F.type_list_pop mt_pop (ev_nm 3 (pv 3))) m_pop0)))) <| sv_cons (sv_if (tv_not (tv_truth (ev_callD (D__law_right.mono (by decide)) hr hgd tk (by rfl) (by decide) (ar_cons (ev_nm 3 (pv 3)) (ar_nil))))) (sv_one (sv_ret (ev_bl))) (sv_nil)) <| sv_cons (sv_expr (ev_mut (pe_bm PySem.F.plainAttrs_list PySem.F.slot_list_append PySem.F.type_list_append mt_append (ev_nm 3 (pv 3)) (al_cons (ev_str) (al_nil))) m_app)) <| sv_one (sv_if ((tv_and (tv_cmp op_lt (nomark _) o_cmp (ev_b1 call_len o_len (by rfl) N.b_len (by decide +kernel) (ev_nm 3 (pv 3))) (ev_int)) (tv_and1 (tv_not (tv_truth (ev_callD (D__law_right.mono (by decide)) hr hgd tk (by rfl) (by decide) (ar_cons (ev_nm 3 (pv 3)) (ar_nil))))))).pt) (sv_one (sv_ret (ev_bl))) (sv_nil)))) <| sv_cons (sv_set (i := 4) sc__law_holds.nd rfl (by first | exact Or.inl rfl | exact Or.inr rfl) (ev_lst (al_cons (ev_callD (D_normal_form.mono (by decide)) hr hgd tk (by rfl) (by decide) (ar_cons (ev_lst (al_cons (ev_str) (al_cons (ev_str) (al_nil)))) (ar_nil))) (al_cons (ev_ix ix_seq (fun _ _ => rfl) o_ix (ev_callD (D_normal_form.mono (by decide)) hr hgd tk (by rfl) (by decide) (ar_cons (ev_lst (al_cons (ev_str) (al_cons (ev_str) (al_nil)))) (ar_nil))) (ev_int)) (al_cons (ev_ix ix_seq (fun _ _ => rfl) o_ix (ev_callD (D_normal_form.mono (by decide)) hr hgd tk (by rfl) (by decide) (ar_cons (ev_lst (al_cons (ev_str) (al_nil))) (ar_nil))) (ev_int)) (al_nil)))))) <| sv_one (sv_ret (ev_and (ev_cmp (op_eqX hr.units) (nomark _) o_eq (ev_nm 4 (pv 4)) (ev_lst (al_cons (ev_non) (al_cons (ev_tup (al_cons (ev_tup (al_cons (ev_str) (al_cons (ev_str) (al_nil)))) (al_nil))) (al_cons (ev_tup (al_cons (ev_int) (al_nil))) (al_nil)))))) (ev_and1 (ev_cmp (op_eqX hr.units) (nomark _) o_eq (ev_callD (D_normal_form.mono (by decide)) hr hgd tk (by rfl) (by decide) (ar_cons (ev_lst (al_nil)) (ar_nil))) (ev_callD (D__law_form.mono (by decide)) hr hgd tk (by rfl) (by decide) (ar_cons (ev_lst (al_nil)) (ar_nil)))))))
/-! _law_source -/
abbrev s__law_source : Stmt := topS 19
theorem sc__law_source : FnScope ["cell", "k"] ["cell", "k"] (defScope s__law_source) := ⟨rfl, rfl, rfl, by decide +kernel, rfl, by decide +kernel, by decide +kernel⟩
def b__law_source : Stm := retS (lstE (consL (binE gMax2 (kE (.int 0)) (binE gSubI (nmE 0) (binE gPow (kE (.int 10)) (kE (.int 18))))) (consL (binE gAdd (binE gMul (binE gMod (nmE 0) (binE gAdd (binE gPow (kE (.int 10)) (kE (.int 35))) (kE (.int 69)))) (kE (.int 139))) (nmE 1)) (consL (kE (.int 0)) (nilL)))))
abbrev G__law_source : List Ag → FR := runF 2 2 b__law_source
theorem k__law_source {P : Program} {w : World} {K : PySem.W.Frag} {mg : Str → Option Value} {base : Heap} {f : Addr} {fd : FuncData} (F : Fun K "_law_source" "_law_source" s__law_source f fd) (N : Nm mg)  : FnG P w K mg base 1 f fd ["cell", "k"] (spF K 2 2 b__law_source) :=
  fg_of F sc__law_source rfl rfl fun cdv A outer s H β E hr hgd tk po => sv_one (sv_ret (ev_lst (al_cons (ev_b2 (call_max2 rfl) o_max2 (by rfl) N.b_max (by decide +kernel) (ev_int) (ev_bin op_sub o_sub (ev_nm 0 (pv 0)) (ev_bin op_powW o_pow (ev_int) (ev_int)))) (al_cons (ev_bin op_addX o_add (ev_bin op_mulW o_mul (ev_bin op_mod o_mod (ev_nm 0 (pv 0)) (ev_bin op_addX o_add (ev_bin op_powW o_pow (ev_int) (ev_int)) (ev_int))) (ev_int)) (ev_nm 1 (pv 1))) (al_cons (ev_int) (al_nil))))))
/-! law -/
abbrev s_law : Stmt := topS 27
theorem sc_law : FnScope ["script", "k", "cell"] ["script"] (defScope s_law) := ⟨rfl, rfl, rfl, by decide +kernel, rfl, by decide +kernel, by decide +kernel⟩
def b_law : Stm := seqS (forS (enuI (slE (binE gAdd (nmE 0) (lstE (consL (kE (.int 0)) (nilL)))) none (some (binE gMax2 (kE (.int 1)) (binE gMin2 (unE gLen (nmE 0)) (kE (.int 10))))))) (tgTup [1, 2]) (ifS (notB (tstT (callE G__law_holds (consR (callE G__law_source (consR (nmE 2) (consR (nmE 1) (nilR)))) (consR (iteE (tstB (binE gEq (nmE 0) (lstE (nilL)))) (kE (.int 4)) (kE (.int 40))) (nilR)))))) (retS (kE (.bool false))) (nxS))) <| retS (kE (.bool true))
abbrev G_law : List Ag → FR := runF 1 3 b_law
theorem k_law {P : Program} {w : World} {K : PySem.W.Frag} {mg : Str → Option Value} {base : Heap} {f : Addr} {fd : FuncData} (F : Fun K "law" "law" s_law f fd) (N : Nm mg) (D__law_holds : Def P w K mg base "_law_holds" 7 2 5 b__law_holds) (D__law_source : Def P w K mg base "_law_source" 1 2 2 b__law_source) : FnG P w K mg base 8 f fd ["script"] (spF K 1 3 b_law) :=
  fg_of F sc_law rfl rfl fun cdv A outer s H β E hr hgd tk po => sv_cons (sv_for po rfl (iv_enu (by rfl) N.b_enumerate (ev_slH (ev_bin op_addX o_add (ev_nm 0 (pv 0)) (ev_lst (al_cons (ev_int) (al_nil)))) (ev_b2 (call_max2 rfl) o_max2 (by rfl) N.b_max (by decide +kernel) (ev_int) (ev_b2 (call_min2 rfl) o_min2 (by rfl) N.b_min (by decide +kernel) (ev_b1 call_len o_len (by rfl) N.b_len (by decide +kernel) (ev_nm 0 (pv 0))) (ev_int))))) (pg_tup rfl (pgs_cons (pg_name (i := 1) sc_law.nd rfl (by first | exact Or.inl rfl | exact Or.inr rfl)) (pgs_cons (pg_name (i := 2) sc_law.nd rfl (by first | exact Or.inl rfl | exact Or.inr rfl)) (pgs_nil)))) (tg_tup [1, 2]) (sv_one (sv_if (tv_not (tv_truth (ev_callD (D__law_holds.mono (by decide)) hr hgd tk (by rfl) (by decide) (ar_cons (ev_callD (D__law_source.mono (by decide)) hr hgd tk (by rfl) (by decide) (ar_cons (ev_nm 2 (pv 2)) (ar_cons (ev_nm 1 (pv 1)) (ar_nil)))) (ar_cons (ev_ite (tv_cmp (op_eqX hr.units) (nomark _) o_eq (ev_nm 0 (pv 0)) (ev_lst (al_nil))) (ev_int) (ev_int)) (ar_nil)))))) (sv_one (sv_ret (ev_bl))) (sv_nil)))) <| sv_one (sv_ret (ev_bl))
end Lw

/-! Sy1.lean -/
set_option Elab.async false
set_option linter.all false
set_option maxRecDepth 100000
/-! runs of the evaluators, by plain data -/
namespace Mi
open PySem L2
theorem bnd_ok {A B : Type} {f : M A} {g : A → M B} {r r1 : En} {x : A} (h : f r = .ok x r1) : M.bnd f g r = g x r1 := by unfold M.bnd; rw [h]
theorem ofM_ok {A : Type} {f : M A} {g : A → En → Out} {r r1 : En} {x : A} (h : f r = .ok x r1) : ofM f g r = g x r1 := by unfold ofM; rw [h]
theorem lcN_eq {β : Type} {nth : En → Nat → Option (Option PyData)} {tg : PyData → En → Option En} {T : List Nat} {tt : M Bool} {f : M Rv} {W : En} (hW : wipeV W T = W) (xs : List β) (D : β → PyData) (hn : ∀ i : Nat, nth W i = some (xs[i]?.map D)) (c : β → Bool) (y : β → PyData)
    (ht : ∀ d ∈ xs, ∃ r2, tg (D d) W = some r2 ∧ ∃ r3, tt r2 = .ok (c d) r3 ∧ wipeV r3 T = W ∧ (c d = true → ∃ r4, M.bnd f frz r3 = .ok (y d) r4 ∧ wipeV r4 T = W)) :
    ∀ (m i : Nat) (acc : List PyData), xs.length ≤ i + m → acc.length + (xs.length - i) ≤ sizeLine → lcN nth tg T tt f m i acc W = .ok (acc ++ ((xs.drop i).filter c).map y) W := by
  intro m
  induction m with
  | zero =>
    intro i acc hm hz
    unfold lcN
    have e : xs[i]? = none := List.getElem?_eq_none_iff.mpr (by omega)
    rw [hn i, e, List.drop_eq_nil_of_le (by omega)]
    simp
  | succ m ih =>
    intro i acc hm hz
    unfold lcN
    rw [hn i]
    cases e : xs[i]? with
    | none =>
      have hi := List.getElem?_eq_none_iff.mp e
      rw [List.drop_eq_nil_of_le hi]
      simp
    | some d =>
      obtain ⟨hi, hd⟩ := List.getElem?_eq_some_iff.mp e
      obtain ⟨r2, h1, r3, h2, h3, h4⟩ := ht d (List.mem_of_getElem? e)
      have ed : xs.drop i = d :: xs.drop (i + 1) := by rw [← hd]; exact (List.drop_eq_getElem_cons hi)
      simp only [Option.map_some, hW, h1, h2]
      cases ec : c d with
      | false =>
        simp only [h3]
        rw [ih (i + 1) acc (by omega) (by omega), ed, List.filter_cons_of_neg (by simp [ec])]
      | true =>
        obtain ⟨r4, h5, h6⟩ := h4 ec
        simp only [h5, h6]
        rw [if_pos (by omega), ih (i + 1) (acc ++ [y d]) (by omega) (by simp; omega), ed, List.filter_cons_of_pos (by simp [ec])]
        simp
theorem lcE_eq {β : Type} {it : M Src} {s : Src} {tg : PyData → En → Option En} {T : List Nat} {tt : M Bool} {f : M Rv} {r r1 W : En} (hit : it r = .ok s r1) (hc : calm r1 T = true) (hw : wipeV r1 T = W) (hW : wipeV W T = W) (xs : List β) (D : β → PyData) (hn : ∀ i : Nat, s.nth W i = some (xs[i]?.map D)) (hf : xs.length ≤ s.fuel) (hz : xs.length ≤ sizeLine) (c : β → Bool) (y : β → PyData)
    (ht : ∀ d ∈ xs, ∃ r2, tg (D d) W = some r2 ∧ ∃ r3, tt r2 = .ok (c d) r3 ∧ wipeV r3 T = W ∧ (c d = true → ∃ r4, M.bnd f frz r3 = .ok (y d) r4 ∧ wipeV r4 T = W)) :
    lcE it tg T tt f r = .ok (.own (.lst ((xs.filter c).map y))) (restV r1 W T) := by
  refine (bnd_ok hit).trans ?_
  have e := lcN_eq hW xs D hn c y ht s.fuel 0 [] (by omega) (by simpa using hz)
  simp only [hc, if_true, hw, e]
  simp
/-! a list that a name holds: frozen, or the caller's -/
def cell (b : Bool) (ds : List PyData) : Sl := if b then .bor 0 else .val (.list ds)
def oss (b : Bool) (ds : List PyData) : List Bo := if b then [.live (.lst ds)] else []
def loc (b : Bool) (ds : List PyData) : Rv := if b then .at (.obj 0) else .val (.list ds)
def agB (b : Bool) (ds : List PyData) : Ag := if b then .ref (.lst ds) else .val (.list ds)
@[simp] theorem nm_cell {b : Bool} {ds : List PyData} {vs : List (Option Sl)} {os : List Bo} : nmE 0 ⟨some (cell b ds) :: vs, os⟩ = .ok (loc b ds) ⟨some (cell b ds) :: vs, os⟩ := by cases b <;> rfl
@[simp] theorem peek_loc {b : Bool} {ds : List PyData} {vs : List (Option Sl)} : peek ⟨vs, oss b ds⟩ (loc b ds) = some (.list ds) := by cases b <;> rfl
@[simp] theorem entry_cell {b : Bool} {ds : List PyData} {as : List PyData} {n : Nat} : entry n (agB b ds :: as.map .val) = ⟨some (cell b ds) :: (as.map fun d => some (.val d)) ++ List.replicate (n - (as.length + 1)) none, oss b ds⟩ := by
  have h : ∀ (as : List PyData) (k : Nat), entVs (as.map .val) k = as.map fun d => some (.val d) := fun as => by
    induction as with
    | nil => intro k; rfl
    | cons a as ih => intro k; simp [entVs, ih k]
  have h2 : ∀ as : List PyData, entOs (as.map .val) = [] := fun as => by
    induction as with
    | nil => rfl
    | cons a as ih => simpa [entOs] using ih
  cases b <;> simp [entry, agB, cell, oss, entVs, entOs, h, h2]
/-! comprehensions over range(n), and over the items of a list -/
theorem rng_run {e : M Rv} {n : Nat} {r : En} (he : e r = .ok (.val (.int n)) r) (hn : n ≤ 16777216) : rng1 e r = .ok ⟨rngNth 0 n, n⟩ r := by
  refine (bnd_ok he).trans ?_
  show (if -(2 ^ 62) ≤ (n : Int) ∧ (n : Int) < 2 ^ 62 then (Res.ok (⟨rngNth 0 (n : Int).toNat, (n : Int).toNat⟩ : Src) r : Res Src) else .no) = _
  rw [if_pos ⟨by omega, by omega⟩, Int.toNat_natCast]
theorem lcE_rng {e : M Rv} {tg : PyData → En → Option En} {T : List Nat} {tt : M Bool} {f : M Rv} {n : Nat} {r W : En} (he : e r = .ok (.val (.int n)) r) (hn : n ≤ 16777216) (hc : calm r T = true) (hw : wipeV r T = W) (hW : wipeV W T = W) (hr : restV r W T = r) (p : Nat → Bool) (q : Nat → PyData)
    (ht : ∀ i : Nat, i < n → ∃ r2, tg (.int i) W = some r2 ∧ ∃ r3, tt r2 = .ok (p i) r3 ∧ wipeV r3 T = W ∧ (p i = true → ∃ r4, M.bnd f frz r3 = .ok (q i) r4 ∧ wipeV r4 T = W)) :
    lcE (rng1 e) tg T tt f r = .ok (.own (.lst (((List.range n).filter p).map q))) r := by
  have h := lcE_eq (tg := tg) (tt := tt) (f := f) (rng_run he hn) hc hw hW (List.range n) (fun (i : Nat) => PyData.int (i : Int)) (fun i => by
    show rngNth 0 n W i = _
    unfold rngNth
    by_cases h : i < n
    · rw [if_pos h]; simp [h]
    · rw [if_neg h]; simp [h]) (by simp) (by simp [sizeLine]; omega) p q (fun i hi => ht i (List.mem_range.mp hi))
  rw [h, hr]
theorem seq_run {e : M Rv} {x : Rv} {ds : List PyData} {r r1 r2 : En} {y : Rv} (he : e r = .ok x r1) (hh : hold x r1 = .ok y r2) (hp : peek r2 y = some (.list ds)) : seqI e r = .ok ⟨lstNth y, ds.length⟩ r2 := by
  refine (bnd_ok he).trans ((bnd_ok hh).trans ?_)
  simp only [hp]
theorem lcE_seq {β : Type} {e : M Rv} {tg : PyData → En → Option En} {T : List Nat} {tt : M Bool} {f : M Rv} (xs : List β) (D : β → PyData) {x y : Rv} {r r1 r2 W : En} (he : e r = .ok x r1) (hh : hold x r1 = .ok y r2) (hp : peek r2 y = some (.list (xs.map D))) (hpW : peek W y = some (.list (xs.map D))) (hz : xs.length ≤ sizeLine)
    (hc : calm r2 T = true) (hw : wipeV r2 T = W) (hW : wipeV W T = W) (hr : restV r2 W T = r2) (c : β → Bool) (q : β → PyData)
    (ht : ∀ d ∈ xs, ∃ r2, tg (D d) W = some r2 ∧ ∃ r3, tt r2 = .ok (c d) r3 ∧ wipeV r3 T = W ∧ (c d = true → ∃ r4, M.bnd f frz r3 = .ok (q d) r4 ∧ wipeV r4 T = W)) :
    lcE (seqI e) tg T tt f r = .ok (.own (.lst ((xs.filter c).map q))) r2 := by
  have h := lcE_eq (tg := tg) (tt := tt) (f := f) (seq_run he hh hp) hc hw hW xs D (fun i => by
    show lstNth y W i = _
    unfold lstNth
    rw [hpW]
    simp) (by simp) hz c q ht
  rw [h, hr]
theorem zip_run {e h : M Rv} {x x1 y y1 : Rv} {ds es : List PyData} {r : En} (h1 : e r = .ok x r) (h2 : hold x r = .ok x1 r) (h3 : h r = .ok y r) (h4 : hold y r = .ok y1 r) (p1 : peek r x1 = some (.list ds)) (p2 : peek r y1 = some (.list es)) : zipI e h r = .ok ⟨zipNth x1 y1, min ds.length es.length⟩ r := by
  refine (bnd_ok h1).trans ((bnd_ok h2).trans ((bnd_ok h3).trans ((bnd_ok h4).trans ?_)))
  simp only [p1, p2]
theorem lcE_zip {β γ : Type} {e h : M Rv} {tg : PyData → En → Option En} {T : List Nat} {tt : M Bool} {f : M Rv} (xs : List β) (ys : List γ) (D : β → PyData) (E : γ → PyData) {x x1 y y1 : Rv} {r W : En} (h1 : e r = .ok x r) (h2 : hold x r = .ok x1 r) (h3 : h r = .ok y r) (h4 : hold y r = .ok y1 r)
    (p1 : peek r x1 = some (.list (xs.map D))) (p2 : peek r y1 = some (.list (ys.map E))) (q1 : peek W x1 = some (.list (xs.map D))) (q2 : peek W y1 = some (.list (ys.map E))) (hz : xs.length ≤ sizeLine)
    (hc : calm r T = true) (hw : wipeV r T = W) (hW : wipeV W T = W) (hr : restV r W T = r) (c : β × γ → Bool) (q : β × γ → PyData)
    (ht : ∀ d ∈ xs.zip ys, ∃ r2, tg (.tuple [D d.1, E d.2]) W = some r2 ∧ ∃ r3, tt r2 = .ok (c d) r3 ∧ wipeV r3 T = W ∧ (c d = true → ∃ r4, M.bnd f frz r3 = .ok (q d) r4 ∧ wipeV r4 T = W)) :
    lcE (zipI e h) tg T tt f r = .ok (.own (.lst (((xs.zip ys).filter c).map q))) r := by
  have h := lcE_eq (tg := tg) (tt := tt) (f := f) (zip_run h1 h2 h3 h4 p1 p2) hc hw hW (xs.zip ys) (fun d => .tuple [D d.1, E d.2]) (fun i => by
    show zipNth x1 y1 W i = _
    unfold zipNth
    rw [q1, q2]
    simp only [List.getElem?_map, List.getElem?_zip_eq_some, List.zip]
    cases e1 : xs[i]? with
    | none => simp [List.getElem?_zipWith, e1]
    | some a => cases e2 : ys[i]? with
      | none => simp [List.getElem?_zipWith, e1, e2]
      | some b => simp [List.getElem?_zipWith, e1, e2]) (by simp) (by simp; omega) c q ht
  rw [h, hr]
/-! ends of tables -/
abbrev EndS := Option Str
def eD : EndS → PyData
  | none => .none
  | some x => .str x
def tD (t : List EndS) : List PyData := t.map eD
@[simp] theorem tD_len {t : List EndS} : (tD t).length = t.length := by simp [tD]
theorem tD_get {t : List EndS} {i : Nat} {e : EndS} (h : t[i]? = some e) : (tD t)[i]? = some (eD e) := by unfold tD; rw [List.getElem?_map, h]; rfl
theorem eD_flat (a b : EndS) : flatEq (eD a) (eD b) = true := by cases a <;> cases b <;> rfl
theorem eD_eqv (a b : EndS) : PyData.eqv (eD a) (eD b) = decide (a = b) := by
  cases a with
  | none => cases b with
    | none => simp [eD, PyData.eqv]
    | some y => simp [eD, PyData.eqv]
  | some x => cases b with
    | none => simp [eD, PyData.eqv]
    | some y => simp only [eD, PyData.eqv]; rw [Bool.eq_iff_iff]; simp
@[simp] theorem ne_eD (a b : EndS) : gNe (eD a) (eD b) = some (vB (!decide (a = b))) := by unfold gNe eqOk; rw [eD_flat, eD_eqv]; rfl
@[simp] theorem eq_eD (a b : EndS) : gEq (eD a) (eD b) = some (vB (decide (a = b))) := by unfold gEq eqOk; rw [eD_flat, eD_eqv]; rfl
theorem ix_tD {t : List EndS} {i : Nat} {e : EndS} (h : t[i]? = some e) : gIx (.list (tD t)) (.int (i : Int)) = some (.val (eD e)) := by
  unfold gIx
  simp only [L2.atI_nat (tD_get h)]
  rfl
/-- the end at a number -/
def at' (t : List EndS) (n : Nat) : EndS := (t[n]?).getD none
theorem ix_at {t : List EndS} (ht : t.length = 10) {i : Nat} (hi : i < 10) : gIx (.list (tD t)) (.int (i : Int)) = some (.val (eD (at' t i))) := by
  have : t[i]? = some t[i] := List.getElem?_eq_getElem (by omega)
  rw [ix_tD this]
  unfold at'
  rw [this]
  rfl
def ints' (ns : List Nat) : List PyData := ns.map fun (i : Nat) => PyData.int (i : Int)
theorem ix_ints {ns : List Nat} {i n : Nat} (h : ns[i]? = some n) : gIx (.list (ints' ns)) (.int (i : Int)) = some (.val (.int (n : Int))) := by
  unfold gIx
  have : (ints' ns)[i]? = some (.int (n : Int)) := by unfold ints'; rw [List.getElem?_map, h]; rfl
  simp only [L2.atI_nat this]
  rfl
theorem eq_int (i j : Int) : gEq (.int i) (.int j) = some (vB (decide (i = j))) := by
  unfold gEq eqOk
  have : PyData.eqv (.int i) (.int j) = decide (i = j) := by simp only [PyData.eqv]; rw [Bool.eq_iff_iff]; simp
  rw [this]
  rfl
theorem ne_int (i j : Int) : gNe (.int i) (.int j) = some (vB (!decide (i = j))) := by
  unfold gNe eqOk
  have : PyData.eqv (.int i) (.int j) = decide (i = j) := by simp only [PyData.eqv]; rw [Bool.eq_iff_iff]; simp
  rw [this]
  rfl
/-! pure expressions -/
def Pv (f : M Rv) (r : En) (d : PyData) : Prop := ∃ x, f r = .ok x r ∧ peek r x = some d
theorem Pv.of {f : M Rv} {r : En} {d : PyData} {x : Rv} (h : f r = .ok x r) (h2 : peek r x = some d) : Pv f r d := ⟨x, h, h2⟩
theorem Pv.nm {i : Nat} {r : En} {d : PyData} (h : r.vs[i]? = some (some (.val d))) : Pv (nmE i) r d := ⟨.val d, by unfold nmE; rw [h], rfl⟩
theorem Pv.k {r : En} {d : PyData} : Pv (kE d) r d := ⟨.val d, rfl, rfl⟩
theorem bin_eq {g : PyData → PyData → Option Rv} {f h : M Rv} {r : En} {a b : PyData} {z : Rv} (h1 : Pv f r a) (h2 : Pv h r b) (e : g a b = some z) : binE g f h r = .ok z r := by
  obtain ⟨x, e1, p1⟩ := h1
  obtain ⟨y, e2, p2⟩ := h2
  refine (bnd_ok e1).trans ((bnd_ok e2).trans ?_)
  unfold op2
  rw [p1, p2]
  simp only [e]
theorem un_eq {g : PyData → Option Rv} {f : M Rv} {r : En} {a : PyData} {z : Rv} (h1 : Pv f r a) (e : g a = some z) : unE g f r = .ok z r := by
  obtain ⟨x, e1, p1⟩ := h1
  refine (bnd_ok e1).trans ?_
  unfold op1
  rw [p1]
  simp only [e]
theorem Pv.bin {g : PyData → PyData → Option Rv} {f h : M Rv} {r : En} {a b d : PyData} {z : Rv} (h1 : Pv f r a) (h2 : Pv h r b) (e : g a b = some z) (p : peek r z = some d) : Pv (binE g f h) r d := ⟨z, bin_eq h1 h2 e, p⟩
theorem Pv.un {g : PyData → Option Rv} {f : M Rv} {r : En} {a d : PyData} {z : Rv} (h1 : Pv f r a) (e : g a = some z) (p : peek r z = some d) : Pv (unE g f) r d := ⟨z, un_eq h1 e, p⟩
def Pt (t : M Bool) (r : En) (b : Bool) : Prop := t r = .ok b r
theorem Pt.tst {f : M Rv} {r : En} {b : Bool} (h : Pv f r (.bool b)) : Pt (tstB f) r b := by
  obtain ⟨x, e1, p1⟩ := h
  refine (bnd_ok e1).trans ?_
  unfold Mi.tst
  rw [p1]
  rfl
theorem Pt.and {f g : M Bool} {r : En} {a b : Bool} (h1 : Pt f r a) (h2 : a = true → Pt g r b) : Pt (andB f g) r (a && b) := by
  refine (bnd_ok h1).trans ?_
  cases a with
  | false => rfl
  | true => exact h2 rfl
theorem Pt.or {f g : M Bool} {r : En} {a b : Bool} (h1 : Pt f r a) (h2 : a = false → Pt g r b) : Pt (orB f g) r (a || b) := by
  refine (bnd_ok h1).trans ?_
  cases a with
  | true => rfl
  | false => exact h2 rfl
theorem Pt.not {f : M Bool} {r : En} {a : Bool} (h1 : Pt f r a) : Pt (notB f) r (!a) := bnd_ok h1
theorem ret_ok {f : M Rv} {r r1 : En} {x : Rv} (h : f r = .ok x r1) : retS f r = .rt x r1 := ofM_ok h
theorem seq_ok' {f g : Stm} {r r1 : En} (h : f r = .nx r1) : seqS f g r = g r1 := by unfold seqS; rw [h]
theorem if_ok {t : M Bool} {f g : Stm} {r : En} {b : Bool} (h : Pt t r b) : ifS t f g r = if b = true then f r else g r := by
  refine (ofM_ok h).trans ?_
  cases b <;> rfl
theorem nm_frz {i : Nat} {r : En} {d : PyData} (h : r.vs[i]? = some (some (.val d))) : M.bnd (nmE i) frz r = .ok d r := bnd_ok (show nmE i r = .ok (.val d) r by unfold nmE; rw [h])
theorem own_frz {f : M Rv} {r r1 : En} {ds : List PyData} (h : f r = .ok (.own (.lst ds)) r1) : M.bnd f frz r = .ok (.list ds) r1 := bnd_ok h
theorem val_frz {f : M Rv} {r r1 : En} {d : PyData} (h : f r = .ok (.val d) r1) : M.bnd f frz r = .ok d r1 := bnd_ok h
/-! calls that change nothing -/
theorem set_self {β : Type} : ∀ {l : List β} {i : Nat} {x : β}, l[i]? = some x → l.set i x = l
  | [], i, x, h => by simp at h
  | a :: l, 0, x, h => by simp at h; subst h; rfl
  | a :: l, i + 1, x, h => by simp at h; simp [set_self h]
theorem setLo_same {r : En} {l : Lo} {o : Ob} (h : look r l = some (.live o)) : setLo r l (.live o) = r := by
  cases l with
  | slot i => show ({ r with vs := r.vs.set i (some (.own o)) } : En) = r; rw [set_self (look_slot h)]
  | obj k => show ({ r with os := r.os.set k (.live o) } : En) = r; rw [set_self h]
theorem agsOf_vals {r : En} : ∀ es : List PyData, agsOf r (es.map .val) = some (es.map .val, [])
  | [] => rfl
  | e :: es => by
    show (match agOf r (.val e), agsOf r (es.map .val) with
      | some (a, some l), some (as, ls) => some (a :: as, l :: ls)
      | some (a, none), some (as, ls) => some (a :: as, ls)
      | _, _ => none) = _
    rw [agsOf_vals es]
    rfl
/-- an expression that gives a list, frozen or held -/
def Pa (f : M Rv) (r : En) (ds : List PyData) : Prop := ∃ x, f r = .ok x r ∧ (x = .val (.list ds) ∨ ∃ l, x = .at l ∧ look r l = some (.live (.lst ds)))
theorem callB {G : List Ag → FR} {f : M Rv} {g : M (List Rv)} {r : En} {ds es : List PyData} {res : Rv} (h1 : Pa f r ds) (h2 : g r = .ok (es.map .val) r) (hG : ∀ b, G (agB b ds :: es.map .val) = .ret res (oss b ds)) : callE G (consR f g) r = .ok res r := by
  obtain ⟨x, e1, hx⟩ := h1
  refine (bnd_ok (show consR f g r = .ok (x :: es.map .val) r from (bnd_ok e1).trans (bnd_ok h2))).trans ?_
  unfold callF
  rcases hx with rfl | ⟨l, rfl, hl⟩
  · have e : agsOf r (.val (.list ds) :: es.map .val) = some (agB false ds :: es.map .val, []) := agsOf_vals (.list ds :: es)
    rw [e]
    simp only [noDup, if_true, hG false]
    rfl
  · have e : agsOf r (.at l :: es.map .val) = some (agB true ds :: es.map .val, [l]) := by
      show (match agOf r (.at l), agsOf r (es.map .val) with
        | some (a, some l), some (as, ls) => some (a :: as, l :: ls)
        | some (a, none), some (as, ls) => some (a :: as, ls)
        | _, _ => none) = _
      rw [agsOf_vals es]
      have e2 : agOf r (.at l) = some (.ref (.lst ds), some l) := by unfold agOf; simp only [hl]
      rw [e2]
      rfl
    rw [e]
    simp only [noDup, List.contains_nil, Bool.not_false, Bool.and_self, if_true, hG true]
    have e3 : back [l] (oss true ds) r = r := by
      show setLo r l (.live (.lst ds)) = r
      exact setLo_same hl
    rw [e3]
    rfl
theorem callV {G : List Ag → FR} {g : M (List Rv)} {r : En} {es : List PyData} {res : Rv} (h2 : g r = .ok (es.map .val) r) (hG : G (es.map .val) = .ret res []) : callE G g r = .ok res r := by
  refine (bnd_ok h2).trans ?_
  unfold callF
  rw [agsOf_vals es]
  simp only [noDup, if_true, hG]
  rfl
theorem callO {G : List Ag → FR} {f : M Rv} {g : M (List Rv)} {r : En} {o : Ob} {l : Lo} {es : List PyData} {res : Rv} (h1 : f r = .ok (.at l) r) (hl : look r l = some (.live o)) (h2 : g r = .ok (es.map .val) r) (hG : G (.ref o :: es.map .val) = .ret res [.live o]) : callE G (consR f g) r = .ok res r := by
  refine (bnd_ok (show consR f g r = .ok (.at l :: es.map .val) r from (bnd_ok h1).trans (bnd_ok h2))).trans ?_
  unfold callF
  have e : agsOf r (.at l :: es.map .val) = some (.ref o :: es.map .val, [l]) := by
    show (match agOf r (.at l), agsOf r (es.map .val) with
      | some (a, some l), some (as, ls) => some (a :: as, l :: ls)
      | some (a, none), some (as, ls) => some (a :: as, ls)
      | _, _ => none) = _
    rw [agsOf_vals es]
    have e2 : agOf r (.at l) = some (.ref o, some l) := by unfold agOf; simp only [hl]
    rw [e2]
  rw [e]
  simp only [noDup, List.contains_nil, Bool.not_false, Bool.and_self, if_true, hG]
  have e3 : back [l] [.live o] r = r := by
    show setLo r l (.live o) = r
    exact setLo_same hl
  rw [e3]
  rfl
theorem pa_cell {b : Bool} {ds : List PyData} {vs : List (Option Sl)} : Pa (nmE 0) ⟨some (cell b ds) :: vs, oss b ds⟩ ds := ⟨loc b ds, nm_cell, by cases b; exact .inl rfl; exact .inr ⟨_, rfl, rfl⟩⟩
theorem pa_own {i : Nat} {r : En} {ds : List PyData} (h : r.vs[i]? = some (some (.own (.lst ds)))) : Pa (nmE i) r ds := ⟨.at (.slot i), by unfold nmE; rw [h], .inr ⟨_, rfl, by unfold look; simp only [h]⟩⟩
theorem pa_val {i : Nat} {r : En} {ds : List PyData} (h : r.vs[i]? = some (some (.val (.list ds)))) : Pa (nmE i) r ds := ⟨.val (.list ds), by unfold nmE; rw [h], .inl rfl⟩
theorem Pa.pv {f : M Rv} {r : En} {ds : List PyData} (h : Pa f r ds) : Pv f r (.list ds) := by
  obtain ⟨x, e, hx⟩ := h
  refine ⟨x, e, ?_⟩
  rcases hx with rfl | ⟨l, rfl, hl⟩
  · rfl
  · unfold peek content; simp only [hl]; rfl
@[simp] theorem hold_loc {b : Bool} {ds : List PyData} {r : En} : hold (loc b ds) r = .ok (loc b ds) r := by cases b <;> rfl
theorem met_eq {g : PyData → List PyData → Option Rv} {f : M Rv} {a : M (List PyData)} {r : En} {ds as : List PyData} {z : Rv} (h1 : Pv f r (.list ds)) (h2 : a r = .ok as r) (e : g (.list ds) as = some z) : metE g f a r = .ok z r := by
  obtain ⟨x, e1, p1⟩ := h1
  have e3 : isLst x r = .ok x r := by unfold isLst; rw [p1]
  refine (bnd_ok e1).trans ((bnd_ok e3).trans ((bnd_ok h2).trans ?_))
  simp only [p1, e]
theorem Pt.of {t : M Bool} {r : En} {b : Bool} (h : t r = .ok b r) : Pt t r b := h
theorem or_eq {f g : M Rv} {r : En} {a b : Bool} (h1 : Pv f r (.bool a)) (h2 : a = false → g r = .ok (.val (.bool b)) r) : orE f g r = .ok (.val (.bool (a || b))) r := by
  refine (bnd_ok (Pt.tst h1)).trans ?_
  cases a with
  | true => rfl
  | false => exact h2 rfl
theorem and_eq {f g : M Rv} {r : En} {a b : Bool} (h1 : Pv f r (.bool a)) (h2 : a = true → g r = .ok (.val (.bool b)) r) : andE f g r = .ok (.val (.bool (a && b))) r := by
  refine (bnd_ok (Pt.tst h1)).trans ?_
  cases a with
  | false => rfl
  | true => exact h2 rfl
theorem set_own {i : Nat} {f : M Rv} {r r1 : En} {o : Ob} (h : f r = .ok (.own o) r1) : setS i f r = .nx (Mi.put r1 i (.own o)) := ofM_ok h
theorem set_val {i : Nat} {f : M Rv} {r r1 : En} {d : PyData} (h : f r = .ok (.val d) r1) : setS i f r = .nx (Mi.put r1 i (.val d)) := ofM_ok h
theorem any_bools (bs : List Bool) : gAny (.list (bs.map .bool)) = some (vB (bs.any id)) := by
  have e : ∀ bs : List Bool, boolsOf (bs.map .bool) = some bs := fun bs => by
    induction bs with
    | nil => rfl
    | cons b bs ih => simp [boolsOf, ih]
  unfold gAny
  simp only [e bs]
  rfl
theorem all_bools (bs : List Bool) : gAll (.list (bs.map .bool)) = some (vB (bs.all id)) := by
  have e : ∀ bs : List Bool, boolsOf (bs.map .bool) = some bs := fun bs => by
    induction bs with
    | nil => rfl
    | cons b bs ih => simp [boolsOf, ih]
  unfold gAll
  simp only [e bs]
  rfl
theorem cnt_tD (t : List EndS) (e : EndS) : gCnt (.list (tD t)) [eD e] = some (vI (t.count e : Nat)) := by
  have h1 : (tD t).all flatD = true := by
    unfold tD
    induction t with
    | nil => rfl
    | cons a t ih => simp only [List.map_cons, List.all_cons, ih, Bool.and_true]; cases a <;> rfl
  have h2 : flatD (eD e) = true := by cases e <;> rfl
  have h3 : (tD t).countP (fun z => PyData.eqv z (eD e)) = t.count e := by
    unfold tD
    rw [List.countP_map]
    unfold List.count
    congr 1
    funext a
    simp only [Function.comp, eD_eqv]
    rw [Bool.eq_iff_iff]
    simp
  unfold gCnt
  simp only [h1, h2, Bool.and_self, if_true, h3]
theorem isN_eD (e : EndS) : gIsN (eD e) .none = some (vB (decide (e = none))) := by cases e <;> rfl
theorem isntN_eD (e : EndS) : gIsntN (eD e) .none = some (vB (!decide (e = none))) := by cases e <;> rfl
theorem lst_eq {f : M (List PyData)} {r r1 : En} {ds : List PyData} (h : f r = .ok ds r1) (hz : ds.length ≤ sizeLine) : lstE f r = .ok (.own (.lst ds)) r1 := by
  refine (bnd_ok h).trans ?_
  simp only [hz, if_true]
theorem tup_eq {f : M (List PyData)} {r r1 : En} {ds : List PyData} (h : f r = .ok ds r1) (hz : ds.length ≤ sizeLine) : tupE f r = .ok (.val (.tuple ds)) r1 := by
  refine (bnd_ok h).trans ?_
  simp only [hz, if_true]
theorem ite_eq {t : M Bool} {f g : M Rv} {r : En} {b : Bool} (h : Pt t r b) : iteE t f g r = if b = true then f r else g r := by
  refine (bnd_ok h).trans ?_
  cases b <;> rfl
theorem if_go {t : M Bool} {f g : Stm} {r r1 : En} {b : Bool} (h : t r = .ok b r1) : ifS t f g r = if b = true then f r1 else g r1 := by
  refine (ofM_ok h).trans ?_
  cases b <;> rfl
theorem tst_go {f : M Rv} {r r1 : En} {x : Rv} {b : Bool} (h : f r = .ok x r1) (p : peek r1 x = some (.bool b)) : tstB f r = .ok b r1 := by
  refine (bnd_ok h).trans ?_
  unfold Mi.tst
  rw [p]
  rfl
theorem Pt.tstT {f : M Rv} {r : En} {b : Bool} (h : Pv f r (.bool b)) : Pt (Mi.tstT f) r b := by
  obtain ⟨x, e1, p1⟩ := h
  refine (bnd_ok e1).trans ?_
  unfold Mi.tst
  rw [p1]
  rfl
theorem Pv.own' {f : M Rv} {r : En} {ds : List PyData} (h : f r = .ok (.own (.lst ds)) r) : Pv f r (.list ds) := ⟨_, h, rfl⟩
theorem Pv.val {f : M Rv} {r : En} {d : PyData} (h : f r = .ok (.val d) r) : Pv f r d := ⟨_, h, rfl⟩
/-- if t: return ..; rest -/
theorem sif {t : M Bool} {f rest : Stm} {r r1 r2 : En} {b : Bool} {x : Rv} {o : Out} (h : t r = .ok b r1) (hf : f r1 = .rt x r2) (hg : rest r1 = o) : seqS (ifS t f nxS) rest r = if b = true then .rt x r2 else o := by
  have e := if_go (f := f) (g := nxS) h
  cases b with
  | true =>
    simp only [if_true] at e ⊢
    unfold seqS
    rw [e, hf]
  | false =>
    simp only [Bool.false_eq_true, if_false] at e ⊢
    unfold seqS
    rw [e]
    exact hg
theorem sto_eq {f g : M Rv} {j n : Nat} {r r1 : En} {d : PyData} {ds : List PyData} (h1 : f r = .ok (.val d) r1) (h2 : r1.vs[j]? = some (some (.own (.lst ds)))) (h3 : Pv g r1 (.int (n : Int))) (h4 : n < ds.length) : stoS f j g r = .nx (setLo r1 (.slot j) (.live (.lst (ds.set n d)))) := by
  obtain ⟨x, e3, p3⟩ := h3
  have e2 : nmE j r1 = .ok (.at (.slot j)) r1 := by unfold nmE; rw [h2]
  refine (ofM_ok h1).trans ((ofM_ok (show frz (.val d) r1 = .ok d r1 from rfl)).trans ((ofM_ok e2).trans ((ofM_ok e3).trans ?_)))
  have e4 : look r1 (.slot j) = some (.live (.lst ds)) := by unfold look; simp only [h2]
  have e5 : L2.ixN ds.length (n : Int) = some n := by unfold L2.ixN; simp [h4]
  unfold stoF
  simp only [e4, p3, e5]
theorem eq_str (x y : Str) : gEq (.str x) (.str y) = some (vB (decide (x = y))) := by
  have := eq_eD (some x) (some y)
  simpa [eD] using this
/-- a list that a name holds: its own, frozen, or the caller's -/
def cell3 (k : Option Bool) (ds : List PyData) : Sl := match k with
  | none => .own (.lst ds)
  | some b => cell b ds
def oss3 (k : Option Bool) (ds : List PyData) : List Bo := match k with
  | none => []
  | some b => oss b ds
def ag3 (k : Option Bool) (ds : List PyData) : Ag := match k with
  | none => .own (.lst ds)
  | some b => agB b ds
theorem pa_cell3 {k : Option Bool} {ds : List PyData} {vs : List (Option Sl)} : Pa (nmE 0) ⟨some (cell3 k ds) :: vs, oss3 k ds⟩ ds := by
  cases k with
  | none => exact ⟨.at (.slot 0), rfl, .inr ⟨_, rfl, rfl⟩⟩
  | some b => cases b; exact ⟨.val (.list ds), rfl, .inl rfl⟩; exact ⟨.at (.obj 0), rfl, .inr ⟨_, rfl, rfl⟩⟩
theorem entry_cell3 {k : Option Bool} {ds : List PyData} {as : List PyData} {n : Nat} : entry n (ag3 k ds :: as.map .val) = ⟨some (cell3 k ds) :: (as.map fun d => some (.val d)) ++ List.replicate (n - (as.length + 1)) none, oss3 k ds⟩ := by
  cases k with
  | some b => exact entry_cell
  | none =>
    have h := entry_cell (b := false) (ds := ds) (as := as) (n := n)
    have h1 : ∀ (as : List PyData) (k : Nat), entVs (as.map .val) k = as.map fun d => some (.val d) := fun as => by
      induction as with
      | nil => intro k; rfl
      | cons a as ih => intro k; simp [entVs, ih k]
    have h2 : ∀ as : List PyData, entOs (as.map .val) = [] := fun as => by
      induction as with
      | nil => rfl
      | cons a as ih => simpa [entOs] using ih
    simp [entry, ag3, cell3, oss3, entVs, entOs, h1, h2]
/-- tables of plain names -/
structure TabOk (t : List EndS) : Prop where
  len : t.length = 10
  str : ∀ x : Str, some x ∈ t → PyData.strOk x = true
theorem shaped_eD {e : EndS} (h : ∀ x : Str, e = some x → PyData.strOk x = true) : SeqAt.shaped (eD e) = true := by
  cases e with
  | none => rfl
  | some x =>
    have := h x rfl
    unfold SeqAt.shaped eD
    simp only [PyData.canLay0, PyData.depth, this]
    rfl
theorem shaped_tD {t : List EndS} (h : ∀ x : Str, some x ∈ t → PyData.strOk x = true) : SeqAt.shaped (.list (tD t)) = true := by
  have h1 : PyData.canLayAll0 (tD t) = true := by
    unfold tD
    induction t with
    | nil => rfl
    | cons e t ih =>
      have h2 := ih fun x hx => h x (List.mem_cons_of_mem _ hx)
      have h3 : PyData.canLay0 (eD e) = true := by
        cases e with
        | none => rfl
        | some x => simp only [eD, PyData.canLay0]; exact h x List.mem_cons_self
      simp only [List.map_cons, PyData.canLayAll0, h2, h3, Bool.and_self]
  have h2 : PyData.depthAll (tD t) = 0 := by
    clear h h1
    unfold tD
    induction t with
    | nil => rfl
    | cons e t ih => cases e <;> simp only [List.map_cons, PyData.depthAll, eD, PyData.depth, ih, Nat.max_self]
  unfold SeqAt.shaped
  simp only [PyData.canLay0, PyData.depth, h1, h2]
  rfl
theorem notIn_tD {t : List EndS} {e : EndS} (ht : ∀ x : Str, some x ∈ t → PyData.strOk x = true) (he : ∀ x : Str, e = some x → PyData.strOk x = true) : gNotIn (eD e) (.list (tD t)) = some (vB (!decide (e ∈ t))) := by
  have h1 : ((tD t).any fun z => PyData.eqv z (eD e)) = decide (e ∈ t) := by
    unfold tD
    rw [List.any_map, Bool.eq_iff_iff]
    simp only [List.any_eq_true, Function.comp, eD_eqv, decide_eq_true_eq]
    exact ⟨fun ⟨x, hx, h⟩ => h ▸ hx, fun h => ⟨e, h, rfl⟩⟩
  have h2 : gInB (eD e) (.list (tD t)) = if (SeqAt.shaped (eD e) && SeqAt.shaped (.list (tD t))) = true then some ((tD t).any fun z => PyData.eqv z (eD e)) else none := by
    unfold gInB
    split
    · rename_i h; cases h
    · rename_i h; cases h; rfl
    · rename_i h; cases h
    · simp_all
  unfold gNotIn
  rw [h2, shaped_eD he, shaped_tD ht, h1]
  rfl
theorem un_go {g : PyData → Option Rv} {f : M Rv} {r r1 : En} {a : PyData} {x z : Rv} (h1 : f r = .ok x r1) (p1 : peek r1 x = some a) (e : g a = some z) : unE g f r = .ok z r1 := by
  refine (bnd_ok h1).trans ?_
  unfold op1
  rw [p1]
  simp only [e]
theorem bin_go {g : PyData → PyData → Option Rv} {f h : M Rv} {r r1 r2 : En} {a b : PyData} {x y z : Rv} (h1 : f r = .ok x r1) (h2 : h r1 = .ok y r2) (p1 : peek r2 x = some a) (p2 : peek r2 y = some b) (e : g a b = some z) : binE g f h r = .ok z r2 := by
  refine (bnd_ok h1).trans ((bnd_ok h2).trans ?_)
  unfold op2
  rw [p1, p2]
  simp only [e]
theorem ft {β : Type} (l : List β) : l.filter (fun _ => true) = l := List.filter_eq_self.mpr fun _ _ => rfl
theorem forN_inv {β : Type} {nth : En → Nat → Option (Option PyData)} {tg : PyData → En → Option En} {bd : Stm} (xs : List β) (D : β → PyData) (I : Nat → En → Prop) (hn : ∀ i r, I i r → nth r i = some (xs[i]?.map D))
    (step : ∀ (i : Nat) (r : En) (x : β), I i r → xs[i]? = some x → ∃ r1 r2, tg (D x) r = some r1 ∧ bd r1 = .nx r2 ∧ I (i + 1) r2) : ∀ (m i : Nat) (r : En), I i r → i ≤ xs.length → xs.length ≤ i + m → ∃ r', forN nth tg bd m i r = .nx r' ∧ I xs.length r' := by
  intro m
  induction m with
  | zero =>
    intro i r h h1 h2
    have e : i = xs.length := by omega
    subst e
    unfold forN
    rw [hn _ r h, List.getElem?_eq_none_iff.mpr (Nat.le_refl _)]
    exact ⟨r, rfl, h⟩
  | succ m ih =>
    intro i r h h1 h2
    unfold forN
    rw [hn _ r h]
    cases e : xs[i]? with
    | none =>
      have := List.getElem?_eq_none_iff.mp e
      have e2 : i = xs.length := by omega
      subst e2
      exact ⟨r, rfl, h⟩
    | some x =>
      obtain ⟨r1, r2, e1, e2, h3⟩ := step i r x h e
      have := (List.getElem?_eq_some_iff.mp e).1
      obtain ⟨r', e3, h4⟩ := ih (i + 1) r2 h3 (by omega) (by omega)
      refine ⟨r', ?_, h4⟩
      simp only [Option.map_some, e1, e2]
      exact e3
theorem for_seq {β : Type} {e : M Rv} {tg : PyData → En → Option En} {bd : Stm} (xs : List β) (D : β → PyData) {x y : Rv} {r r1 r2 : En} (he : e r = .ok x r1) (hh : hold x r1 = .ok y r2) (hp : peek r2 y = some (.list (xs.map D))) (I : Nat → En → Prop) (hI : I 0 r2) (hn : ∀ i r, I i r → peek r y = some (.list (xs.map D)))
    (step : ∀ (i : Nat) (r : En) (x : β), I i r → xs[i]? = some x → ∃ r1 r2, tg (D x) r = some r1 ∧ bd r1 = .nx r2 ∧ I (i + 1) r2) : ∃ r', forS (seqI e) tg bd r = .nx r' ∧ I xs.length r' := by
  obtain ⟨r', e1, h⟩ := forN_inv (nth := lstNth y) xs D I (fun i r h => by unfold lstNth; rw [hn i r h]; simp) step xs.length 0 r2 hI (Nat.zero_le _) (by omega)
  refine ⟨r', (ofM_ok (seq_run he hh hp)).trans ?_, h⟩
  simp only [List.length_map]
  exact e1
theorem for_rng {e : M Rv} {tg : PyData → En → Option En} {bd : Stm} {n : Nat} {r r1 : En} (he : e r = .ok (.val (.int n)) r1) (hn : n ≤ 16777216) (I : Nat → En → Prop) (hI : I 0 r1)
    (step : ∀ (i : Nat) (r : En), I i r → i < n → ∃ r1 r2, tg (.int (i : Int)) r = some r1 ∧ bd r1 = .nx r2 ∧ I (i + 1) r2) : ∃ r', forS (rng1 e) tg bd r = .nx r' ∧ I n r' := by
  obtain ⟨r', e1, h⟩ := forN_inv (nth := rngNth 0 n) (List.range n) (fun (i : Nat) => PyData.int (i : Int)) I (fun i r h => by
    unfold rngNth
    by_cases h : i < n
    · rw [if_pos h]; simp [h]
    · rw [if_neg h]; simp [h]) (fun i r x h hx => by
      have hi : i < n := by have := (List.getElem?_eq_some_iff.mp hx).1; simpa using this
      have : x = i := by have := (List.getElem?_eq_some_iff.mp hx).2; simpa using this.symm
      subst this
      exact step x r h hi) n 0 r1 hI (Nat.zero_le _) (by simp)
  rw [List.length_range] at h
  refine ⟨r', (ofM_ok (?_ : rng1 e r = .ok ⟨rngNth 0 n, n⟩ r1)).trans e1, h⟩
  refine (bnd_ok he).trans ?_
  show (if -(2 ^ 62) ≤ (n : Int) ∧ (n : Int) < 2 ^ 62 then (Res.ok (⟨rngNth 0 (n : Int).toNat, (n : Int).toNat⟩ : Src) r1 : Res Src) else .no) = _
  rw [if_pos ⟨by omega, by omega⟩, Int.toNat_natCast]
theorem run_eq {np n : Nat} {bd : Stm} {as : List Ag} {r : En} {o : Out} (h : as.length = np) (e : entry n as = r) (q : bd r = o) : runF np n bd as = finish o := by unfold runF; rw [if_pos h, e, q]
end Mi

/-! Ru0.lean -/
set_option Elab.async false
set_option linter.all false
set_option maxRecDepth 100000
/-! runs, step by step: one lemma for each shape, for a tactic that goes backwards -/
namespace Mi
open PySem L2
variable {r r1 r2 r3 : En} {x y z : Rv} {a b c d : PyData} {as ds es : List PyData}
theorem nm_val {i : Nat} (h : r.vs[i]? = some (some (.val d))) : nmE i r = .ok (.val d) r := by unfold nmE; rw [h]
theorem nm_own {i : Nat} {o : Ob} (h : r.vs[i]? = some (some (.own o))) : nmE i r = .ok (.at (.slot i)) r := by unfold nmE; rw [h]
theorem nm_bor {i k : Nat} (h : r.vs[i]? = some (some (.bor k))) : nmE i r = .ok (.at (.obj k)) r := by unfold nmE; rw [h]
theorem k_go : kE d r = .ok (.val d) r := rfl
theorem bin_go' {g : PyData → PyData → Option Rv} {f h : M Rv} (h1 : f r = .ok x r1) (h2 : h r1 = .ok y r2) (p1 : peek r2 x = some a) (p2 : peek r2 y = some b) (e : g a b = some z) : binE g f h r = .ok z r2 := by
  refine (bnd_ok h1).trans ((bnd_ok h2).trans ?_)
  unfold op2
  rw [p1, p2]
  simp only [e]
theorem un_go' {g : PyData → Option Rv} {f : M Rv} (h1 : f r = .ok x r1) (p1 : peek r1 x = some a) (e : g a = some z) : unE g f r = .ok z r1 := by
  refine (bnd_ok h1).trans ?_
  unfold op1
  rw [p1]
  simp only [e]
theorem nilL_go : nilL r = .ok [] r := rfl
theorem consL_go {f : M Rv} {g : M (List PyData)} (h1 : f r = .ok x r1) (h2 : frz x r1 = .ok d r2) (h3 : g r2 = .ok ds r3) : consL f g r = .ok (d :: ds) r3 := (bnd_ok h1).trans ((bnd_ok h2).trans ((bnd_ok h3).trans rfl))
theorem tup_go {f : M (List PyData)} (h : f r = .ok ds r1) (hz : ds.length ≤ sizeLine) : tupE f r = .ok (.val (.tuple ds)) r1 := tup_eq h hz
theorem lst_go {f : M (List PyData)} (h : f r = .ok ds r1) (hz : ds.length ≤ sizeLine) : lstE f r = .ok (.own (.lst ds)) r1 := lst_eq h hz
theorem nilR_go : nilR r = .ok [] r := rfl
theorem consR_go {f : M Rv} {g : M (List Rv)} {xs : List Rv} (h1 : f r = .ok x r1) (h2 : g r1 = .ok xs r2) : consR f g r = .ok (x :: xs) r2 := (bnd_ok h1).trans ((bnd_ok h2).trans rfl)
theorem call_go {G : List Ag → FR} {f : M (List Rv)} {xs : List Rv} {ags : List Ag} {ls : List Lo} {os : List Bo} (h1 : f r = .ok xs r1) (h2 : agsOf r1 xs = some (ags, ls)) (h3 : noDup ls = true) (h4 : G ags = .ret x os) (h5 : os.length = ls.length) : callE G f r = .ok x (back ls os r1) := by
  refine (bnd_ok h1).trans ?_
  unfold callF
  rw [h2]
  simp only [h3, if_true, h4, h5]
theorem fz_go {f : M Rv} (h1 : f r = .ok x r1) (h2 : frz x r1 = .ok d r2) : fzE f r = .ok (.val d) r2 := (bnd_ok h1).trans ((bnd_ok h2).trans rfl)
theorem mut_go {i : Nat} {up : List PyData → List PyData → Option (List PyData × PyData)} {g : M (List PyData)} {l : Lo} {ds' : List PyData} (h1 : nmE i r = .ok (.at l) r) (h0 : look r l = some (.live (.lst es))) (h2 : g r = .ok as r1) (h3 : look r1 l = some (.live (.lst ds))) (h4 : up ds as = some (ds', d)) : mutE i up g r = .ok (.val d) (setLo r1 l (.live (.lst ds'))) := by
  have e3 : isLst (.at l) r = .ok (.at l) r := by unfold isLst peek content; simp only [h0, Option.bind]; rfl
  refine (bnd_ok h1).trans ((bnd_ok e3).trans ((bnd_ok h2).trans ?_))
  unfold mutF
  simp only [h3, h4]
theorem app_go (h : ds.length < sizeLine) : uApp ds [d] = some (ds ++ [d], .none) := by unfold uApp; simp only [h, if_true]
theorem met_go {g : PyData → List PyData → Option Rv} {f : M Rv} {h : M (List PyData)} (h1 : f r = .ok x r1) (p0 : peek r1 x = some (.list es)) (h2 : h r1 = .ok as r2) (p1 : peek r2 x = some d) (e : g d as = some z) : metE g f h r = .ok z r2 := by
  have e3 : isLst x r1 = .ok x r1 := by unfold isLst; rw [p0]
  refine (bnd_ok h1).trans ((bnd_ok e3).trans ((bnd_ok h2).trans ?_))
  simp only [p1, e]
theorem sl0_go {f : M Rv} (h1 : f r = .ok x r1) (p1 : peek r1 x = some d) (e : gSl d none none = some z) : slE f none none r = .ok z r1 := by
  refine (bnd_ok h1).trans ((bnd_ok (show optI none r1 = .ok none r1 from rfl)).trans ((bnd_ok (show optI none r1 = .ok none r1 from rfl)).trans ?_))
  simp only [p1, Option.bind, e]
theorem opt_go {g : M Rv} {i : Int} (h1 : g r = .ok x r1) (p1 : peek r1 x = some (.int i)) : optI (some g) r = .ok (some i) r1 := by
  refine (bnd_ok h1).trans ?_
  simp only [p1]
theorem slL_go {f g : M Rv} {i : Int} (h1 : f r = .ok x r1) (h2 : g r1 = .ok y r2) (p2 : peek r2 y = some (.int i)) (p1 : peek r2 x = some d) (e : gSl d (some i) none = some z) : slE f (some g) none r = .ok z r2 := by
  refine (bnd_ok h1).trans ((bnd_ok (opt_go h2 p2)).trans ((bnd_ok (show optI none r2 = .ok none r2 from rfl)).trans ?_))
  simp only [p1, Option.bind, e]
theorem slH_go {f g : M Rv} {i : Int} (h1 : f r = .ok x r1) (h2 : g r1 = .ok y r2) (p2 : peek r2 y = some (.int i)) (p1 : peek r2 x = some d) (e : gSl d none (some i) = some z) : slE f none (some g) r = .ok z r2 := by
  refine (bnd_ok h1).trans ((bnd_ok (show optI none r1 = .ok none r1 from rfl)).trans ((bnd_ok (opt_go h2 p2)).trans ?_))
  simp only [p1, Option.bind, e]
theorem slLH_go {f g h : M Rv} {i j : Int} (h1 : f r = .ok x r1) (h2 : g r1 = .ok y r2) (p2 : peek r2 y = some (.int i)) {w : Rv} (h3 : h r2 = .ok w r3) (p3 : peek r3 w = some (.int j)) (p1 : peek r3 x = some d) (e : gSl d (some i) (some j) = some z) : slE f (some g) (some h) r = .ok z r3 := by
  refine (bnd_ok h1).trans ((bnd_ok (opt_go h2 p2)).trans ((bnd_ok (opt_go h3 p3)).trans ?_))
  simp only [p1, Option.bind, e]
theorem dnew_go : dnewE r = .ok (.own (.dct [])) r := rfl
theorem rep_go {f g : M Rv} {k : Int} (h1 : f r = .ok (.own (.lst ds)) r1) (h2 : g r1 = .ok y r2) (p2 : peek r2 y = some (.int k)) (hk : (-(2 ^ 63) ≤ k ∧ k < 2 ^ 63) ∧ ds.length * k.toNat ≤ sizeLine) : repE f g r = .ok (.own (.lst (List.replicate k.toNat ds).flatten)) r2 := by
  refine (bnd_ok h1).trans ((bnd_ok h2).trans ?_)
  simp only [p2]
  rw [if_pos hk]
theorem lrg_go {f : M Rv} {j : Int} (h1 : f r = .ok x r1) (p1 : peek r1 x = some (.int j)) (hj : 0 ≤ j ∧ j ≤ 16777216) : lrgE f r = .ok (.own (.lst (rgD 0 j))) r1 := by
  refine (bnd_ok h1).trans ?_
  simp only [p1]
  rw [if_pos hj]
/-! tests -/
theorem tB_go {f : M Rv} {k : Bool} (h : f r = .ok x r1) (p : peek r1 x = some (.bool k)) : tstB f r = .ok k r1 := tst_go h p
theorem tT_go {f : M Rv} {k : Bool} (h : f r = .ok x r1) (p : peek r1 x = some d) (e : truthOf d = some k) : tstT f r = .ok k r1 := by
  refine (bnd_ok h).trans ?_
  unfold Mi.tst
  rw [p]
  simp only [Option.bind, e]
theorem and_go {f g : M Bool} {k l : Bool} (h1 : f r = .ok k r1) (h2 : k = true → g r1 = .ok l r1) : andB f g r = .ok (k && l) r1 := by
  refine (bnd_ok h1).trans ?_
  cases k with
  | false => rfl
  | true => exact h2 rfl
theorem or_go {f g : M Bool} {k l : Bool} (h1 : f r = .ok k r1) (h2 : k = false → g r1 = .ok l r1) : orB f g r = .ok (k || l) r1 := by
  refine (bnd_ok h1).trans ?_
  cases k with
  | true => rfl
  | false => exact h2 rfl
theorem not_go {f : M Bool} {k : Bool} (h1 : f r = .ok k r1) : notB f r = .ok (!k) r1 := bnd_ok h1
theorem yes_go : yesB r = .ok true r := rfl
theorem andE_go {f g : M Rv} {k l : Bool} (h1 : f r = .ok x r1) (p1 : peek r1 x = some (.bool k)) (h2 : k = true → g r1 = .ok (.val (.bool l)) r1) : andE f g r = .ok (.val (.bool (k && l))) r1 := by
  refine (bnd_ok (tB_go h1 p1)).trans ?_
  cases k with
  | false => rfl
  | true => exact h2 rfl
theorem orE_go {f g : M Rv} {k l : Bool} (h1 : f r = .ok x r1) (p1 : peek r1 x = some (.bool k)) (h2 : k = false → g r1 = .ok (.val (.bool l)) r1) : orE f g r = .ok (.val (.bool (k || l))) r1 := by
  refine (bnd_ok (tB_go h1 p1)).trans ?_
  cases k with
  | true => rfl
  | false => exact h2 rfl
theorem notE_go {f : M Rv} {k : Bool} (h1 : f r = .ok x r1) (p1 : peek r1 x = some (.bool k)) : notE f r = .ok (.val (.bool (!k))) r1 := bnd_ok (tB_go h1 p1)
theorem ite_go {t : M Bool} {f g : M Rv} {k : Bool} (h : t r = .ok k r1) (h1 : k = true → f r1 = .ok (.val a) r2) (h2 : k = false → g r1 = .ok (.val b) r2) : iteE t f g r = .ok (.val (if k = true then a else b)) r2 := by
  refine (bnd_ok h).trans ?_
  cases k with
  | true => exact h1 rfl
  | false => exact h2 rfl
theorem iteT_go {t : M Bool} {f g : M Rv} (h : t r = .ok true r1) (h1 : f r1 = .ok x r2) : iteE t f g r = .ok x r2 := (bnd_ok h).trans h1
theorem iteF_go {t : M Bool} {f g : M Rv} (h : t r = .ok false r1) (h1 : g r1 = .ok x r2) : iteE t f g r = .ok x r2 := (bnd_ok h).trans h1
theorem ch_go {g g' : PyData → PyData → Option Rv} {fa fb fc : M Rv} {k l : Bool} (h1 : fa r = .ok x r) (h2 : fb r = .ok y r) (p1 : peek r x = some a) (p2 : peek r y = some b) (e1 : g a b = some (.val (.bool k))) (h3 : fc r = .ok z r) (p3 : peek r z = some c) (e2 : g' b c = some (.val (.bool l))) : chE g g' fa fb fc r = .ok (.val (.bool (k && l))) r := by
  have t : M.bnd (op2 g x y) (Mi.tst boolOf) r = .ok k r := by
    refine (bnd_ok (show op2 g x y r = .ok (.val (.bool k)) r by unfold op2; rw [p1, p2]; simp only [e1])).trans ?_
    rfl
  refine (bnd_ok h1).trans ((bnd_ok h2).trans ((bnd_ok t).trans ?_))
  cases k with
  | false => rfl
  | true =>
    refine (bnd_ok h3).trans ?_
    unfold op2
    rw [p2, p3]
    simp only [e2, Bool.true_and]
/-! statements -/
theorem set_go {i : Nat} {f : M Rv} {o : Out} (h : f r = .ok x r1) (h2 : bindR i x r1 = o) : setS i f r = o := (ofM_ok h).trans h2
theorem seq_nx {f g : Stm} (h : f r = .nx r1) : seqS f g r = g r1 := by unfold seqS; rw [h]
theorem seq_rt {f g : Stm} (h : f r = .rt x r1) : seqS f g r = .rt x r1 := by unfold seqS; rw [h]
theorem if_T {t : M Bool} {f g : Stm} (h : t r = .ok true r1) : ifS t f g r = f r1 := ofM_ok h
theorem if_F {t : M Bool} {f g : Stm} (h : t r = .ok false r1) : ifS t f g r = g r1 := ofM_ok h
theorem ret_go {f : M Rv} (h : f r = .ok x r1) : retS f r = .rt x r1 := ofM_ok h
theorem drop_go {f : M Rv} (h : f r = .ok x r1) : dropS f r = .nx r1 := ofM_ok h
theorem unp_go {is : List Nat} {f : M Rv} (h : f r = .ok x r1) (p : peek r1 x = some (.tuple ds)) (e : bindL is ds r1 = some r2) : unpS is f r = .nx r2 := by
  refine (ofM_ok h).trans ?_
  simp only [p, e]
theorem unl_go {is : List Nat} {f : M Rv} (h : f r = .ok x r1) (p : peek r1 x = some (.list ds)) (e0 : frz x r1 = .ok d r2) (e : bindL is ds r2 = some r3) : unlS is f r = .nx r3 := by
  refine (ofM_ok h).trans ?_
  simp only [p, e0, e]
theorem sto_go {f g : M Rv} {j : Nat} {l : Lo} {k : Int} {n : Nat} {r4 : En} (h1 : f r = .ok x r1) (h2 : frz x r1 = .ok d r2) (h3 : nmE j r2 = .ok (.at l) r2) (h4 : g r2 = .ok y r4) (p : peek r4 y = some (.int k)) (q : look r4 l = some (.live (.lst ds))) (e : L2.ixN ds.length k = some n) : stoS f j g r = .nx (setLo r4 l (.live (.lst (ds.set n d)))) := by
  refine (ofM_ok h1).trans ((ofM_ok h2).trans ((ofM_ok h3).trans ((ofM_ok h4).trans ?_)))
  unfold stoF
  simp only [q, p, e]
theorem ixN_nat {n k : Nat} (h : k < n) : L2.ixN n ((k : Nat) : Int) = some k := by unfold L2.ixN; rw [if_pos (by omega), if_pos (by omega)]; simp
theorem par_go {i j : Nat} {g : M (List Rv)} {s t : Sl} {x' y' : Rv} (h : g r = .ok [x, y] r1) (h1 : deS x r1 = .ok x' r2) (h2 : deS y r2 = .ok y' r3) (e1 : slOf r3 x' = some s) (e2 : slOf r3 y' = some t) : parS i j g r = .nx (put (put r3 i s) j t) := by
  unfold parS
  simp only [h, h1, h2, e1, e2]
theorem aug_go {i : Nat} {f : M Rv} {k l : Int} (h0 : r.vs[i]? = some (some (.val (.int k)))) (h : f r = .ok x r1) (p : peek r1 x = some (.int l)) : augN i f r = .nx (put r1 i (.val (.int (k + l)))) := by
  unfold augN
  simp only [h0]
  refine (ofM_ok h).trans ?_
  unfold augF
  simp only [p]
/-! the end of a def -/
theorem run_go {np n : Nat} {bd : Stm} {ags : List Ag} {r0 : En} {o : Out} {q : FR} (h : ags.length = np) (e : entry n ags = r0) (h2 : bd r0 = o) (h3 : Mi.finish o = q) : runF np n bd ags = q := by
  unfold runF
  rw [if_pos h, e, h2, h3]
end Mi
namespace Mi
variable {r r1 r2 r3 : En} {x : Rv} {o : Out}
theorem seq_st {f g : Stm} (h : f r = .nx r1) (h2 : g r1 = o) : seqS f g r = o := (seq_nx h).trans h2
theorem if_Tk {t : M Bool} {f g : Stm} {k : Bool} (h : t r = .ok k r1) (e : k = true) (h2 : f r1 = o) : ifS t f g r = o := by subst e; exact (if_T h).trans h2
theorem if_Fk {t : M Bool} {f g : Stm} {k : Bool} (h : t r = .ok k r1) (e : k = false) (h2 : g r1 = o) : ifS t f g r = o := by subst e; exact (if_F h).trans h2
theorem seq_ret {f g : Stm} {v : Rv} (h : f r = .rt v r1) : seqS f g r = .rt v r1 := seq_rt h
theorem nx_go : nxS r = .nx r := rfl
end Mi
namespace Mi
open PySem
variable {r r1 r2 r3 : En} {x : Rv} {o : Out} {vs vs' : List (Option Sl)} {os os' : List Bo}
theorem set_val' {i : Nat} {f : M Rv} {d : PyData} (h : f r = .ok (.val d) ⟨vs, os⟩) (e : vs.set i (some (.val d)) = vs') : setS i f r = .nx ⟨vs', os⟩ := by subst e; exact set_val h
theorem set_own' {i : Nat} {f : M Rv} {q : Ob} (h : f r = .ok (.own q) ⟨vs, os⟩) (e : vs.set i (some (.own q)) = vs') : setS i f r = .nx ⟨vs', os⟩ := by subst e; exact set_own h
theorem mut_go' {i : Nat} {up : List PyData → List PyData → Option (List PyData × PyData)} {g : M (List PyData)} {as ds ds' : List PyData} {d : PyData} {q : Ob} (h0 : r.vs[i]? = some (some (.own q))) (h2 : g r = .ok as ⟨vs, os⟩) (h3 : vs[i]? = some (some (.own (.lst ds)))) (hq : ∃ es, q = .lst es) (h4 : up ds as = some (ds', d)) (e : vs.set i (some (.own (.lst ds'))) = vs') : mutE i up g r = .ok (.val d) ⟨vs', os⟩ := by
  obtain ⟨es, rfl⟩ := hq
  subst e
  have h1 : nmE i r = .ok (.at (.slot i)) r := nm_own h0
  have e1 : look r (.slot i) = some (.live (.lst es)) := by unfold look; simp only [h0]
  have e2 : look ⟨vs, os⟩ (.slot i) = some (.live (.lst ds)) := by unfold look; simp only [h3]
  exact mut_go h1 e1 h2 e2 h4
theorem sto_go' {f g : M Rv} {j : Nat} {k : Int} {n : Nat} {d : PyData} {y : Rv} {ds ds' : List PyData} (h1 : f r = .ok x r1) (h2 : frz x r1 = .ok d r2) (h3 : ∃ q, r2.vs[j]? = some (some (.own q))) (h4 : g r2 = .ok y ⟨vs, os⟩) (p : peek ⟨vs, os⟩ y = some (.int k)) (q : vs[j]? = some (some (.own (.lst ds)))) (e : L2.ixN ds.length k = some n) (e2 : ds.set n d = ds') (e3 : vs.set j (some (.own (.lst ds'))) = vs') : stoS f j g r = .nx ⟨vs', os⟩ := by
  obtain ⟨qq, h3⟩ := h3
  subst e2
  subst e3
  have e2 : look ⟨vs, os⟩ (.slot j) = some (.live (.lst ds)) := by unfold look; simp only [q]
  exact sto_go h1 h2 (nm_own h3) h4 p e2 e
theorem par_go' {i j : Nat} {g : M (List Rv)} {s t : Sl} {x y x' y' : Rv} (h : g r = .ok [x, y] r1) (h1 : deS x r1 = .ok x' r2) (h2 : deS y r2 = .ok y' ⟨vs, os⟩) (e1 : slOf ⟨vs, os⟩ x' = some s) (e2 : slOf ⟨vs, os⟩ y' = some t) (e3 : (vs.set i (some s)).set j (some t) = vs') : parS i j g r = .nx ⟨vs', os⟩ := by
  subst e3
  exact par_go h h1 h2 e1 e2
theorem aug_go' {i : Nat} {f : M Rv} {k l : Int} (h0 : r.vs[i]? = some (some (.val (.int k)))) (h : f r = .ok x ⟨vs, os⟩) (p : peek ⟨vs, os⟩ x = some (.int l)) (e : vs.set i (some (.val (.int (k + l)))) = vs') : augN i f r = .nx ⟨vs', os⟩ := by
  subst e
  exact aug_go h0 h p
def setsV : List Nat → List PyData → List (Option Sl) → List (Option Sl)
  | i :: is, d :: ds, vs => setsV is ds (vs.set i (some (.val d)))
  | _, _, vs => vs
theorem setsV_nil {vs : List (Option Sl)} : setsV [] [] vs = vs := rfl
theorem setsV_cons {i : Nat} {is : List Nat} {d : PyData} {ds : List PyData} {vs : List (Option Sl)} : setsV (i :: is) (d :: ds) vs = setsV is ds (vs.set i (some (.val d))) := rfl
theorem bindL_sets : ∀ {is : List Nat} {ds : List PyData} {vs : List (Option Sl)} {os : List Bo}, is.length = ds.length → bindL is ds ⟨vs, os⟩ = some ⟨setsV is ds vs, os⟩
  | [], [], _, _, _ => rfl
  | i :: is, d :: ds, vs, os, h => bindL_sets (is := is) (ds := ds) (vs := vs.set i (some (.val d))) (os := os) (by simpa using h)
  | [], _ :: _, _, _, h => by simp at h
  | _ :: _, [], _, _, h => by simp at h
theorem unp_go' {is : List Nat} {f : M Rv} {ds : List PyData} (h : f r = .ok x ⟨vs, os⟩) (p : peek ⟨vs, os⟩ x = some (.tuple ds)) (e : is.length = ds.length) (e2 : setsV is ds vs = vs') : unpS is f r = .nx ⟨vs', os⟩ := by
  subst e2
  exact unp_go h p (bindL_sets e)
theorem unl_go' {is : List Nat} {f : M Rv} {ds : List PyData} {d : PyData} (h : f r = .ok x r1) (p : peek r1 x = some (.list ds)) (e0 : frz x r1 = .ok d ⟨vs, os⟩) (e : is.length = ds.length) (e2 : setsV is ds vs = vs') : unlS is f r = .nx ⟨vs', os⟩ := by
  subst e2
  exact unl_go h p e0 (bindL_sets e)
end Mi
namespace Mi
open PySem
variable {r : En} {xs : List Rv} {as : List Ag} {ls : List Lo}
theorem ags_nil : agsOf r [] = some ([], []) := rfl
theorem ags_val {d : PyData} (h : agsOf r xs = some (as, ls)) : agsOf r (.val d :: xs) = some (.val d :: as, ls) := by
  show (match agOf r (.val d), agsOf r xs with
      | some (a, some l), some (as, ls) => some (a :: as, l :: ls)
      | some (a, none), some (as, ls) => some (a :: as, ls)
      | _, _ => none) = _
  rw [h]; rfl
theorem ags_own {o : Ob} (h : agsOf r xs = some (as, ls)) : agsOf r (.own o :: xs) = some (.own o :: as, ls) := by
  show (match agOf r (.own o), agsOf r xs with
      | some (a, some l), some (as, ls) => some (a :: as, l :: ls)
      | some (a, none), some (as, ls) => some (a :: as, ls)
      | _, _ => none) = _
  rw [h]; rfl
theorem ags_at {l : Lo} {o : Ob} (e : look r l = some (.live o)) (h : agsOf r xs = some (as, ls)) : agsOf r (.at l :: xs) = some (.ref o :: as, l :: ls) := by
  show (match agOf r (.at l), agsOf r xs with
      | some (a, some l), some (as, ls) => some (a :: as, l :: ls)
      | some (a, none), some (as, ls) => some (a :: as, ls)
      | _, _ => none) = _
  have e2 : agOf r (.at l) = some (.ref o, some l) := by unfold agOf; simp only [e]
  rw [h, e2]
theorem ags_dead {l : Lo} {d : PyData} (e : look r l = some (.dead d)) (h : agsOf r xs = some (as, ls)) : agsOf r (.at l :: xs) = some (.val d :: as, ls) := by
  show (match agOf r (.at l), agsOf r xs with
      | some (a, some l), some (as, ls) => some (a :: as, l :: ls)
      | some (a, none), some (as, ls) => some (a :: as, ls)
      | _, _ => none) = _
  have e2 : agOf r (.at l) = some (.val d, none) := by unfold agOf; simp only [e]
  rw [h, e2]
/-- a call that changes nothing that is held here -/
theorem call_go0 {G : List Ag → FR} {f : M (List Rv)} {x : Rv} {r1 : En} {os : List Bo} (h1 : f r = .ok xs r1) (h2 : agsOf r1 xs = some (as, [])) (h4 : G as = .ret x os) (h5 : os = []) : callE G f r = .ok x r1 := by subst h5; exact call_go h1 h2 rfl h4 rfl
/-- a call with one held object -/
theorem call_go1 {G : List Ag → FR} {f : M (List Rv)} {x : Rv} {vs vs' : List (Option Sl)} {os : List Bo} {i : Nat} {o : Ob} (h1 : f r = .ok xs ⟨vs, os⟩) (h2 : agsOf ⟨vs, os⟩ xs = some (as, [.slot i])) (h4 : G as = .ret x [.live o]) (e : vs.set i (some (.own o)) = vs') : callE G f r = .ok x ⟨vs', os⟩ := by subst e; exact call_go h1 h2 rfl h4 rfl
theorem call_go2 {G : List Ag → FR} {f : M (List Rv)} {x : Rv} {vs : List (Option Sl)} {os os' : List Bo} {i : Nat} {b : Bo} (h1 : f r = .ok xs ⟨vs, os⟩) (h2 : agsOf ⟨vs, os⟩ xs = some (as, [.obj i])) (h4 : G as = .ret x [b]) (e : os.set i b = os') : callE G f r = .ok x ⟨vs, os'⟩ := by subst e; exact call_go h1 h2 rfl h4 rfl
end Mi
namespace Mi
open PySem
theorem sz_ok {n : Nat} (h : Nat.ble n 1000 = true) : n ≤ sizeLine := Nat.le_trans (Nat.le_of_ble_eq_true h) (by decide)
end Mi
namespace Mi
open PySem
variable {r r1 r2 : En} {x y : Rv} {vs vs' : List (Option Sl)} {os os' : List Bo} {d : PyData} {ds ds' : List PyData}
theorem sto_goB {f g : M Rv} {j k n : Nat} {i : Int} (h1 : f r = .ok x r1) (h2 : frz x r1 = .ok d r2) (h3 : r2.vs[j]? = some (some (.bor k))) (h4 : g r2 = .ok y ⟨vs, os⟩) (p : peek ⟨vs, os⟩ y = some (.int i)) (q : os[k]? = some (.live (.lst ds))) (e : L2.ixN ds.length i = some n) (e2 : ds.set n d = ds') (e3 : os.set k (.live (.lst ds')) = os') : stoS f j g r = .nx ⟨vs, os'⟩ := by
  subst e2
  subst e3
  exact sto_go h1 h2 (nm_bor h3) h4 p (show look ⟨vs, os⟩ (.obj k) = some (.live (.lst ds)) from q) e
theorem mut_goB {i k : Nat} {up : List PyData → List PyData → Option (List PyData × PyData)} {g : M (List PyData)} {as es : List PyData} (h0 : r.vs[i]? = some (some (.bor k))) (q0 : r.os[k]? = some (.live (.lst es))) (h2 : g r = .ok as ⟨vs, os⟩) (h3 : os[k]? = some (.live (.lst ds))) (h4 : up ds as = some (ds', d)) (e : os.set k (.live (.lst ds')) = os') : mutE i up g r = .ok (.val d) ⟨vs, os'⟩ := by
  subst e
  exact mut_go (nm_bor h0) (show look r (.obj k) = some (.live (.lst es)) from q0) h2 (show look ⟨vs, os⟩ (.obj k) = some (.live (.lst ds)) from h3) h4
theorem appL_go {xs ys : List PyData} (h : Nat.ble (xs.length + ys.length) 1000 = true) : gAdd (.list xs) (.list ys) = some (.own (.lst (xs ++ ys))) := if_pos (sz_ok h)
theorem ix_l0 {a : PyData} {l : List PyData} : gIx (.list (a :: l)) (.int 0) = some (.val a) := by
  unfold gIx
  exact congrArg (Option.map Rv.val) (L2.atI_nat (xs := a :: l) (j := 0) rfl)
theorem ix_l1 {a b : PyData} {l : List PyData} : gIx (.list (a :: b :: l)) (.int 1) = some (.val b) := by
  unfold gIx
  exact congrArg (Option.map Rv.val) (L2.atI_nat (xs := a :: b :: l) (j := 1) rfl)
theorem ix_l2 {a b c : PyData} {l : List PyData} : gIx (.list (a :: b :: c :: l)) (.int 2) = some (.val c) := by
  unfold gIx
  exact congrArg (Option.map Rv.val) (L2.atI_nat (xs := a :: b :: c :: l) (j := 2) rfl)
theorem add_ii {i j : Int} : gAdd (.int i) (.int j) = some (.val (.int (i + j))) := rfl
theorem sub_ii {i j : Int} : gSubI (.int i) (.int j) = some (.val (.int (i - j))) := rfl
theorem ix_any {l : List PyData} {i : Nat} (h : i < l.length) : ∃ e ∈ l, gIx (.list l) (.int ((i : Nat) : Int)) = some (.val e) := by
  refine ⟨l[i], List.getElem_mem h, ?_⟩
  unfold gIx
  exact congrArg (Option.map Rv.val) (L2.atI_nat (List.getElem?_eq_getElem h))
end Mi
namespace Mi
open PySem
variable {r r1 r2 : En} {x y : Rv} {o o1 : Out} {vs vs' : List (Option Sl)} {os os' : List Bo}
def slotR : Rv → Option Sl
  | .val d => some (.val d)
  | .own q => some (.own q)
  | .at _ => none
theorem slotR_val {d : PyData} : slotR (.val d) = some (.val d) := rfl
theorem slotR_own {q : Ob} : slotR (.own q) = some (.own q) := rfl
theorem set_any {i : Nat} {f : M Rv} {s : Sl} (h : f r = .ok x ⟨vs, os⟩) (e : slotR x = some s) (e2 : vs.set i (some s) = vs') : setS i f r = .nx ⟨vs', os⟩ := by
  subst e2
  cases x with
  | val d => injection e with e; subst e; exact set_val h
  | own q => injection e with e; subst e; exact set_own h
  | «at» l => cases e
theorem if_st {t : M Bool} {f g : Stm} {k : Bool} (h : t r = .ok k r1) (h2 : (k = true ∧ f r1 = o) ∨ (k = false ∧ g r1 = o)) : ifS t f g r = o := by
  rcases h2 with ⟨e, h2⟩ | ⟨e, h2⟩
  · subst e; exact (if_T h).trans h2
  · subst e; exact (if_F h).trans h2
def seqOut : Out → Stm → Out
  | .nx r1, g => g r1
  | o, _ => o
theorem seqO_nx {g : Stm} (h : g r1 = o) : seqOut (.nx r1) g = o := h
theorem seqO_rt {g : Stm} {v : Rv} : seqOut (.rt v r1) g = .rt v r1 := rfl
theorem seq_any {f g : Stm} (h : f r = o1) (h2 : seqOut o1 g = o) : seqS f g r = o := by
  subst h
  rw [← h2]
  unfold seqS seqOut
  cases f r <;> rfl
end Mi
namespace Mi
open PySem
variable {i : Int} {z : Str} {l : List PyData} {b : Bool}
theorem isn_n : gIsN .none .none = some (.val (.bool true)) := rfl
theorem isn_i : gIsN (.int i) .none = some (.val (.bool false)) := rfl
theorem isn_s : gIsN (.str z) .none = some (.val (.bool false)) := rfl
theorem isn_l : gIsN (.list l) .none = some (.val (.bool false)) := rfl
theorem isn_t : gIsN (.tuple l) .none = some (.val (.bool false)) := rfl
theorem isnt_n : gIsntN .none .none = some (.val (.bool false)) := rfl
theorem isnt_i : gIsntN (.int i) .none = some (.val (.bool true)) := rfl
theorem isnt_s : gIsntN (.str z) .none = some (.val (.bool true)) := rfl
theorem isnt_l : gIsntN (.list l) .none = some (.val (.bool true)) := rfl
theorem isnt_t : gIsntN (.tuple l) .none = some (.val (.bool true)) := rfl
theorem truth_b : truthOf (.bool b) = some b := rfl
end Mi
namespace Mi
open PySem
variable {r : En} {vs vs' : List (Option Sl)} {os os' : List Bo} {d : PyData} {ds : List PyData}
theorem frz_v : frz (.val d) r = .ok d r := rfl
theorem frz_o : frz (.own (.lst ds)) r = .ok (.list ds) r := rfl
theorem frz_s {i : Nat} (h : vs[i]? = some (some (.own (.lst ds)))) (e : vs.set i (some (.val (.list ds))) = vs') : frz (.at (.slot i)) ⟨vs, os⟩ = .ok (.list ds) ⟨vs', os⟩ := by
  subst e
  have e1 : look ⟨vs, os⟩ (.slot i) = some (.live (.lst ds)) := by unfold look; simp only [h]
  unfold frz
  simp only [e1]
  rfl
theorem frz_b {k : Nat} (h : os[k]? = some (.live (.lst ds))) (e : os.set k (.dead (.list ds)) = os') : frz (.at (.obj k)) ⟨vs, os⟩ = .ok (.list ds) ⟨vs, os'⟩ := by
  subst e
  have e1 : look ⟨vs, os⟩ (.obj k) = some (.live (.lst ds)) := h
  unfold frz
  simp only [e1]
  rfl
theorem frz_d {k : Nat} (h : os[k]? = some (.dead d)) : frz (.at (.obj k)) ⟨vs, os⟩ = .ok d ⟨vs, os⟩ := by
  have e1 : look ⟨vs, os⟩ (.obj k) = some (.dead d) := h
  unfold frz
  simp only [e1]
end Mi

/-! Ru0b.lean -/
set_option Elab.async false
set_option linter.all false
set_option maxRecDepth 100000
/-! loops by a fold, which may return -/
namespace Mi
open PySem L2
def foldX {σ β ρ : Type} (F : σ → β → Except ρ σ) : σ → List β → Except ρ σ
  | s, [] => .ok s
  | s, x :: xs => match F s x with
    | .ok s' => foldX F s' xs
    | .error q => .error q
def EndX {σ ρ : Type} (E : σ → En → Prop) (R : ρ → Rv → En → Prop) (o : Out) : Except ρ σ → Prop
  | .ok s => ∃ r', o = .nx r' ∧ E s r'
  | .error q => ∃ v r', o = .rt v r' ∧ R q v r'
theorem forN_fold {β σ ρ : Type} {nth : En → Nat → Option (Option PyData)} {tg : PyData → En → Option En} {bd : Stm} (D : Nat → β → PyData) (E : Nat → σ → En → Prop) (R : ρ → Rv → En → Prop) (F : σ → β → Except ρ σ) (all : List β)
    (hn : ∀ s r i, E i s r → nth r i = some (all[i]?.map (D i))) (step : ∀ s r i x, E i s r → all[i]? = some x → ∃ r1, tg (D i x) r = some r1 ∧ EndX (E (i + 1)) R (bd r1) (F s x)) :
    ∀ (xs : List β) (m i : Nat) (s : σ) (r : En), E i s r → all.drop i = xs → xs.length ≤ m → i ≤ all.length → EndX (E all.length) R (forN nth tg bd m i r) (foldX F s xs)
  | [], m, i, s, r, h, hd, hm, hl => by
    have hi : all[i]? = none := by
      rw [List.getElem?_eq_none_iff]
      have := congrArg List.length hd
      simp only [List.length_drop, List.length_nil] at this
      omega
    have e : i = all.length := by
      have := List.getElem?_eq_none_iff.mp hi
      omega
    cases m <;> (unfold forN; rw [hn s r i h, hi]; exact ⟨r, rfl, e ▸ h⟩)
  | x :: xs, 0, i, s, r, h, hd, hm, hl => by simp at hm
  | x :: xs, m + 1, i, s, r, h, hd, hm, hl => by
    have hi : all[i]? = some x := by
      have := congrArg (·[0]?) hd
      simpa using this
    have hd2 : all.drop (i + 1) = xs := by
      have := congrArg List.tail hd
      simpa using this
    have hl2 := (List.getElem?_eq_some_iff.mp hi).1
    obtain ⟨r1, e1, e2⟩ := step s r i x h hi
    unfold forN
    rw [hn s r i h, hi]
    simp only [Option.map_some, e1]
    unfold foldX
    cases ef : F s x with
    | ok s' =>
      rw [ef] at e2
      obtain ⟨r2, e3, h3⟩ := e2
      rw [e3]
      exact forN_fold D E R F all hn step xs m (i + 1) s' r2 h3 hd2 (by simpa using hm) hl2
    | error q =>
      rw [ef] at e2
      obtain ⟨v, r2, e3, h3⟩ := e2
      rw [e3]
      exact ⟨v, r2, rfl, h3⟩
theorem forS_seq {β σ ρ : Type} {e : M Rv} {tg : PyData → En → Option En} {bd : Stm} (all : List β) (D : β → PyData) {x y : Rv} {r r1 r2 : En} {s0 : σ} (E : Nat → σ → En → Prop) (R : ρ → Rv → En → Prop) (F : σ → β → Except ρ σ) (he : e r = .ok x r1) (hh : hold x r1 = .ok y r2) (hp : peek r2 y = some (.list (all.map D))) (h0 : E 0 s0 r2)
    (hn : ∀ i s r, E i s r → peek r y = some (.list (all.map D))) (step : ∀ s r i x, E i s r → all[i]? = some x → ∃ r1, tg (D x) r = some r1 ∧ EndX (E (i + 1)) R (bd r1) (F s x)) : EndX (E all.length) R (forS (seqI e) tg bd r) (foldX F s0 all) := by
  have := forN_fold (nth := lstNth y) (tg := tg) (bd := bd) (fun _ => D) E R F all (fun s r i h => by unfold lstNth; rw [hn i s r h]; simp) step all all.length 0 s0 r2 h0 rfl (Nat.le_refl _) (Nat.zero_le _)
  have e : forS (seqI e) tg bd r = forN (lstNth y) tg bd all.length 0 r2 := by
    refine (ofM_ok (seq_run he hh hp)).trans ?_
    simp only [List.length_map]
  rw [e]
  exact this
theorem enu_run {e : M Rv} {x : Rv} {ds : List PyData} {r r1 r2 : En} {y : Rv} (he : e r = .ok x r1) (hh : hold x r1 = .ok y r2) (hp : peek r2 y = some (.list ds)) : enuI e r = .ok ⟨enuNth y, ds.length⟩ r2 := by
  refine (bnd_ok he).trans ((bnd_ok hh).trans ?_)
  simp only [hp]
theorem forS_enu {β σ ρ : Type} {e : M Rv} {tg : PyData → En → Option En} {bd : Stm} (all : List β) (D : β → PyData) {x y : Rv} {r r1 r2 : En} {s0 : σ} (E : Nat → σ → En → Prop) (R : ρ → Rv → En → Prop) (F : σ → β → Except ρ σ) (he : e r = .ok x r1) (hh : hold x r1 = .ok y r2) (hp : peek r2 y = some (.list (all.map D))) (h0 : E 0 s0 r2)
    (hn : ∀ i s r, E i s r → peek r y = some (.list (all.map D))) (step : ∀ s r (i : Nat) x, E i s r → all[i]? = some x → ∃ r1, tg (.tuple [.int (i : Int), D x]) r = some r1 ∧ EndX (E (i + 1)) R (bd r1) (F s x)) : EndX (E all.length) R (forS (enuI e) tg bd r) (foldX F s0 all) := by
  have := forN_fold (nth := enuNth y) (tg := tg) (bd := bd) (fun i x => .tuple [.int ((i : Nat) : Int), D x]) E R F all (fun s r i h => by
    unfold enuNth; rw [hn i s r h]; simp only [List.getElem?_map]; cases all[i]? <;> rfl) step all all.length 0 s0 r2 h0 rfl (Nat.le_refl _) (Nat.zero_le _)
  have e : forS (enuI e) tg bd r = forN (enuNth y) tg bd all.length 0 r2 := by
    refine (ofM_ok (enu_run he hh hp)).trans ?_
    simp only [List.length_map]
  rw [e]
  exact this
theorem forS_rng {σ ρ : Type} {e : M Rv} {tg : PyData → En → Option En} {bd : Stm} {n : Nat} {r r1 : En} {s0 : σ} (E : Nat → σ → En → Prop) (R : ρ → Rv → En → Prop) (F : σ → Nat → Except ρ σ) (he : e r = .ok (.val (.int n)) r1) (hz : n ≤ 16777216) (h0 : E 0 s0 r1)
    (step : ∀ s r i, E i s r → i < n → ∃ r1, tg (.int ((i : Nat) : Int)) r = some r1 ∧ EndX (E (i + 1)) R (bd r1) (F s i)) : EndX (E n) R (forS (rng1 e) tg bd r) (foldX F s0 (List.range n)) := by
  have := forN_fold (nth := rngNth 0 n) (tg := tg) (bd := bd) (fun _ (x : Nat) => .int (x : Int)) E R F (List.range n) (fun s r i h => by
    unfold rngNth
    by_cases h : i < n
    · rw [if_pos h]; simp [h]
    · rw [if_neg h]; simp [h]) (fun s r i x h hx => by
      have hi : i < n := by have := (List.getElem?_eq_some_iff.mp hx).1; simpa using this
      have : x = i := by have := (List.getElem?_eq_some_iff.mp hx).2; simpa using this.symm
      subst this
      exact step s r x h hi) (List.range n) n 0 s0 r1 h0 rfl (by simp) (Nat.zero_le _)
  rw [List.length_range] at this
  have e2 : rng1 e r = .ok ⟨rngNth 0 n, n⟩ r1 := by
    refine (bnd_ok he).trans ?_
    show (if -(2 ^ 62) ≤ (n : Int) ∧ (n : Int) < 2 ^ 62 then (Res.ok (⟨rngNth 0 (n : Int).toNat, (n : Int).toNat⟩ : Src) r1 : Res Src) else .no) = _
    rw [if_pos ⟨by omega, by omega⟩, Int.toNat_natCast]
  have e : forS (rng1 e) tg bd r = forN (rngNth 0 n) tg bd n 0 r1 := ofM_ok e2
  rw [e]
  exact this
/-- a fold without a return -/
theorem foldX_ok {σ β : Type} {ρ : Type} (g : σ → β → σ) : ∀ (xs : List β) (s : σ), foldX (ρ := ρ) (fun s x => .ok (g s x)) s xs = .ok (xs.foldl g s)
  | [], s => rfl
  | x :: xs, s => foldX_ok g xs (g s x)
end Mi
namespace Mi
theorem EndX.nx {σ ρ : Type} {E : σ → En → Prop} {R : ρ → Rv → En → Prop} {o : Out} {s : σ} {r' : En} (h : o = .nx r') (h2 : E s r') : EndX E R o (.ok s) := ⟨r', h, h2⟩
theorem EndX.rt {σ ρ : Type} {E : σ → En → Prop} {R : ρ → Rv → En → Prop} {o : Out} {q : ρ} {v : Rv} {r' : En} (h : o = .rt v r') (h2 : R q v r') : EndX E R o (.error q) := ⟨v, r', h, h2⟩
end Mi

/-! Ru0c.lean -/
set_option Elab.async false
set_option linter.all false
set_option maxRecDepth 100000
/-! comprehensions -/
namespace Mi
open PySem L2
theorem lcE_rngY {e : M Rv} {tg : PyData → En → Option En} {T : List Nat} {f : M Rv} {n : Nat} {r W : En} (he : e r = .ok (.val (.int n)) r) (hn : n ≤ 16777216) (hc : calm r T = true) (hw : wipeV r T = W) (hW : wipeV W T = W) (hr : restV r W T = r) (q : Nat → PyData)
    (ht : ∀ i : Nat, i < n → ∃ r2, tg (.int i) W = some r2 ∧ wipeV r2 T = W ∧ ∃ r4, M.bnd f frz r2 = .ok (q i) r4 ∧ wipeV r4 T = W) :
    lcE (rng1 e) tg T yesB f r = .ok (.own (.lst ((List.range n).map q))) r := by
  refine (lcE_rng he hn hc hw hW hr (fun _ => true) q fun i hi => ?_).trans ?_
  · obtain ⟨r2, e1, e0, r4, e2, e3⟩ := ht i hi
    exact ⟨r2, e1, r2, rfl, e0, fun _ => ⟨r4, e2, e3⟩⟩
  · rw [ft]
theorem lcE_seqY {β : Type} {e : M Rv} {tg : PyData → En → Option En} {T : List Nat} {f : M Rv} (xs : List β) (D : β → PyData) {x y : Rv} {r r1 r2 W : En} (he : e r = .ok x r1) (hh : hold x r1 = .ok y r2) (hp : peek r2 y = some (.list (xs.map D))) (hpW : peek W y = some (.list (xs.map D))) (hz : xs.length ≤ sizeLine)
    (hc : calm r2 T = true) (hw : wipeV r2 T = W) (hW : wipeV W T = W) (hr : restV r2 W T = r2) (q : β → PyData)
    (ht : ∀ d ∈ xs, ∃ r2, tg (D d) W = some r2 ∧ wipeV r2 T = W ∧ ∃ r4, M.bnd f frz r2 = .ok (q d) r4 ∧ wipeV r4 T = W) :
    lcE (seqI e) tg T yesB f r = .ok (.own (.lst (xs.map q))) r2 := by
  refine (lcE_seq xs D he hh hp hpW hz hc hw hW hr (fun _ => true) q fun d hd => ?_).trans ?_
  · obtain ⟨r2, e1, e0, r4, e2, e3⟩ := ht d hd
    exact ⟨r2, e1, r2, rfl, e0, fun _ => ⟨r4, e2, e3⟩⟩
  · rw [ft]
theorem tup_run {e : M Rv} {x : Rv} {ds : List PyData} {r r1 r2 : En} {y : Rv} (he : e r = .ok x r1) (hh : hold x r1 = .ok y r2) (hp : peek r2 y = some (.tuple ds)) : seqI e r = .ok ⟨tupNth y, ds.length⟩ r2 := by
  refine (bnd_ok he).trans ((bnd_ok hh).trans ?_)
  simp only [hp]
/-- over a tuple -/
theorem lcE_tup {β : Type} {e : M Rv} {tg : PyData → En → Option En} {T : List Nat} {tt : M Bool} {f : M Rv} (xs : List β) (D : β → PyData) {x y : Rv} {r r1 r2 W : En} (he : e r = .ok x r1) (hh : hold x r1 = .ok y r2) (hp : peek r2 y = some (.tuple (xs.map D))) (hpW : peek W y = some (.tuple (xs.map D))) (hz : xs.length ≤ sizeLine)
    (hc : calm r2 T = true) (hw : wipeV r2 T = W) (hW : wipeV W T = W) (hr : restV r2 W T = r2) (c : β → Bool) (q : β → PyData)
    (ht : ∀ d ∈ xs, ∃ r2, tg (D d) W = some r2 ∧ ∃ r3, tt r2 = .ok (c d) r3 ∧ wipeV r3 T = W ∧ (c d = true → ∃ r4, M.bnd f frz r3 = .ok (q d) r4 ∧ wipeV r4 T = W)) :
    lcE (seqI e) tg T tt f r = .ok (.own (.lst ((xs.filter c).map q))) r2 := by
  have h := lcE_eq (tg := tg) (tt := tt) (f := f) (tup_run he hh hp) hc hw hW xs D (fun i => by
    show tupNth y W i = _
    unfold tupNth
    rw [hpW]
    simp) (by simp) hz c q ht
  rw [h, hr]
theorem lcE_tupY {β : Type} {e : M Rv} {tg : PyData → En → Option En} {T : List Nat} {f : M Rv} (xs : List β) (D : β → PyData) {x y : Rv} {r r1 r2 W : En} (he : e r = .ok x r1) (hh : hold x r1 = .ok y r2) (hp : peek r2 y = some (.tuple (xs.map D))) (hpW : peek W y = some (.tuple (xs.map D))) (hz : xs.length ≤ sizeLine)
    (hc : calm r2 T = true) (hw : wipeV r2 T = W) (hW : wipeV W T = W) (hr : restV r2 W T = r2) (q : β → PyData)
    (ht : ∀ d ∈ xs, ∃ r2, tg (D d) W = some r2 ∧ wipeV r2 T = W ∧ ∃ r4, M.bnd f frz r2 = .ok (q d) r4 ∧ wipeV r4 T = W) :
    lcE (seqI e) tg T yesB f r = .ok (.own (.lst (xs.map q))) r2 := by
  refine (lcE_tup xs D he hh hp hpW hz hc hw hW hr (fun _ => true) q fun d hd => ?_).trans ?_
  · obtain ⟨r2, e1, e0, r4, e2, e3⟩ := ht d hd
    exact ⟨r2, e1, r2, rfl, e0, fun _ => ⟨r4, e2, e3⟩⟩
  · rw [ft]
/-- an iterable whose items change what is held: by a fold -/
theorem lcN_fold {β σ : Type} {nth : En → Nat → Option (Option PyData)} {tg : PyData → En → Option En} {T : List Nat} {f : M Rv} (D : Nat → β → PyData) (E : Nat → σ → List PyData → En → Prop) (F : σ → β → σ × PyData) (all : List β)
    (hn : ∀ s a r i, E i s a r → nth r i = some (all[i]?.map (D i))) (hl : ∀ s a r i, E i s a r → a.length = i)
    (step : ∀ s a r i x, E i s a r → all[i]? = some x → ∃ r1, tg (D i x) (wipeV r T) = some r1 ∧ ∃ r2, M.bnd f frz r1 = .ok (F s x).2 r2 ∧ E (i + 1) (F s x).1 (a ++ [(F s x).2]) (wipeV r2 T)) :
    ∀ (xs : List β) (m i : Nat) (s : σ) (a : List PyData) (r : En), E i s a r → all.drop i = xs → xs.length ≤ m → i ≤ all.length → all.length ≤ sizeLine → ∃ a' s' r', lcN nth tg T yesB f m i a r = .ok a' r' ∧ E all.length s' a' r' ∧ (s', a') = xs.foldl (fun p x => ((F p.1 x).1, p.2 ++ [(F p.1 x).2])) (s, a)
  | [], m, i, s, a, r, h, hd, hm, hle, hz => by
    have hi : all[i]? = none := by
      rw [List.getElem?_eq_none_iff]
      have := congrArg List.length hd
      simp only [List.length_drop, List.length_nil] at this
      omega
    have e : i = all.length := by
      have := List.getElem?_eq_none_iff.mp hi
      omega
    subst e
    refine ⟨a, s, r, ?_, h, rfl⟩
    cases m <;> (unfold lcN; rw [hn s a r _ h, hi]; rfl)
  | x :: xs, 0, i, s, a, r, h, hd, hm, hle, hz => by simp at hm
  | x :: xs, m + 1, i, s, a, r, h, hd, hm, hle, hz => by
    have hi : all[i]? = some x := by
      have := congrArg (·[0]?) hd
      simpa using this
    have hd2 : all.drop (i + 1) = xs := by
      have := congrArg List.tail hd
      simpa using this
    have hl2 := (List.getElem?_eq_some_iff.mp hi).1
    obtain ⟨r1, e1, r2, e2, h3⟩ := step s a r i x h hi
    obtain ⟨a', s', r', e4, e5, e6⟩ := lcN_fold D E F all hn hl step xs m (i + 1) _ _ _ h3 hd2 (by simpa using hm) hl2 hz
    refine ⟨a', s', r', ?_, e5, e6⟩
    unfold lcN
    rw [hn s a r i h, hi]
    have hla := hl s a r i h
    simp only [Option.map_some, e1, show yesB r1 = .ok true r1 from rfl, e2]
    rw [if_pos (by omega)]
    exact e4
theorem fzv_ok {f : M Rv} {r r1 W : En} {d : PyData} {T : List Nat} (h : f r = .ok (.val d) r1) (hw : wipeV r1 T = W) : ∃ r4, M.bnd f frz r = .ok d r4 ∧ wipeV r4 T = W := ⟨r1, val_frz h, hw⟩
theorem fzo_ok {f : M Rv} {r r1 W : En} {ds : List PyData} {T : List Nat} (h : f r = .ok (.own (.lst ds)) r1) (hw : wipeV r1 T = W) : ∃ r4, M.bnd f frz r = .ok (.list ds) r4 ∧ wipeV r4 T = W := ⟨r1, own_frz h, hw⟩
theorem lc_step {tt : M Bool} {f : M Rv} {r r1 W : En} {T : List Nat} {k k' : Bool} {y : PyData} (h : tt r = .ok k r1) (e : k = k') (hw : wipeV r1 T = W) (h2 : k' = true → ∃ r4, M.bnd f frz r1 = .ok y r4 ∧ wipeV r4 T = W) : ∃ r3, tt r = .ok k' r3 ∧ wipeV r3 T = W ∧ (k' = true → ∃ r4, M.bnd f frz r3 = .ok y r4 ∧ wipeV r4 T = W) := by
  subst e
  exact ⟨r1, h, hw, h2⟩
/-! sorted({..}) -/
theorem intsOf_mapI (ns : List Int) : intsOf (ns.map PyData.int) = some ns := by
  induction ns with
  | nil => rfl
  | cons n ns ih => simp [intsOf, ih]
theorem ssE_of {it : M Src} {tg : PyData → En → Option En} {T : List Nat} {tt : M Bool} {f : M Rv} {r r1 : En} {ns : List Int} (h : lcE it tg T tt (intE f) r = .ok (.own (.lst (ns.map PyData.int))) r1) (h1 : ns.length < 4000) (h2 : (sortU ns).length < 64) : ssE it tg T tt f r = .ok (.own (.lst ((sortU ns).map PyData.int))) r1 := by
  unfold lcE M.bnd at h
  unfold ssE M.bnd
  cases e : it r with
  | no => simp only [e] at h; cases h
  | ex z r2 => simp only [e] at h; cases h
  | ok s r2 =>
    simp only [e] at h ⊢
    split at h
    · rename_i hc
      rw [if_pos hc]
      unfold ssP
      split at h
      · cases h
      · cases h
      · rename_i acc r3 e2
        injection h with h3 h4
        injection h3 with h3
        injection h3 with h3
        subst h3
        rw [e2]
        simp only [List.length_map, h1, if_true, intsOf_mapI, h2, h4]
    · cases h
theorem int_ok {f : M Rv} {r r1 W : En} {x : Rv} {k : Int} {T : List Nat} (h : f r = .ok x r1) (p : peek r1 x = some (.int k)) (hw : wipeV r1 T = W) : ∃ r4, M.bnd (intE f) frz r = .ok (.int k) r4 ∧ wipeV r4 T = W := by
  refine ⟨r1, (bnd_ok (?_ : intE f r = .ok (.val (.int k)) r1)).trans rfl, hw⟩
  refine (bnd_ok h).trans ?_
  simp only [p]
theorem intE_go {f : M Rv} {r r1 : En} {x : Rv} {k : Int} (h : f r = .ok x r1) (p : peek r1 x = some (.int k)) : M.bnd (intE f) frz r = .ok (.int k) r1 := by
  refine (bnd_ok (?_ : intE f r = .ok (.val (.int k)) r1)).trans rfl
  refine (bnd_ok h).trans ?_
  simp only [p]
end Mi
namespace Mi
open PySem L2
theorem lcN_inv {β : Type} {nth : En → Nat → Option (Option PyData)} {tg : PyData → En → Option En} {T : List Nat} {f : M Rv} (D : Nat → β → PyData) (I : Nat → List PyData → En → Prop) (all : List β)
    (hn : ∀ i a r, I i a r → nth r i = some (all[i]?.map (D i))) (hl : ∀ i a r, I i a r → a.length = i) (hz : all.length ≤ sizeLine)
    (step : ∀ i a r x, I i a r → all[i]? = some x → ∃ r1, tg (D i x) (wipeV r T) = some r1 ∧ ∃ y r2, M.bnd f frz r1 = .ok y r2 ∧ I (i + 1) (a ++ [y]) (wipeV r2 T)) :
    ∀ (m i : Nat) (a : List PyData) (r : En), I i a r → i ≤ all.length → all.length ≤ i + m → ∃ a' r', lcN nth tg T yesB f m i a r = .ok a' r' ∧ I all.length a' r' := by
  intro m
  induction m with
  | zero =>
    intro i a r h h1 h2
    have e : i = all.length := by omega
    subst e
    unfold lcN
    rw [hn _ a r h, List.getElem?_eq_none_iff.mpr (Nat.le_refl _)]
    exact ⟨a, r, rfl, h⟩
  | succ m ih =>
    intro i a r h h1 h2
    unfold lcN
    rw [hn _ a r h]
    cases e : all[i]? with
    | none =>
      have := List.getElem?_eq_none_iff.mp e
      have e2 : i = all.length := by omega
      subst e2
      exact ⟨a, r, rfl, h⟩
    | some x =>
      obtain ⟨r1, e1, y, r2, e2, h3⟩ := step i a r x h e
      have hlt := (List.getElem?_eq_some_iff.mp e).1
      obtain ⟨a', r', e4, h4⟩ := ih (i + 1) (a ++ [y]) (wipeV r2 T) h3 (by omega) (by omega)
      refine ⟨a', r', ?_, h4⟩
      have hla := hl i a r h
      simp only [Option.map_some, e1, show yesB r1 = .ok true r1 from rfl, e2]
      rw [if_pos (by omega)]
      exact e4
theorem lcE_inv {β : Type} {it : M Src} {s : Src} {tg : PyData → En → Option En} {T : List Nat} {f : M Rv} {r r1 : En} (D : Nat → β → PyData) (I : Nat → List PyData → En → Prop) (all : List β) (hit : it r = .ok s r1) (hc : calm r1 T = true) (h0 : I 0 [] (wipeV r1 T))
    (hn : ∀ i a r, I i a r → s.nth r i = some (all[i]?.map (D i))) (hl : ∀ i a r, I i a r → a.length = i) (hf : all.length ≤ s.fuel) (hz : all.length ≤ sizeLine)
    (step : ∀ i a r x, I i a r → all[i]? = some x → ∃ r1, tg (D i x) (wipeV r T) = some r1 ∧ ∃ y r2, M.bnd f frz r1 = .ok y r2 ∧ I (i + 1) (a ++ [y]) (wipeV r2 T)) :
    ∃ a' r', lcE it tg T yesB f r = .ok (.own (.lst a')) (restV r1 r' T) ∧ I all.length a' r' := by
  obtain ⟨a', r', e1, h1⟩ := lcN_inv D I all hn hl hz step s.fuel 0 [] _ h0 (Nat.zero_le _) (by omega)
  refine ⟨a', r', (bnd_ok hit).trans ?_, h1⟩
  simp only [hc, if_true, e1]
theorem lcE_rngI {e : M Rv} {tg : PyData → En → Option En} {T : List Nat} {f : M Rv} {n : Nat} {r r1 : En} (I : Nat → List PyData → En → Prop) (he : e r = .ok (.val (.int n)) r1) (hn : n ≤ 16777216) (hc : calm r1 T = true) (h0 : I 0 [] (wipeV r1 T)) (hl : ∀ i a r, I i a r → a.length = i)
    (step : ∀ (i : Nat) a r, I i a r → i < n → ∃ r1, tg (.int (i : Int)) (wipeV r T) = some r1 ∧ ∃ y r2, M.bnd f frz r1 = .ok y r2 ∧ I (i + 1) (a ++ [y]) (wipeV r2 T)) :
    ∃ a' r', lcE (rng1 e) tg T yesB f r = .ok (.own (.lst a')) (restV r1 r' T) ∧ I n a' r' := by
  have hit : rng1 e r = .ok ⟨rngNth 0 n, n⟩ r1 := by
    refine (bnd_ok he).trans ?_
    show (if -(2 ^ 62) ≤ (n : Int) ∧ (n : Int) < 2 ^ 62 then (Res.ok (⟨rngNth 0 (n : Int).toNat, (n : Int).toNat⟩ : Src) r1 : Res Src) else .no) = _
    rw [if_pos ⟨by omega, by omega⟩, Int.toNat_natCast]
  have h := lcE_inv (tg := tg) (T := T) (f := f) (fun _ (x : Nat) => .int (x : Int)) I (List.range n) hit hc h0 (fun i a r _ => by
    show rngNth 0 n r i = _
    unfold rngNth
    by_cases h : i < n
    · rw [if_pos h]; simp [h]
    · rw [if_neg h]; simp [h]) hl (by simp) (by simp [sizeLine]; omega) (fun i a r x h hx => by
      have hi : i < n := by have := (List.getElem?_eq_some_iff.mp hx).1; simpa using this
      have : x = i := by have := (List.getElem?_eq_some_iff.mp hx).2; simpa using this.symm
      subst this
      exact step x a r h hi)
  rw [List.length_range] at h
  exact h
end Mi

/-! Rd1.lean -/
set_option Elab.async false
set_option linter.all false
set_option maxRecDepth 100000
/-! redirections by plain data -/
namespace Mi
open PySem L2
def sN (l : List Nat) : Str := ⟨l.toArray⟩
theorem sN_list (l : List Nat) : (sN l).cps.toList = l := rfl
theorem sN_len (l : List Nat) : (sN l).length = l.length := by unfold sN Str.length; simp
theorem sN_inj {a b : List Nat} : sN a = sN b ↔ a = b := by
  constructor
  · intro h
    have := congrArg (fun s : Str => s.cps.toList) h
    simpa [sN] using this
  · intro h; rw [h]
theorem len_sN {l : List Nat} (h : l.length ≤ sizeLine) : gLen (.str (sN l)) = some (.val (.int ((l.length : Nat) : Int))) := by
  show (if (sN l).length ≤ sizeLine then some (vI (sN l).length) else none) = _
  rw [sN_len, if_pos h]
theorem ix_sN {l : List Nat} {i c : Nat} (h : l.length ≤ sizeLine) (e : l[i]? = some c) : gIx (.str (sN l)) (.int ((i : Nat) : Int)) = some (.val (.str (sN [c]))) := by
  show (if (sN l).length ≤ sizeLine then (L2.atI (sN l).cps.toList ((i : Nat) : Int)).map fun c => vS ⟨#[c]⟩ else none) = _
  rw [sN_len, if_pos h, sN_list, L2.atI_nat e]
  rfl
theorem sl_sN {l : List Nat} {i : Nat} (h : l.length ≤ sizeLine) (hi : i ≤ l.length) : gSl (.str (sN l)) (some ((i : Nat) : Int)) none = some (.val (.str (sN (l.drop i)))) := by
  show (if (sN l).length ≤ sizeLine then some (vS (cutS (sN l) (some ((i : Nat) : Int)) none)) else none) = _
  rw [sN_len, if_pos h]
  unfold cutS
  rw [sN_len, sN_list, HT.sIx_nat, HT.sIx_none, Nat.min_eq_left hi, List.take_of_length_le (by rw [List.length_drop]; omega)]
  rfl
theorem add_sN {a b : List Nat} (h : a.length + b.length ≤ sizeLine) : gAdd (.str (sN a)) (.str (sN b)) = some (.val (.str (sN (a ++ b)))) := by
  show (if (sN a).length + (sN b).length ≤ sizeLine then some (vS (sN a ++ sN b)) else none) = _
  rw [sN_len, sN_len, if_pos h]
  congr 3
  show (⟨a.toArray ++ b.toArray⟩ : Str) = _
  unfold sN
  simp
theorem eq_sS (x y : Str) : gEq (.str x) (.str y) = some (.val (.bool (decide (x = y)))) := eq_str x y
theorem ne_sS (x y : Str) : gNe (.str x) (.str y) = some (.val (.bool (!decide (x = y)))) := by
  have := ne_eD (some x) (some y)
  simpa [eD] using this
/-! redirections -/
inductive Wd where
  | cp (m n : Nat)
  | cl (n : Nat)
  | op (n : Nat) (gt : Bool) (nm : List Nat)
  deriving DecidableEq
def Wd.t : Wd → List Nat
  | .cp m n => [48 + n, 62, 38, 48 + m]
  | .cl n => [48 + n, 62, 38, 45]
  | .op n gt nm => (48 + n) :: (if gt then 62 else 60) :: nm
def NmOk (nm : List Nat) : Prop := 1 ≤ nm.length ∧ nm.length ≤ 8 ∧ ∀ c ∈ nm, 97 ≤ c ∧ c ≤ 122
def Wd.Ok : Wd → Prop
  | .cp m n => m < 10 ∧ n < 10
  | .cl n => n < 10
  | .op n _ nm => n < 10 ∧ NmOk nm
abbrev wD (w : Wd) : PyData := .str (sN w.t)
abbrev stepD : Wd → PyData
  | .cp m n => .tuple [.str "copy", .int (m : Int), .int (n : Int)]
  | .cl n => .tuple [.str "close", .int (n : Int)]
  | .op n _ nm => .tuple [.str "open", .int (n : Int), .str (sN nm)]
abbrev newD (i : Nat) : PyData := .tuple [.str "new", .int (i : Int)]
abbrev oldD (i : Nat) : PyData := .tuple [.str "old", .int (i : Int)]
structure Rs where
  ends : List PyData
  ops : List (Bool × List Nat)
  cps : List (Nat × PyData)
def Wd.go (w : Wd) (s : Rs) : Rs := match w with
  | .cp m n => ⟨s.ends.set n (s.ends.getD m .none), s.ops, s.cps ++ [(m, s.ends.getD m .none)]⟩
  | .cl n => ⟨s.ends.set n .none, s.ops, s.cps⟩
  | .op n gt nm => ⟨s.ends.set n (newD s.ops.length), s.ops ++ [(gt, nm)], s.cps⟩
def runW (ws : List Wd) (s : Rs) : Rs := ws.foldl (fun s w => w.go s) s
abbrev opD (o : Bool × List Nat) : PyData := .tuple [.str (sN [if o.1 then 62 else 60]), .str (sN o.2)]
abbrev cpD (c : Nat × PyData) : PyData := .tuple [.int ((c.1 : Nat) : Int), c.2]
theorem go_len (w : Wd) (s : Rs) : (w.go s).ends.length = s.ends.length := by cases w <;> simp [Wd.go]
theorem runW_len (ws : List Wd) : ∀ s : Rs, (runW ws s).ends.length = s.ends.length := by
  induction ws with
  | nil => intro s; rfl
  | cons w ws ih => intro s; exact (ih (w.go s)).trans (go_len w s)
theorem runW_app (ws vs : List Wd) (s : Rs) : runW (ws ++ vs) s = runW vs (runW ws s) := List.foldl_append ..
theorem go_ops (w : Wd) (s : Rs) : (w.go s).ops.length ≤ s.ops.length + 1 := by cases w <;> simp [Wd.go]
theorem go_cps (w : Wd) (s : Rs) : (w.go s).cps.length ≤ s.cps.length + 1 := by cases w <;> simp [Wd.go]
theorem runW_ops (ws : List Wd) : ∀ s : Rs, (runW ws s).ops.length ≤ s.ops.length + ws.length := by
  induction ws with
  | nil => intro s; exact Nat.le_refl _
  | cons w ws ih => intro s; have := ih (w.go s); have := go_ops w s; show (runW ws (w.go s)).ops.length ≤ _; rw [List.length_cons]; omega
theorem runW_cps (ws : List Wd) : ∀ s : Rs, (runW ws s).cps.length ≤ s.cps.length + ws.length := by
  induction ws with
  | nil => intro s; exact Nat.le_refl _
  | cons w ws ih => intro s; have := ih (w.go s); have := go_cps w s; show (runW ws (w.go s)).cps.length ≤ _; rw [List.length_cons]; omega
theorem getD_of {l : List PyData} {m : Nat} (h : m < l.length) : l[m]? = some (l.getD m .none) := by
  rw [List.getD_eq_getElem?_getD, List.getElem?_eq_getElem h]; rfl
end Mi
namespace Mi
open PySem L2
variable {a b c : PyData} {l ds : List PyData}
theorem ix_t0 : gIx (.tuple (a :: l)) (.int 0) = some (.val a) := by
  unfold gIx
  exact congrArg (Option.map Rv.val) (L2.atI_nat (xs := a :: l) (j := 0) rfl)
theorem ix_t1 : gIx (.tuple (a :: b :: l)) (.int 1) = some (.val b) := by
  unfold gIx
  exact congrArg (Option.map Rv.val) (L2.atI_nat (xs := a :: b :: l) (j := 1) rfl)
theorem ix_t2 : gIx (.tuple (a :: b :: c :: l)) (.int 2) = some (.val c) := by
  unfold gIx
  exact congrArg (Option.map Rv.val) (L2.atI_nat (xs := a :: b :: c :: l) (j := 2) rfl)
theorem list_go : gList (.list ds) = some (.own (.lst ds)) := rfl
theorem tuple_go : gTuple (.list ds) = some (.val (.tuple ds)) := rfl
theorem tuplet_go : gTuple (.tuple ds) = some (.val (.tuple ds)) := rfl
theorem ix_nat {ds : List PyData} {i : Nat} (h : i < ds.length) : gIx (.list ds) (.int ((i : Nat) : Int)) = some (.val (ds.getD i .none)) := by
  unfold gIx
  exact congrArg (Option.map Rv.val) (L2.atI_nat (getD_of h))
theorem ixN_go {n k : Nat} (h : k < n) : L2.ixN n ((k : Nat) : Int) = some k := ixN_nat h
end Mi
namespace Mi
open PySem L2
theorem add_sN' {a b : List Nat} (h : Nat.ble (a.length + b.length) 1000 = true) : gAdd (.str (sN a)) (.str (sN b)) = some (.val (.str (sN (a ++ b)))) := add_sN (sz_ok h)
end Mi

/-! Rd2.lean -/
set_option Elab.async false
set_option linter.all false
set_option maxRecDepth 100000
/-! closed runs by a look -/
namespace Mi
open PySem L2
mutual
def dqM : PyData → PyData → Bool
  | .none, .none => true
  | .bool a, .bool b => decide (a = b)
  | .int a, .int b => decide (a = b)
  | .str a, .str b => decide (a = b)
  | .list a, .list b => dqsM a b
  | .tuple a, .tuple b => dqsM a b
  | _, _ => false
def dqsM : List PyData → List PyData → Bool
  | [], [] => true
  | a :: as, b :: bs => dqM a b && dqsM as bs
  | _, _ => false
end
mutual
theorem eqM : ∀ a b : PyData, dqM a b = true → a = b
  | .none, .none, _ => rfl
  | .bool a, .bool b, h => by simp only [dqM, decide_eq_true_eq] at h; rw [h]
  | .int a, .int b, h => by simp only [dqM, decide_eq_true_eq] at h; rw [h]
  | .str a, .str b, h => by simp only [dqM, decide_eq_true_eq] at h; rw [h]
  | .list a, .list b, h => by simp only [dqM] at h; rw [eqsM a b h]
  | .tuple a, .tuple b, h => by simp only [dqM] at h; rw [eqsM a b h]
  | .none, .bool _, h | .none, .int _, h | .none, .str _, h | .none, .list _, h | .none, .tuple _, h | .none, .dict _, h => by simp [dqM] at h
  | .bool _, .none, h | .bool _, .int _, h | .bool _, .str _, h | .bool _, .list _, h | .bool _, .tuple _, h | .bool _, .dict _, h => by simp [dqM] at h
  | .int _, .none, h | .int _, .bool _, h | .int _, .str _, h | .int _, .list _, h | .int _, .tuple _, h | .int _, .dict _, h => by simp [dqM] at h
  | .str _, .none, h | .str _, .bool _, h | .str _, .int _, h | .str _, .list _, h | .str _, .tuple _, h | .str _, .dict _, h => by simp [dqM] at h
  | .list _, .none, h | .list _, .bool _, h | .list _, .int _, h | .list _, .str _, h | .list _, .tuple _, h | .list _, .dict _, h => by simp [dqM] at h
  | .tuple _, .none, h | .tuple _, .bool _, h | .tuple _, .int _, h | .tuple _, .str _, h | .tuple _, .list _, h | .tuple _, .dict _, h => by simp [dqM] at h
  | .dict _, .none, h | .dict _, .bool _, h | .dict _, .int _, h | .dict _, .str _, h | .dict _, .list _, h | .dict _, .tuple _, h | .dict _, .dict _, h => by simp [dqM] at h
theorem eqsM : ∀ a b : List PyData, dqsM a b = true → a = b
  | [], [], _ => rfl
  | a :: as, b :: bs, h => by
    simp only [dqsM, Bool.and_eq_true] at h
    rw [eqM a b h.1, eqsM as bs h.2]
  | [], b :: bs, h => by simp [dqsM] at h
  | a :: as, [], h => by simp [dqsM] at h
end
/-- whether a run ends with this -/
def fqM (x : FR) (d : PyData) : Bool := match x with
  | .ret (.val e) [] => dqM e d
  | _ => false
theorem fqM_eq {x : FR} {d : PyData} (h : fqM x d = true) : x = .ret (.val d) [] := by
  unfold fqM at h
  split at h
  · rw [eqM _ _ h]
  · cases h
end Mi

/-! Rd2b.lean -/
set_option Elab.async false
set_option linter.all false
set_option maxRecDepth 100000
/-! plain data compared -/
namespace Mi
open PySem L2
mutual
def plainB : PyData → Bool
  | .none => true
  | .bool _ => false
  | .int _ => true
  | .str _ => true
  | .list xs => plainsB xs
  | .tuple xs => plainsB xs
  | .dict _ => false
def plainsB : List PyData → Bool
  | [] => true
  | x :: xs => plainB x && plainsB xs
end
mutual
theorem eqv_iff : ∀ d e : PyData, plainB d = true → plainB e = true → (PyData.eqv d e = true ↔ d = e)
  | .none, .none, _, _ => by simp [PyData.eqv]
  | .int a, .int b, _, _ => by simp [PyData.eqv]
  | .str a, .str b, _, _ => by simp [PyData.eqv]
  | .list a, .list b, h, k => by
    simp only [PyData.eqv, PyData.list.injEq]
    exact eqvs_iff a b (by simpa [plainB] using h) (by simpa [plainB] using k)
  | .tuple a, .tuple b, h, k => by
    simp only [PyData.eqv, PyData.tuple.injEq]
    exact eqvs_iff a b (by simpa [plainB] using h) (by simpa [plainB] using k)
  | .bool _, _, h, _ => by simp [plainB] at h
  | .dict _, _, h, _ => by simp [plainB] at h
  | _, .bool _, _, h => by simp [plainB] at h
  | _, .dict _, _, h => by simp [plainB] at h
  | .none, .int _, _, _ | .none, .str _, _, _ | .none, .list _, _, _ | .none, .tuple _, _, _ => by simp [PyData.eqv]
  | .int _, .none, _, _ | .int _, .str _, _, _ | .int _, .list _, _, _ | .int _, .tuple _, _, _ => by simp [PyData.eqv]
  | .str _, .int _, _, _ | .str _, .none, _, _ | .str _, .list _, _, _ | .str _, .tuple _, _, _ => by simp [PyData.eqv]
  | .list _, .int _, _, _ | .list _, .str _, _, _ | .list _, .none, _, _ | .list _, .tuple _, _, _ => by simp [PyData.eqv]
  | .tuple _, .int _, _, _ | .tuple _, .str _, _, _ | .tuple _, .list _, _, _ | .tuple _, .none, _, _ => by simp [PyData.eqv]
theorem eqvs_iff : ∀ d e : List PyData, plainsB d = true → plainsB e = true → (PyData.eqvAll d e = true ↔ d = e)
  | [], [], _, _ => by simp [PyData.eqvAll]
  | x :: xs, y :: ys, h, k => by
    simp only [plainsB, Bool.and_eq_true] at h k
    simp only [PyData.eqvAll, Bool.and_eq_true, List.cons.injEq]
    rw [eqv_iff x y h.1 k.1, eqvs_iff xs ys h.2 k.2]
  | [], _ :: _, _, _ => by simp [PyData.eqvAll]
  | _ :: _, [], _, _ => by simp [PyData.eqvAll]
end
structure OkD (k : Nat) (d : PyData) : Prop where
  plain : plainB d = true
  lay : PyData.canLay0 d = true
  depth : PyData.depth d ≤ k
structure OkDs (k : Nat) (ds : List PyData) : Prop where
  plain : plainsB ds = true
  lay : PyData.canLayAll0 ds = true
  depth : PyData.depthAll ds ≤ k
theorem OkDs.nil {k : Nat} : OkDs k [] := ⟨rfl, by simp [PyData.canLayAll0], by simp [PyData.depthAll]⟩
theorem OkDs.cons {k : Nat} {d : PyData} {ds : List PyData} (h : OkD k d) (h2 : OkDs k ds) : OkDs k (d :: ds) :=
  ⟨by simp [plainsB, h.plain, h2.plain], by simp [PyData.canLayAll0, h.lay, h2.lay], by simp only [PyData.depthAll]; exact Nat.max_le.mpr ⟨h.depth, h2.depth⟩⟩
theorem OkDs.of {k : Nat} : ∀ {ds : List PyData}, (∀ d ∈ ds, OkD k d) → OkDs k ds
  | [], _ => .nil
  | d :: ds, h => .cons (h d List.mem_cons_self) (OkDs.of fun e he => h e (List.mem_cons_of_mem _ he))
theorem OkD.tup {k : Nat} {ds : List PyData} (h : OkDs k ds) : OkD (k + 1) (.tuple ds) := ⟨by simp [plainB, h.plain], by simp [PyData.canLay0, h.lay], by simp only [PyData.depth]; exact Nat.succ_le_succ h.depth⟩
theorem OkD.lst {k : Nat} {ds : List PyData} (h : OkDs k ds) : OkD (k + 1) (.list ds) := ⟨by simp [plainB, h.plain], by simp [PyData.canLay0, h.lay], by simp only [PyData.depth]; exact Nat.succ_le_succ h.depth⟩
theorem OkD.non {k : Nat} : OkD k .none := ⟨rfl, rfl, by simp [PyData.depth]⟩
theorem OkD.int {k : Nat} (i : Int) : OkD k (.int i) := ⟨rfl, rfl, by simp [PyData.depth]⟩
theorem OkD.str {k : Nat} {s : Str} (h : PyData.strOk s = true) : OkD k (.str s) := ⟨rfl, by simp [PyData.canLay0, h], by simp [PyData.depth]⟩
theorem OkD.mono {k l : Nat} {d : PyData} (h : OkD k d) (hl : k ≤ l) : OkD l d := ⟨h.plain, h.lay, Nat.le_trans h.depth hl⟩
theorem OkD.shaped {k : Nat} {d : PyData} (h : OkD k d) (hk : k ≤ 64) : SeqAt.shaped d = true := by
  unfold SeqAt.shaped
  rw [Bool.and_eq_true]
  exact ⟨h.lay, decide_eq_true (Nat.le_trans h.depth hk)⟩
theorem eq_plain {k : Nat} {d e : PyData} (h : OkD k d) (h2 : OkD k e) (hk : k ≤ 64) {b : Bool} (hb : b = true ↔ d = e) : gEq d e = some (.val (.bool b)) := by
  have : eqOk d e = true := by unfold eqOk; rw [h.shaped hk, h2.shaped hk]; simp
  unfold gEq
  rw [if_pos this]
  congr 3
  rw [Bool.eq_iff_iff, eqv_iff d e h.plain h2.plain, hb]
theorem ne_plain {k : Nat} {d e : PyData} (h : OkD k d) (h2 : OkD k e) (hk : k ≤ 64) {b : Bool} (hb : b = true ↔ d = e) : gNe d e = some (.val (.bool (!b))) := by
  have : eqOk d e = true := by unfold eqOk; rw [h.shaped hk, h2.shaped hk]; simp
  unfold gNe
  rw [if_pos this]
  congr 4
  rw [Bool.eq_iff_iff, eqv_iff d e h.plain h2.plain, hb]
mutual
theorem dqM_self : ∀ d : PyData, plainB d = true → dqM d d = true
  | .none, _ => by simp [dqM]
  | .int a, _ => by simp [dqM]
  | .str a, _ => by simp [dqM]
  | .list a, h => by simp only [dqM]; exact dqsM_self a (by simpa [plainB] using h)
  | .tuple a, h => by simp only [dqM]; exact dqsM_self a (by simpa [plainB] using h)
  | .bool _, h => by simp [plainB] at h
  | .dict _, h => by simp [plainB] at h
theorem dqsM_self : ∀ d : List PyData, plainsB d = true → dqsM d d = true
  | [], _ => by simp [dqsM]
  | x :: xs, h => by
    simp only [plainsB, Bool.and_eq_true] at h
    simp only [dqsM, Bool.and_eq_true]
    exact ⟨dqM_self x h.1, dqsM_self xs h.2⟩
end
theorem dqM_iff {d e : PyData} (h : plainB d = true) : dqM d e = true ↔ d = e := ⟨eqM d e, fun q => by rw [← q]; exact dqM_self d h⟩
end Mi

/-! Rd3.lean -/
set_option Elab.async false
set_option linter.all false
set_option maxRecDepth 100000
/-! normal forms by plain data -/
namespace Mi
open PySem L2
/-- what stands at a number: nothing, an end from the beginning, a new one -/
def EndOk (d : PyData) : Prop := d = .none ∨ (∃ m, m < 10 ∧ d = oldD m) ∨ ∃ i, d = newD i
def isOld : PyData → Bool
  | .tuple [.str s, .int _] => decide (s = "old")
  | _ => false
def oldIx : PyData → Int
  | .tuple [.str _, .int i] => i
  | _ => 0
theorem new_ne_old : ("new" : Str) ≠ "old" := by decide +kernel
@[simp] theorem isOld_old (m : Nat) : isOld (oldD m) = true := by simp [isOld]
@[simp] theorem isOld_new (m : Nat) : isOld (newD m) = false := by simp [isOld, new_ne_old]
@[simp] theorem isOld_none : isOld .none = false := rfl
@[simp] theorem oldIx_old (m : Nat) : oldIx (oldD m) = (m : Int) := rfl
def olds : List PyData := (List.range 10).map oldD
def isN' : PyData → Bool
  | .none => true
  | _ => false
/-- the ends of an old beginning -/
structure RsOk (s : Rs) : Prop where
  len : s.ends.length = 10
  ends : ∀ d ∈ s.ends, EndOk d
  cps : ∀ c ∈ s.cps, EndOk c.2
  num : ∀ c ∈ s.cps, c.1 < 10
  opn : ∀ o ∈ s.ops, NmOk o.2
theorem endOk_get {l : List PyData} (h : ∀ d ∈ l, EndOk d) (m : Nat) : EndOk (l.getD m .none) := by
  rw [List.getD_eq_getElem?_getD]
  cases e : l[m]? with
  | none => exact .inl rfl
  | some d => exact h d (List.mem_of_getElem? e)
theorem RsOk.go {s : Rs} (h : RsOk s) {w : Wd} (hw : w.Ok) : RsOk (w.go s) := by
  have setOk : ∀ (n : Nat) (d : PyData), EndOk d → ∀ e ∈ s.ends.set n d, EndOk e := fun n d hd e he => by
    rcases List.mem_or_eq_of_mem_set he with q | q
    · exact h.ends e q
    · rw [q]; exact hd
  cases w with
  | cp m n =>
    refine ⟨by simp [Wd.go, h.len], setOk _ _ (endOk_get h.ends m), fun c hc => ?_, fun c hc => ?_, h.opn⟩
    · rcases List.mem_append.mp hc with q | q
      · exact h.cps c q
      · rw [List.mem_singleton] at q; subst q; exact endOk_get h.ends m
    · rcases List.mem_append.mp hc with q | q
      · exact h.num c q
      · rw [List.mem_singleton] at q; subst q; exact hw.1
  | cl n => exact ⟨by simp [Wd.go, h.len], setOk _ _ (.inl rfl), h.cps, h.num, h.opn⟩
  | op n gt nm =>
    refine ⟨by simp [Wd.go, h.len], setOk _ _ (.inr (.inr ⟨_, rfl⟩)), h.cps, h.num, fun o ho => ?_⟩
    rcases List.mem_append.mp ho with q | q
    · exact h.opn o q
    · rw [List.mem_singleton] at q; subst q; exact hw.2
theorem RsOk.run : ∀ {ws : List Wd} {s : Rs}, RsOk s → (∀ w ∈ ws, w.Ok) → RsOk (runW ws s)
  | [], _, h, _ => h
  | w :: ws, s, h, hw => RsOk.run (ws := ws) (s := w.go s) (h.go (hw w List.mem_cons_self)) fun v hv => hw v (List.mem_cons_of_mem _ hv)
abbrev s0 : Rs := ⟨olds, [], []⟩
theorem s0_ok : RsOk s0 := by
  refine ⟨by simp [olds], fun d hd => ?_, nofun, nofun, nofun⟩
  obtain ⟨m, hm, rfl⟩ := List.mem_map.mp hd
  exact .inr (.inl ⟨m, List.mem_range.mp hm, rfl⟩)
def needsW (s : Rs) : List Int := sortU (((s.cps.map (·.2)).filter isOld).map oldIx)
theorem sorted_bound : ∀ {ns : List Int} {a b : Int}, ns.Pairwise (· < ·) → (∀ n ∈ ns, a ≤ n ∧ n < b) → a ≤ b → (ns.length : Int) ≤ b - a
  | [], a, b, _, _, h => by simp; omega
  | n :: ns, a, b, hp, hb, h => by
    have hp' := List.pairwise_cons.mp hp
    have h1 := hb n List.mem_cons_self
    have := sorted_bound (a := n + 1) (b := b) hp'.2 (fun m hm => ⟨hp'.1 m hm, (hb m (List.mem_cons_of_mem _ hm)).2⟩) (by omega)
    rw [List.length_cons]
    omega
theorem needs_mem {s : Rs} (ok : RsOk s) {k : Int} : k ∈ needsW s ↔ ∃ m : Nat, m < 10 ∧ k = (m : Int) ∧ ∃ c ∈ s.cps, c.2 = oldD m := by
  unfold needsW
  rw [mem_sortU]
  constructor
  · intro h
    obtain ⟨d, hd, rfl⟩ := List.mem_map.mp h
    obtain ⟨h1, h2⟩ := List.mem_filter.mp hd
    obtain ⟨c, hc, rfl⟩ := List.mem_map.mp h1
    rcases ok.cps c hc with e | ⟨m, hm, e⟩ | ⟨m, e⟩
    · rw [e] at h2; cases h2
    · exact ⟨m, hm, by rw [e]; rfl, c, hc, e⟩
    · rw [e, isOld_new] at h2; cases h2
  · rintro ⟨m, hm, rfl, c, hc, e⟩
    exact List.mem_map.mpr ⟨oldD m, List.mem_filter.mpr ⟨List.mem_map.mpr ⟨c, hc, e⟩, isOld_old m⟩, rfl⟩
theorem needs_len {s : Rs} (ok : RsOk s) : (needsW s).length ≤ 10 := by
  have := sorted_bound (ns := needsW s) (a := 0) (b := 10) (pw_sortU _) (fun n hn => by
    obtain ⟨m, hm, rfl, _⟩ := (needs_mem ok).mp hn
    omega) (by omega)
  omega
def failsW (s : Rs) : Bool := (s.cps.map (·.2)).any isN'
/-- the normal form -/
def formD (s : Rs) : PyData := .tuple [.tuple ((needsW s).map .int), .tuple (s.ops.map opD), .tuple s.ends]
def formO (ws : List Wd) : Option Rs := if failsW (runW ws s0) = true then none else some (runW ws s0)
def formP (ws : List Wd) : PyData := match formO ws with
  | none => .none
  | some s => formD s
theorem shaped_end {d : PyData} (h : EndOk d) : PyData.canLay0 d = true ∧ PyData.depth d ≤ 1 := by
  have e1 : PyData.strOk ("old" : Str) = true := by decide +kernel
  have e2 : PyData.strOk ("new" : Str) = true := by decide +kernel
  rcases h with rfl | ⟨m, _, rfl⟩ | ⟨m, rfl⟩
  · exact ⟨rfl, by simp [PyData.depth]⟩
  · simp [PyData.canLay0, PyData.canLayAll0, PyData.depth, PyData.depthAll, e1]
  · simp [PyData.canLay0, PyData.canLayAll0, PyData.depth, PyData.depthAll, e2]
theorem shaped_ends : ∀ {ds : List PyData}, (∀ d ∈ ds, EndOk d) → PyData.canLayAll0 ds = true ∧ PyData.depthAll ds ≤ 1
  | [], _ => by simp [PyData.canLayAll0, PyData.depthAll]
  | d :: ds, h => by
    obtain ⟨h1, h3⟩ := shaped_end (h d List.mem_cons_self)
    obtain ⟨h2, h4⟩ := shaped_ends fun e he => h e (List.mem_cons_of_mem _ he)
    exact ⟨by simp only [PyData.canLayAll0, h1, h2, Bool.and_self], by simp only [PyData.depthAll]; exact Nat.max_le.mpr ⟨h3, h4⟩⟩
theorem none_in {ds : List PyData} (h : ∀ d ∈ ds, EndOk d) : gIn .none (.list ds) = some (.val (.bool (ds.any isN'))) := by
  have h1 := shaped_ends h
  have e1 : SeqAt.shaped (.list ds) = true := by
    unfold SeqAt.shaped
    have := h1.2
    rw [Bool.and_eq_true]
    exact ⟨h1.1, decide_eq_true (by show PyData.depthAll ds + 1 ≤ 64; omega)⟩
  have e2 : (ds.any fun z => PyData.eqv z .none) = ds.any isN' := by
    congr 1
    funext z
    cases z <;> simp [PyData.eqv, isN']
  show (gInB .none (.list ds)).map vB = _
  have e3 : gInB .none (.list ds) = if (SeqAt.shaped .none && SeqAt.shaped (.list ds)) = true then some (ds.any fun z => PyData.eqv z .none) else none := rfl
  rw [e3, e1, e2]
  rfl
theorem strOk_sN {l : List Nat} (h : ∀ c ∈ l, c < 0x110000) : PyData.strOk (sN l) = true := by
  unfold PyData.strOk sN
  simpa using h
theorem EndOk.ok {d : PyData} (h : EndOk d) : OkD 1 d := by
  have e1 : PyData.strOk ("old" : Str) = true := by decide +kernel
  have e2 : PyData.strOk ("new" : Str) = true := by decide +kernel
  rcases h with rfl | ⟨m, _, rfl⟩ | ⟨m, rfl⟩
  · exact .non
  · exact .tup (.cons (.str e1) (.cons (.int _) .nil))
  · exact .tup (.cons (.str e2) (.cons (.int _) .nil))
theorem opD_ok {o : Bool × List Nat} (h : NmOk o.2) : OkD 1 (opD o) :=
  .tup (.cons (.str (strOk_sN fun c hc => by
    rw [List.mem_singleton] at hc; subst hc; split <;> decide)) (.cons (.str (strOk_sN fun c hc => by have := (h.2.2 c hc).2; omega)) .nil))
theorem formD_ok {s : Rs} (ok : RsOk s) : OkD 4 (formD s) := by
  refine (OkD.tup (k := 2) (.cons (.tup (k := 1) (.of fun d hd => ?_)) (.cons (.tup (.of fun d hd => ?_)) (.cons (.tup (.of fun d hd => (ok.ends d hd).ok)) .nil)))).mono (by decide)
  · obtain ⟨i, _, rfl⟩ := List.mem_map.mp hd
    exact .int i
  · obtain ⟨o, ho, rfl⟩ := List.mem_map.mp hd
    exact opD_ok (ok.opn o ho)
theorem formP_ok {ws : List Wd} (h : ∀ w ∈ ws, w.Ok) : OkD 4 (formP ws) := by
  have ok := s0_ok.run h
  unfold formP formO
  by_cases hb : failsW (runW ws s0) = true
  · rw [if_pos hb]; exact .non
  · rw [if_neg hb]; exact formD_ok ok
end Mi

/-! Rd4.lean -/
set_option Elab.async false
set_option linter.all false
set_option maxRecDepth 100000
/-! draws by plain data -/
namespace Mi
open PySem L2
theorem lgR {n k : Nat} (h : n < 2 ^ k) (hk : 0 < k) : n.log2 < k := by
  by_cases e : n = 0
  · subst e; simpa using hk
  · exact (Nat.log2_lt e).mpr h
theorem g_mulR {i j a b : Nat} (hi : i < 2 ^ a) (hj : j < 2 ^ b) (ha : 0 < a) (hb : 0 < b) (h : a + b ≤ 1000000) : gMul (.int (i : Int)) (.int (j : Int)) = some (.val (.int ((i * j : Nat) : Int))) := by
  have h1 := lgR hi ha
  have h2 := lgR hj hb
  show (if (i : Int).natAbs.log2 + (j : Int).natAbs.log2 < 1000000 then some (vI ((i : Int) * (j : Int))) else none) = _
  rw [Int.natAbs_natCast, Int.natAbs_natCast, if_pos (by omega), Int.natCast_mul]
theorem pow_ifR {i j : Int} (h : CPowW i j) : gPow (.int i) (.int j) = some (vI (i ^ j.toNat)) := if_pos h
theorem g_cubeR {i a : Nat} (hi : i < 2 ^ a) (ha : 0 < a) (h : 3 * a ≤ 1000000) : gPow (.int (i : Int)) (.int 3) = some (.val (.int ((i ^ 3 : Nat) : Int))) := by
  have h1 := lgR hi ha
  rw [pow_ifR (show CPowW (i : Int) 3 from ⟨by decide, by rw [Int.natAbs_natCast]; omega⟩), Int.natCast_pow]
  rfl
theorem g_modR {i j : Nat} (hj : 0 < j) : gMod (.int (i : Int)) (.int (j : Int)) = some (.val (.int ((i % j : Nat) : Int))) := by
  show (if (0 : Int) < (j : Int) then some (vI ((i : Int) % (j : Int))) else none) = _
  rw [if_pos (by omega)]
  rfl
theorem g_divR {i j a : Nat} (hj : 0 < j) (h : j < 2 ^ a) (ha : 0 < a) (h9 : a ≤ 9000) : gDiv (.int (i : Int)) (.int (j : Int)) = some (.val (.int ((i / j : Nat) : Int))) := by
  have h1 := lgR h ha
  show (if (0 : Int) < (j : Int) ∧ (j : Int).natAbs.log2 < 9000 then some (vI ((i : Int) / (j : Int))) else none) = _
  rw [Int.natAbs_natCast, if_pos ⟨by omega, by omega⟩]
  rfl
theorem g_gt0R {d : Nat} : gGt (.int (d : Int)) (.int 0) = some (.val (.bool (decide (0 < d)))) := by
  show some (Rv.val (.bool (decide ((d : Int) > 0)))) = _
  congr 3
  rw [Bool.eq_iff_iff]
  simp
theorem pow10R (k : Nat) (h : Nat.ble (4 * k) 1000000 = true) : gPow (.int 10) (.int (k : Int)) = some (.val (.int ((10 ^ k : Nat) : Int))) := by
  have h := Nat.le_of_ble_eq_true h
  have e : (10 : Int).natAbs.log2 = 3 := by decide +kernel
  rw [pow_ifR (show CPowW 10 (k : Int) from ⟨by omega, by rw [e]; omega⟩), Int.natCast_pow]
  rfl
theorem add_natR (i j : Nat) : gAdd (.int (i : Int)) (.int (j : Int)) = some (.val (.int ((i + j : Nat) : Int))) := by
  show some (vI ((i : Int) + (j : Int))) = _
  rw [Int.natCast_add]
/-- the source of draws: digits, a mixed number, a count that can still go on n times -/
structure Sc where
  d : Nat
  m : Nat
  c : Nat
abbrev scD (s : Sc) : List PyData := [.int ((s.d : Nat) : Int), .int ((s.m : Nat) : Int), .int ((s.c : Nat) : Int)]
def Sc.Ok (n : Nat) (s : Sc) : Prop := s.m < 2 ^ 210 ∧ s.c + n ≤ 2 ^ 20
theorem Sc.Ok.le {n m : Nat} {s : Sc} (h : s.Ok n) (hm : m ≤ n) : s.Ok m := ⟨h.1, by have := h.2; omega⟩
end Mi
namespace Mi
open PySem L2
theorem lit_amp : Str.ofString "&" = sN [38] := by decide +kernel
theorem lit_ampc : Str.ofString "&-" = sN [38, 45] := by decide +kernel
theorem lit_ga : Str.ofString ">&" = sN [62, 38] := by decide +kernel
theorem lit_gac : Str.ofString ">&-" = sN [62, 38, 45] := by decide +kernel
theorem lit_g : Str.ofString ">" = sN [62] := by decide +kernel
theorem lit_l : Str.ofString "<" = sN [60] := by decide +kernel
theorem lit_f : Str.ofString "f" = sN [102] := by decide +kernel
theorem lit_gg : Str.ofString "g" = sN [103] := by decide +kernel
theorem lit_ah : Str.ofString "abcdefgh" = sN [97, 98, 99, 100, 101, 102, 103, 104] := by decide +kernel
def alpha : List Nat := [97, 98, 99, 100, 101, 102, 103, 104, 105, 106, 107, 108, 109, 110, 111, 112, 113, 114, 115, 116, 117, 118, 119, 120, 121, 122]
theorem lit_alpha : Str.ofString "abcdefghijklmnopqrstuvwxyz" = sN alpha := by decide +kernel
def nmB (l : List Nat) : Bool := decide (1 ≤ l.length) && decide (l.length ≤ 8) && l.all fun c => decide (97 ≤ c) && decide (c ≤ 122)
theorem nmB_ok {l : List Nat} (h : nmB l = true) : NmOk l := by
  unfold nmB at h
  simp only [Bool.and_eq_true, decide_eq_true_eq, List.all_eq_true] at h
  exact ⟨h.1.1, h.1.2, h.2⟩
theorem strI_dig : ∀ d : Nat, d < 10 → gStrI (.int (d : Int)) = some (.val (.str (sN [48 + d]))) := by
  have h : ∀ d : Nat, d < 10 → (match gStrI (.int ((d : Nat) : Int)) with | some (.val (.str x)) => decide (x = sN [48 + d]) | _ => false) = true := by decide +kernel
  intro d hd
  have := h d hd
  split at this
  · rename_i e
    rw [decide_eq_true_eq] at this
    rw [e, this]
  · cases this
def drawnW (b d : Nat) : List Nat := (alpha.drop b).take (1 + d)
theorem drawn_sl : ∀ b : Nat, b < 26 → ∀ d : Nat, d < 8 → gSl (.str (sN alpha)) (some ((b : Nat) : Int)) (some (((b : Nat) : Int) + 1 + ((d : Nat) : Int))) = some (.val (.str (sN (drawnW b d)))) := by
  have h : ∀ b : Nat, b < 26 → ∀ d : Nat, d < 8 → (match gSl (.str (sN alpha)) (some ((b : Nat) : Int)) (some (((b : Nat) : Int) + 1 + ((d : Nat) : Int))) with | some (.val (.str x)) => decide (x = sN (drawnW b d)) | _ => false) = true := by decide +kernel
  intro b hb d hd
  have := h b hb d hd
  split at this
  · rename_i e
    rw [decide_eq_true_eq] at this
    rw [e, this]
  · cases this
theorem drawn_ok : ∀ b, b < 26 → ∀ d, d < 8 → NmOk (drawnW b d) := by
  have h : ∀ b : Nat, b < 26 → ∀ d : Nat, d < 8 → nmB (drawnW b d) = true := by decide +kernel
  exact fun b hb d hd => nmB_ok (h b hb d hd)
def Wd.Lt (k : Nat) : Wd → Prop
  | .cp m n => m < k ∧ n < k
  | .cl n => n < k
  | .op n _ _ => n < k
end Mi

/-! Rd5.lean -/
set_option Elab.async false
set_option linter.all false
set_option maxRecDepth 100000
/-! the law's own reading of words, by plain data -/
namespace Mi
open PySem L2
def playF (s : Rs) (w : Wd) : Except Nat Rs := match w with
  | .cp m n => if isN' (s.ends.getD m .none) = true then .error m else .ok ((Wd.cp m n).go s)
  | w => .ok (w.go s)
def playW (ws : List Wd) (s : Rs) : Except Nat Rs := foldX playF s ws
theorem isN_go (d : PyData) : gIsN d .none = some (.val (.bool (isN' d))) := by cases d <;> rfl
theorem isntN_go (d : PyData) : gIsntN d .none = some (.val (.bool (!isN' d))) := by cases d <;> rfl
theorem rest_cp {m : Nat} (hm : m < 10) : gEq (.str (sN [38, 48 + m])) (.str (sN [38, 45])) = some (.val (.bool false)) := by
  rw [eq_sS, decide_eq_false]
  rw [sN_inj]
  simp
  omega
theorem rest_op {nm : List Nat} (h : NmOk nm) : gEq (.str (sN nm)) (.str (sN [38, 45])) = some (.val (.bool false)) := by
  rw [eq_sS, decide_eq_false]
  rw [sN_inj]
  intro e
  have := (h.2.2 38 (by rw [e]; simp)).1
  omega
theorem first_op {nm : List Nat} (h : NmOk nm) : ∃ c, gIx (.str (sN nm)) (.int 0) = some (.val (.str (sN [c]))) ∧ gEq (.str (sN [c])) (.str (sN [38])) = some (.val (.bool false)) := by
  cases nm with
  | nil => have := h.1; simp at this
  | cons c l =>
    refine ⟨c, ix_sN (i := 0) (Nat.le_trans h.2.1 (by decide)) rfl, ?_⟩
    rw [eq_sS, decide_eq_false]
    rw [sN_inj]
    have := (h.2.2 c List.mem_cons_self).1
    simp
    omega
end Mi
namespace Mi
open PySem L2
theorem sl_take {xs : List PyData} {i : Nat} (h : i ≤ xs.length) : gSl (.list xs) none (some ((i : Nat) : Int)) = some (.own (.lst (xs.take i))) := by
  show some (Rv.own (.lst (cutD xs none (some ((i : Nat) : Int))))) = _
  unfold cutD
  rw [HT.sIx_none, HT.sIx_nat, Nat.min_eq_left h]
  rfl
theorem sl_drop {xs : List PyData} {i : Nat} (h : i ≤ xs.length) : gSl (.list xs) (some ((i : Nat) : Int)) none = some (.own (.lst (xs.drop i))) := by
  show some (Rv.own (.lst (cutD xs (some ((i : Nat) : Int)) none))) = _
  unfold cutD
  rw [HT.sIx_none, HT.sIx_nat, Nat.min_eq_left h, List.take_of_length_le (by rw [List.length_drop]; omega)]
theorem appL {xs ys : List PyData} (h : xs.length + ys.length ≤ 1000) : gAdd (.list xs) (.list ys) = some (.own (.lst (xs ++ ys))) := if_pos (Nat.le_trans h (by decide))
def freeN (i : Nat) : List PyData := olds.take i ++ [.none] ++ olds.drop (i + 1)
def errB (ws : List Wd) (i : Nat) : Bool := match playW ws ⟨freeN i, [], []⟩ with
  | .ok _ => false
  | .error _ => true
def needsL (ws : List Wd) : List Nat := (List.range 10).filter (errB ws)
def formL (ws : List Wd) : PyData := match playW ws s0 with
  | .error _ => .none
  | .ok s => .tuple [.tuple ((needsL ws).map fun i => .int ((i : Nat) : Int)), .tuple (s.ops.map opD), .tuple s.ends]
theorem foldl_filter {β : Type} (p : β → Bool) : ∀ (xs acc : List β), xs.foldl (fun acc i => if p i = true then acc ++ [i] else acc) acc = acc ++ xs.filter p
  | [], acc => by simp
  | x :: xs, acc => by
    rw [List.foldl_cons, foldl_filter p xs]
    cases h : p x <;> simp [h]
end Mi
namespace Mi
open PySem L2
def renN (p : List Nat) (n : Nat) : Nat := p.getD n 0
def renW (p : List Nat) : Wd → Wd
  | .cp m n => .cp (renN p m) (renN p n)
  | .cl n => .cl (renN p n)
  | .op n gt nm => .op (renN p n) gt nm
/-- a renaming of the ten numbers -/
structure RenOk (p : List Nat) : Prop where
  len : p.length = 10
  nodup : p.Nodup
  lt : ∀ n ∈ p, n < 10
theorem RenOk.get {p : List Nat} (h : RenOk p) {n : Nat} (hn : n < 10) : p[n]? = some (renN p n) := by
  unfold renN
  rw [List.getD_eq_getElem?_getD, List.getElem?_eq_getElem (by rw [h.len]; exact hn)]
  rfl
theorem RenOk.ren_lt {p : List Nat} (h : RenOk p) {n : Nat} (hn : n < 10) : renN p n < 10 := h.lt _ (List.mem_of_getElem? (h.get hn))
theorem RenOk.w {p : List Nat} (h : RenOk p) {w : Wd} (hw : w.Ok) : (renW p w).Ok := by
  cases w with
  | cp m n => exact ⟨h.ren_lt hw.1, h.ren_lt hw.2⟩
  | cl n => exact h.ren_lt hw
  | op n gt nm => exact ⟨h.ren_lt hw.1, hw.2⟩
end Mi

/-! Rd6.lean -/
set_option Elab.async false
set_option linter.all false
set_option maxRecDepth 100000
/-! the form by playing is the form -/
namespace Mi
open PySem L2
theorem cps_grow : ∀ (ws : List Wd) (s : Rs), ∃ l, (runW ws s).cps = s.cps ++ l
  | [], s => ⟨[], by simp [runW]⟩
  | w :: ws, s => by
    obtain ⟨l, hl⟩ := cps_grow ws (w.go s)
    have e : runW (w :: ws) s = runW ws (w.go s) := rfl
    cases w with
    | cp m n => exact ⟨(m, s.ends.getD m .none) :: l, by rw [e, hl]; simp [Wd.go]⟩
    | cl n => exact ⟨l, by rw [e, hl]; rfl⟩
    | op n gt nm => exact ⟨l, by rw [e, hl]; rfl⟩
theorem play_spec : ∀ (ws : List Wd) (s : Rs), match playW ws s with
    | .ok s' => s' = runW ws s ∧ ∀ l, (runW ws s).cps = s.cps ++ l → ∀ c ∈ l, isN' c.2 = false
    | .error _ => ∃ c ∈ (runW ws s).cps, isN' c.2 = true
  | [], s => ⟨rfl, fun l h => by
      have : l = [] := by simpa [runW] using h
      subst this
      exact nofun⟩
  | w :: ws, s => by
    have ih := play_spec ws (w.go s)
    have e : runW (w :: ws) s = runW ws (w.go s) := rfl
    have plain : playW (w :: ws) s = (match playF s w with | .ok s' => playW ws s' | .error q => .error q) := by simp only [playW, foldX]; cases playF s w <;> rfl
    rw [plain, e]
    cases w with
    | cp m n =>
      unfold playF
      dsimp only
      cases hb : isN' (s.ends.getD m .none) with
      | true =>
        rw [if_pos rfl]
        obtain ⟨l, hl⟩ := cps_grow ws ((Wd.cp m n).go s)
        exact ⟨(m, s.ends.getD m .none), by rw [hl]; simp [Wd.go], hb⟩
      | false =>
        rw [if_neg (by decide)]
        dsimp only
        cases hp : playW ws ((Wd.cp m n).go s) with
        | error q => rw [hp] at ih; exact ih
        | ok s' =>
          rw [hp] at ih
          refine ⟨ih.1, fun l hl c hc => ?_⟩
          obtain ⟨l', hl'⟩ := cps_grow ws ((Wd.cp m n).go s)
          have e2 : l = (m, s.ends.getD m .none) :: l' := by
            rw [hl'] at hl
            simp only [Wd.go, List.append_assoc] at hl
            exact (List.append_cancel_left hl).symm
          subst e2
          rcases List.mem_cons.mp hc with q | q
          · rw [q]; exact hb
          · exact ih.2 l' hl' c q
    | cl n =>
      show match playW ws ((Wd.cl n).go s) with | .ok s' => _ | .error _ => _
      cases hp : playW ws ((Wd.cl n).go s) with
      | error q => rw [hp] at ih; exact ih
      | ok s' => rw [hp] at ih; exact ih
    | op n gt nm =>
      show match playW ws ((Wd.op n gt nm).go s) with | .ok s' => _ | .error _ => _
      cases hp : playW ws ((Wd.op n gt nm).go s) with
      | error q => rw [hp] at ih; exact ih
      | ok s' => rw [hp] at ih; exact ih
theorem play_run {ws : List Wd} {t : List PyData} : playW ws ⟨t, [], []⟩ = .ok (runW ws ⟨t, [], []⟩) ∧ (∀ c ∈ (runW ws ⟨t, [], []⟩).cps, isN' c.2 = false) ∨ (∃ m, playW ws ⟨t, [], []⟩ = .error m) ∧ ∃ c ∈ (runW ws ⟨t, [], []⟩).cps, isN' c.2 = true := by
  have h := play_spec ws ⟨t, [], []⟩
  cases hp : playW ws ⟨t, [], []⟩ with
  | ok s => rw [hp] at h; exact .inl ⟨by rw [h.1], h.2 _ rfl⟩
  | error m => rw [hp] at h; exact .inr ⟨⟨m, rfl⟩, h⟩
theorem fails_iff {s : Rs} : failsW s = true ↔ ∃ c ∈ s.cps, isN' c.2 = true := by
  unfold failsW
  rw [List.any_map, List.any_eq_true]
  rfl
/-! ends renamed -/
def mapS (f : PyData → PyData) (s : Rs) : Rs := ⟨s.ends.map f, s.ops, s.cps.map fun c => (c.1, f c.2)⟩
theorem getD_map (f : PyData → PyData) (h : f .none = .none) (l : List PyData) (m : Nat) : (l.map f).getD m .none = f (l.getD m .none) := by
  rw [List.getD_eq_getElem?_getD, List.getD_eq_getElem?_getD, List.getElem?_map]
  cases l[m]? <;> simp [h]
theorem go_map (f : PyData → PyData) (h : f .none = .none) (hn : ∀ i, f (newD i) = newD i) (w : Wd) (s : Rs) : w.go (mapS f s) = mapS f (w.go s) := by
  cases w with
  | cp m n => simp only [Wd.go, mapS, getD_map f h, List.map_set, List.map_append, List.map_cons, List.map_nil]
  | cl n => simp only [Wd.go, mapS, List.map_set, h]
  | op n gt nm => simp only [Wd.go, mapS, List.map_set, hn]
theorem run_map (f : PyData → PyData) (h : f .none = .none) (hn : ∀ i, f (newD i) = newD i) : ∀ (ws : List Wd) (s : Rs), runW ws (mapS f s) = mapS f (runW ws s)
  | [], s => rfl
  | w :: ws, s => by
    show runW ws (w.go (mapS f s)) = mapS f (runW ws (w.go s))
    rw [go_map f h hn, run_map f h hn ws]
def freeF (i : Nat) (d : PyData) : PyData := if isOld d = true ∧ oldIx d = (i : Int) then .none else d
theorem freeF_none (i : Nat) : freeF i .none = .none := by unfold freeF; split <;> rfl
theorem freeF_new (i j : Nat) : freeF i (newD j) = newD j := by unfold freeF; rw [if_neg]; simp
theorem freeF_old (i j : Nat) : freeF i (oldD j) = if j = i then .none else oldD j := by
  unfold freeF
  rw [isOld_old, oldIx_old]
  by_cases h : j = i
  · rw [if_pos h, if_pos ⟨rfl, by omega⟩]
  · rw [if_neg h, if_neg (by omega)]
theorem freeN_map : ∀ i, i < 10 → freeN i = olds.map (freeF i) := by
  have h : ∀ i, i < 10 → dqsM (freeN i) (olds.map (freeF i)) = true := by decide +kernel
  exact fun i hi => eqsM _ _ (h i hi)
theorem run_free {ws : List Wd} {i : Nat} (hi : i < 10) : runW ws ⟨freeN i, [], []⟩ = mapS (freeF i) (runW ws s0) := by
  rw [← run_map _ (freeF_none i) (freeF_new i)]
  show _ = runW ws ⟨olds.map (freeF i), [], []⟩
  rw [freeN_map i hi]
theorem err_iff {ws : List Wd} (ok : RsOk (runW ws s0)) (hf : failsW (runW ws s0) = false) {i : Nat} (hi : i < 10) : errB ws i = true ↔ ∃ c ∈ (runW ws s0).cps, c.2 = oldD i := by
  have nf : ∀ c ∈ (runW ws s0).cps, isN' c.2 = false := fun c hc => by
    cases hb : isN' c.2 with
    | false => rfl
    | true => rw [fails_iff.mpr ⟨c, hc, hb⟩] at hf; cases hf
  have key : (∃ c ∈ (runW ws ⟨freeN i, [], []⟩).cps, isN' c.2 = true) ↔ ∃ c ∈ (runW ws s0).cps, c.2 = oldD i := by
    rw [run_free hi]
    constructor
    · rintro ⟨c, hc, hb⟩
      obtain ⟨c0, hc0, rfl⟩ := List.mem_map.mp hc
      refine ⟨c0, hc0, ?_⟩
      have hb : isN' (freeF i c0.2) = true := hb
      rcases ok.cps c0 hc0 with e | ⟨m, hm, e⟩ | ⟨m, e⟩
      · have := nf c0 hc0; rw [e] at this; cases this
      · rw [e, freeF_old] at hb
        by_cases hm2 : m = i
        · rw [e, hm2]
        · rw [if_neg hm2] at hb; cases hb
      · rw [e, freeF_new] at hb; cases hb
    · rintro ⟨c, hc, e⟩
      exact ⟨_, List.mem_map.mpr ⟨c, hc, rfl⟩, by show isN' (freeF i c.2) = true; rw [e, freeF_old, if_pos rfl]; rfl⟩
  rw [← key]
  unfold errB
  rcases play_run (ws := ws) (t := freeN i) with ⟨e, h⟩ | ⟨⟨m, e⟩, h⟩
  · rw [e]
    constructor
    · intro q; cases q
    · rintro ⟨c, hc, hb⟩; rw [h c hc] at hb; cases hb
  · rw [e]
    exact ⟨fun _ => h, fun _ => rfl⟩
theorem needs_same {ws : List Wd} (ok : RsOk (runW ws s0)) (hf : failsW (runW ws s0) = false) : needsW (runW ws s0) = (needsL ws).map fun (i : Nat) => (i : Int) := by
  refine pw_unique (pw_sortU _) ?_ fun k => ?_
  · unfold needsL
    rw [List.pairwise_map]
    exact ((List.pairwise_lt_range (n := 10)).filter _).imp fun h => by omega
  · rw [needs_mem ok]
    constructor
    · rintro ⟨m, hm, rfl, c, hc, e⟩
      exact List.mem_map.mpr ⟨m, List.mem_filter.mpr ⟨List.mem_range.mpr hm, (err_iff ok hf hm).mpr ⟨c, hc, e⟩⟩, rfl⟩
    · intro h
      obtain ⟨m, hm, rfl⟩ := List.mem_map.mp h
      obtain ⟨h1, h2⟩ := List.mem_filter.mp hm
      have h1 := List.mem_range.mp h1
      obtain ⟨c, hc, e⟩ := (err_iff ok hf h1).mp h2
      exact ⟨m, h1, rfl, c, hc, e⟩
theorem forms_same {ws : List Wd} (h : ∀ w ∈ ws, w.Ok) : formL ws = formP ws := by
  have ok := s0_ok.run h
  unfold formL formP formO
  rcases play_run (ws := ws) (t := olds) with ⟨e, nf⟩ | ⟨⟨m, e⟩, c, hc, hb⟩
  · have hf : failsW (runW ws s0) = false := by
      cases hb : failsW (runW ws s0) with
      | false => rfl
      | true =>
        obtain ⟨c, hc, hq⟩ := fails_iff.mp hb
        rw [nf c hc] at hq; cases hq
    rw [show playW ws s0 = _ from e, hf, if_neg (by decide)]
    dsimp only
    unfold formD
    rw [needs_same ok hf, List.map_map]
    rfl
  · rw [show playW ws s0 = _ from e, if_pos (fails_iff.mpr ⟨c, hc, hb⟩)]
end Mi

/-! Rd9.lean -/
set_option Elab.async false
set_option linter.all false
set_option maxRecDepth 100000
/-! repr of forms and of words is said -/
namespace Mi
open PySem L2
theorem app_len (x y : Str) : (x ++ y).length = x.length + y.length := by
  show (x.cps ++ y.cps).size = x.cps.size + y.cps.size
  exact Array.size_append
theorem textFrom_le (L : Nat) : ∀ (ts : List Str) (k : Nat) (acc : Str), (∀ t ∈ ts, t.length ≤ L) → (textFrom k acc ts).length ≤ acc.length + ts.length * (L + 2)
  | [], _, acc, _ => by show acc.length ≤ _; omega
  | t :: ts, k, acc, h => by
    have ih := textFrom_le L ts (k + 1) (acc ++ (if k > 0 then ", " else "" : String) ++ t) fun u hu => h u (List.mem_cons_of_mem _ hu)
    have ht := h t List.mem_cons_self
    have e : (textFrom k acc (t :: ts)) = textFrom (k + 1) (acc ++ (if k > 0 then ", " else "" : String) ++ t) ts := rfl
    rw [e]
    rw [app_len, app_len] at ih
    have hs : ((if k > 0 then ", " else "" : String) : Str).length ≤ 2 := by split <;> decide +kernel
    rw [List.length_cons, Nat.add_mul]
    omega
theorem listText_le {L : Nat} {ts : List Str} (h : ∀ t ∈ ts, t.length ≤ L) : (listText ts).length ≤ 2 + ts.length * (L + 2) := by
  have := textFrom_le L ts 0 "[" h
  unfold listText
  rw [app_len]
  have e1 : ("[" : Str).length = 1 := by decide +kernel
  have e2 : ("]" : Str).length = 1 := by decide +kernel
  omega
theorem join_le (L : Nat) : ∀ (ts : List Str), (∀ t ∈ ts, t.length ≤ L) → (Str.join ", " ts).length ≤ ts.length * (L + 2)
  | [], _ => by show (Str.empty).length ≤ _; simp [Str.empty, Str.length]
  | [t], h => by
    have := h t List.mem_cons_self
    show t.length ≤ _
    rw [List.length_singleton]; omega
  | t :: u :: ts, h => by
    have ih := join_le L (u :: ts) fun v hv => h v (List.mem_cons_of_mem _ hv)
    have ht := h t List.mem_cons_self
    have e : Str.join ", " (t :: u :: ts) = t ++ ", " ++ Str.join ", " (u :: ts) := rfl
    rw [e, app_len, app_len, List.length_cons, Nat.add_mul]
    have e1 : (", " : Str).length = 2 := by decide +kernel
    omega
theorem tupleText_le {L : Nat} {ts : List Str} (h : ∀ t ∈ ts, t.length ≤ L) : (tupleText ts).length ≤ 3 + ts.length * (L + 2) := by
  have := join_le L ts h
  unfold tupleText
  rw [app_len, app_len]
  have e1 : ("(" : Str).length = 1 := by decide +kernel
  have e2 : ((if ts.length == 1 then ",)" else ")" : String) : Str).length ≤ 2 := by split <;> decide +kernel
  omega
def Sh (L : Nat) (d : PyData) : Prop := PyData.showable d = true ∧ (PyData.shown d).length ≤ L
theorem Sh.mono {L M : Nat} {d : PyData} (h : Sh L d) (hl : L ≤ M) : Sh M d := ⟨h.1, Nat.le_trans h.2 hl⟩
theorem shAll {L : Nat} : ∀ {ds : List PyData}, (∀ d ∈ ds, Sh L d) → PyData.showableAll ds = true ∧ (∀ t ∈ PyData.shownAll ds, t.length ≤ L) ∧ (PyData.shownAll ds).length = ds.length
  | [], _ => ⟨by simp [PyData.showableAll], by simp [PyData.shownAll], by simp [PyData.shownAll]⟩
  | d :: ds, h => by
    obtain ⟨h1, h2, h3⟩ := shAll fun e he => h e (List.mem_cons_of_mem _ he)
    have hd := h d List.mem_cons_self
    refine ⟨by simp only [PyData.showableAll, hd.1, h1, Bool.and_self], ?_, by simp only [PyData.shownAll, List.length_cons, h3]⟩
    intro t ht
    simp only [PyData.shownAll] at ht
    rcases List.mem_cons.mp ht with e | e
    · rw [e]; exact hd.2
    · exact h2 t e
theorem Sh.lst {L N : Nat} {ds : List PyData} (h : ∀ d ∈ ds, Sh L d) (hn : ds.length ≤ N) : Sh (2 + N * (L + 2)) (.list ds) := by
  obtain ⟨h1, h2, h3⟩ := shAll h
  refine ⟨by simp only [PyData.showable, h1], ?_⟩
  have := listText_le h2
  rw [h3] at this
  simp only [PyData.shown]
  exact Nat.le_trans this (Nat.add_le_add_left (Nat.mul_le_mul_right _ hn) _)
theorem Sh.tup {L N : Nat} {ds : List PyData} (h : ∀ d ∈ ds, Sh L d) (hn : ds.length ≤ N) : Sh (3 + N * (L + 2)) (.tuple ds) := by
  obtain ⟨h1, h2, h3⟩ := shAll h
  refine ⟨by simp only [PyData.showable, h1], ?_⟩
  have := tupleText_le h2
  rw [h3] at this
  simp only [PyData.shown]
  exact Nat.le_trans this (Nat.add_le_add_left (Nat.mul_le_mul_right _ hn) _)
theorem Sh.non : Sh 4 .none := ⟨rfl, by decide +kernel⟩
theorem Sh.dig : ∀ i : Nat, i < 64 → Sh 4 (.int (i : Int)) := by
  have h : ∀ i : Nat, i < 64 → PyData.showable (.int (i : Int)) = true ∧ (PyData.shown (.int (i : Int))).length ≤ 4 := by decide +kernel
  exact h
theorem Sh.str {x : Str} (hx : ∀ c ∈ x.cps.toList, c < 16 ^ 8) {n : Nat} (hn : x.length ≤ n) : Sh (10 * n + 2) (.str x) := by
  refine ⟨by simp only [PyData.showable], ?_⟩
  have := StrLaws.reprText_len x hx
  simp only [PyData.shown]
  omega
theorem Sh.sN {l : List Nat} (hx : ∀ c ∈ l, c < 1000) {n : Nat} (hn : l.length ≤ n) : Sh (10 * n + 2) (.str (sN l)) :=
  Sh.str (fun c hc => Nat.lt_of_lt_of_le (hx c hc) (by decide)) (by rw [sN_len]; exact hn)
/-- a new end's number is that of an opening -/
def NewLt (s : Rs) : Prop := ∀ d ∈ s.ends, ∀ i, d = newD i → i < s.ops.length
theorem NewLt.go {s : Rs} (h : NewLt s) (w : Wd) : NewLt (w.go s) := by
  intro d hd i e
  cases w with
  | cp m n =>
    rcases List.mem_or_eq_of_mem_set (show d ∈ s.ends.set n (s.ends.getD m .none) from hd) with q | q
    · exact h d q i e
    · rw [List.getD_eq_getElem?_getD] at q
      cases c : s.ends[m]? with
      | none => rw [c] at q; rw [q] at e; cases e
      | some x => rw [c] at q; rw [q] at e; exact h x (List.mem_of_getElem? c) i e
  | cl n =>
    rcases List.mem_or_eq_of_mem_set (show d ∈ s.ends.set n .none from hd) with q | q
    · exact h d q i e
    · rw [q] at e; cases e
  | op n gt nm =>
    show i < (s.ops ++ [(gt, nm)]).length
    rw [List.length_append, List.length_singleton]
    rcases List.mem_or_eq_of_mem_set (show d ∈ s.ends.set n (newD s.ops.length) from hd) with q | q
    · have := h d q i e; omega
    · rw [q] at e
      injection e with e
      simp at e
      omega
theorem NewLt.run : ∀ {ws : List Wd} {s : Rs}, NewLt s → NewLt (runW ws s)
  | [], _, h => h
  | w :: ws, s, h => NewLt.run (ws := ws) (h.go w)
theorem NewLt.init : NewLt s0 := fun d hd i e => by
  obtain ⟨m, _, rfl⟩ := List.mem_map.mp (show d ∈ (List.range 10).map oldD from hd)
  have := congrArg isOld e
  simp at this
theorem lit_old : Sh 42 (.str "old") := Sh.mono (L := 5) ⟨rfl, by decide +kernel⟩ (by decide)
theorem lit_new : Sh 42 (.str "new") := Sh.mono (L := 5) ⟨rfl, by decide +kernel⟩ (by decide)
theorem sh_end {d : PyData} (h : EndOk d) (h2 : ∀ i, d = newD i → i < 64) : Sh 100 d := by
  rcases h with rfl | ⟨m, hm, rfl⟩ | ⟨m, rfl⟩
  · exact Sh.non.mono (by decide)
  · refine (Sh.tup (L := 42) (N := 2) (fun d hd => ?_) (by simp)).mono (by decide)
    rcases List.mem_cons.mp hd with e | hd
    · rw [e]; exact lit_old
    · rw [List.mem_singleton] at hd; rw [hd]; exact (Sh.dig m (by omega)).mono (by decide)
  · refine (Sh.tup (L := 42) (N := 2) (fun d hd => ?_) (by simp)).mono (by decide)
    rcases List.mem_cons.mp hd with e | hd
    · rw [e]; exact lit_new
    · rw [List.mem_singleton] at hd; rw [hd]; exact (Sh.dig m (h2 m rfl)).mono (by decide)
theorem sh_op {o : Bool × List Nat} (h : NmOk o.2) : Sh 200 (opD o) := by
  refine (Sh.tup (L := 92) (N := 2) (fun d hd => ?_) (by simp)).mono (by decide)
  rcases List.mem_cons.mp hd with e | hd
  · rw [e]
    exact (Sh.sN (n := 1) (fun c hc => by rw [List.mem_singleton] at hc; subst hc; split <;> decide) (by simp)).mono (by decide)
  · rw [List.mem_singleton] at hd
    rw [hd]
    exact (Sh.sN (n := 9) (fun c hc => by have := (h.2.2 c hc).2; omega) (by have := h.2.1; omega)).mono (by decide)
theorem sh_form {ws : List Wd} (h : ∀ w ∈ ws, w.Ok) (hl : ws.length ≤ 60) : Sh 40000 (formP ws) := by
  have ok := s0_ok.run h
  have nl := NewLt.init.run (ws := ws)
  have ho := runW_ops ws s0
  simp only [List.length_nil, Nat.zero_add] at ho
  unfold formP formO
  by_cases hb : failsW (runW ws s0) = true
  · rw [if_pos hb]; exact Sh.non.mono (by decide)
  · rw [if_neg hb]
    show Sh 40000 (formD _)
    generalize runW ws s0 = s at ok nl ho
    refine (Sh.tup (L := 13000) (N := 3) (fun d hd => ?_) (by simp)).mono (by decide)
    rcases List.mem_cons.mp hd with e | hd
    · rw [e]
      refine (Sh.tup (L := 4) (N := 10) (fun d hd => ?_) (by rw [List.length_map]; exact needs_len ok)).mono (by decide)
      obtain ⟨k, hk, rfl⟩ := List.mem_map.mp hd
      obtain ⟨m, hm, rfl, _⟩ := (needs_mem ok).mp hk
      exact Sh.dig m (by omega)
    · rcases List.mem_cons.mp hd with e | hd
      · rw [e]
        refine (Sh.tup (L := 200) (N := 60) (fun d hd => ?_) (by rw [List.length_map]; omega)).mono (by decide)
        obtain ⟨o, ho, rfl⟩ := List.mem_map.mp hd
        exact sh_op (ok.opn o ho)
      · rw [List.mem_singleton] at hd
        rw [hd]
        refine (Sh.tup (L := 100) (N := 10) (fun d hd => ?_) (by rw [ok.len]; decide)).mono (by decide)
        exact sh_end (ok.ends d hd) fun i e => by have := nl d hd i e; omega
theorem repr_of {L k : Nat} {d : PyData} (h : Sh L d) (hk : PyData.depth d ≤ k) (hL : L ≤ 100000) (hk2 : k < 60) : gRepr d = some (.val (.str (PyData.shown d))) := by
  unfold gRepr
  have h1 : (PyData.shown d).length ≤ sizeLine := Nat.le_trans (Nat.le_trans h.2 hL) (by decide)
  rw [h.1, decide_eq_true h1, decide_eq_true (show PyData.depth d < 60 by omega)]
  rfl
theorem repr_two {ws : List Wd} (h : ∀ w ∈ ws, w.Ok) (hl : ws.length ≤ 60) : gRepr (.list [formP ws, formP ws]) = some (.val (.str (PyData.shown (.list [formP ws, formP ws])))) := by
  have hf := formP_ok h
  refine repr_of (k := 5) (Sh.lst (L := 40000) (N := 2) (fun d hd => ?_) (by simp)) (OkD.lst (.cons hf (.cons hf .nil))).depth (by decide) (by decide)
  rcases List.mem_cons.mp hd with e | hd
  · rw [e]; exact sh_form h hl
  · rw [List.mem_singleton] at hd; rw [hd]; exact sh_form h hl
theorem word_small {w : Wd} (h : w.Ok) : w.t.length ≤ 10 ∧ ∀ c ∈ w.t, c < 1000 := by
  cases w with
  | cp m n => exact ⟨by simp [Wd.t], by have := h.1; have := h.2; simp [Wd.t]; omega⟩
  | cl n => have : n < 10 := h; exact ⟨by simp [Wd.t], by simp [Wd.t]; omega⟩
  | op n gt nm =>
    refine ⟨by have := h.2.2.1; simp [Wd.t]; omega, fun c hc => ?_⟩
    rcases List.mem_cons.mp (show c ∈ (48 + n) :: (if gt then 62 else 60) :: nm from hc) with e | hc
    · have := h.1; omega
    · rcases List.mem_cons.mp hc with e | hc
      · subst e; split <;> decide
      · have := (h.2.2.2 c hc).2; omega
theorem repr_words {ws : List Wd} (h : ∀ w ∈ ws, w.Ok) (hl : ws.length ≤ 60) : gRepr (.list (ws.map wD)) = some (.val (.str (PyData.shown (.list (ws.map wD))))) := by
  have okl : OkD 1 (.list (ws.map wD)) := .lst (.of fun d hd => by
    obtain ⟨w, hw, rfl⟩ := List.mem_map.mp hd
    exact .str (strOk_sN fun c hc => Nat.lt_of_lt_of_le ((word_small (h w hw)).2 c hc) (by decide)))
  refine repr_of (k := 1) (Sh.lst (L := 102) (N := 60) (fun d hd => ?_) (by rw [List.length_map]; exact hl)) okl.depth (by decide) (by decide)
  obtain ⟨w, hw, rfl⟩ := List.mem_map.mp hd
  exact Sh.sN (word_small (h w hw)).2 (word_small (h w hw)).1
end Mi

/-! Ru1.lean -/
set_option Elab.async false
set_option linter.all false
set_option maxRecDepth 100000
namespace Lw
open PySem L2 Mi
local macro_rules
  | `(tactic| grows_one) => `(tactic| first
    | with_reducible exact frz_v
    | with_reducible exact frz_o
    | (with_reducible apply frz_s); exact rfl; dict_keeps
    | (with_reducible apply frz_d); exact rfl
    | (with_reducible apply frz_b); exact rfl; dict_keeps
    | exact rfl)
local macro_rules
  | `(tactic| sizeOf_list_dec) => `(tactic| first
    | with_reducible exact ags_nil
    | (with_reducible apply ags_val); sizeOf_list_dec
    | (with_reducible apply ags_own); sizeOf_list_dec
    | (with_reducible apply ags_at); exact rfl; sizeOf_list_dec
    | (with_reducible apply ags_dead); exact rfl; sizeOf_list_dec)
local macro_rules
  | `(tactic| dict_keeps) => `(tactic| first | (simp only [Mi.put, entry, entVs, entOs, List.length_cons, List.length_nil, Nat.reduceAdd, Nat.reduceSub, List.replicate_succ, List.replicate_zero, List.cons_append, List.nil_append, List.set_cons_zero, List.set_cons_succ, setsV_nil, setsV_cons] <;> exact rfl) | exact rfl)
local macro_rules
  | `(tactic| left) => `(tactic| first
    | with_reducible assumption
    | with_reducible exact k_go
    | (with_reducible apply nm_val); exact rfl
    | (with_reducible apply nm_own); exact rfl
    | (with_reducible apply nm_bor); exact rfl
    | with_reducible exact nilL_go
    | with_reducible exact nilR_go
    | with_reducible exact yes_go
    | with_reducible exact dnew_go
    | (with_reducible apply bin_go'); left; left; exact rfl; exact rfl; right
    | (with_reducible apply un_go'); left; exact rfl; right
    | (with_reducible apply consL_go); left; grows_one; left
    | (with_reducible apply tup_go); left; exact sz_ok rfl
    | (with_reducible apply lst_go); left; exact sz_ok rfl
    | (with_reducible apply consR_go); left; left
    | (with_reducible apply call_go0); left; sizeOf_list_dec; right; exact rfl
    | (with_reducible apply call_go1); left; sizeOf_list_dec; right; dict_keeps
    | (with_reducible apply call_go2); left; sizeOf_list_dec; right; dict_keeps
    | (with_reducible apply call_go); left; sizeOf_list_dec; exact rfl; right; exact rfl
    | (with_reducible apply fz_go); left; grows_one
    | (with_reducible apply mut_go'); exact rfl; left; exact rfl; exact ⟨_, rfl⟩; right; dict_keeps
    | (with_reducible apply mut_goB); exact rfl; exact rfl; left; exact rfl; right; dict_keeps
    | (with_reducible apply met_go); left; exact rfl; left; exact rfl; right
    | (with_reducible apply sl0_go); left; exact rfl; right
    | (with_reducible apply slL_go); left; left; exact rfl; exact rfl; right
    | (with_reducible apply slH_go); left; left; exact rfl; exact rfl; right
    | (with_reducible apply slLH_go); left; left; exact rfl; left; exact rfl; exact rfl; right
    | (with_reducible apply rep_go); left; left; exact rfl; exact ⟨by decide, sz_ok rfl⟩
    | (with_reducible apply lrg_go); left; exact rfl; decide
    | (with_reducible apply tB_go); left; exact rfl
    | (with_reducible apply tT_go); left; exact rfl; right
    | (with_reducible apply and_go); left; intro _; left
    | (with_reducible apply or_go); left; intro _; left
    | (with_reducible apply not_go); left
    | (with_reducible apply andE_go); left; exact rfl; intro _; left
    | (with_reducible apply orE_go); left; exact rfl; intro _; left
    | (with_reducible apply notE_go); left; exact rfl
    | (with_reducible apply ch_go); left; left; exact rfl; exact rfl; right; left; exact rfl; right)
local macro_rules
  | `(tactic| within_ways) => `(tactic| first
    | with_reducible assumption
    | with_reducible exact nx_go
    | (with_reducible apply seq_any); within_ways; (first | with_reducible exact seqO_rt | ((with_reducible apply seqO_nx); within_ways))
    | (with_reducible apply set_any); left; (first | with_reducible exact slotR_val | with_reducible exact slotR_own); dict_keeps
    | (with_reducible apply ret_go); left
    | (with_reducible apply drop_go); left
    | (with_reducible apply if_st); left; (first | (refine Or.inl ⟨?_, ?_⟩; infer_instance; within_ways) | (refine Or.inr ⟨?_, ?_⟩; infer_instance; within_ways))
    | (with_reducible apply unp_go'); left; exact rfl; exact rfl; dict_keeps
    | (with_reducible apply unl_go'); left; exact rfl; grows_one; exact rfl; dict_keeps
    | (with_reducible apply sto_go'); left; grows_one; exact ⟨_, rfl⟩; left; exact rfl; exact rfl; right; dict_keeps; dict_keeps
    | (with_reducible apply sto_goB); left; grows_one; exact rfl; left; exact rfl; exact rfl; right; dict_keeps; dict_keeps
    | (with_reducible apply par_go'); left; exact rfl; exact rfl; exact rfl; exact rfl; dict_keeps
    | (with_reducible apply aug_go'); exact rfl; left; exact rfl; dict_keeps
    | (with_reducible apply set_go); left; exact rfl)
local macro_rules
  | `(tactic| infer_instance) => `(tactic| first
    | with_reducible exact rfl
    | with_reducible assumption
    | (first
      | decide +kernel
      | (simp only [decide_eq_true_eq, decide_eq_false_iff_not, Bool.and_eq_true, Bool.or_eq_true, Bool.or_eq_false_iff, Bool.and_eq_false_iff, Bool.not_eq_true', Bool.not_eq_false', Bool.not_true, Bool.not_false, Bool.or_true, Bool.true_or, Bool.and_false, Bool.false_and, Bool.or_false, Bool.false_or, Bool.and_true, Bool.true_and, and_true, true_and]; first | done | assumption | omega)))
local macro_rules
  | `(tactic| right) => `(tactic| first
    | with_reducible assumption
    | with_reducible exact eq_sS _ _
    | with_reducible exact ne_sS _ _
    | with_reducible exact ix_t0
    | with_reducible exact ix_t1
    | with_reducible exact ix_t2
    | with_reducible exact ix_l0
    | with_reducible exact ix_l1
    | with_reducible exact ix_l2
    | with_reducible exact add_ii
    | with_reducible exact sub_ii
    | with_reducible exact appL_go rfl
    | with_reducible exact add_sN' rfl
    | with_reducible exact isn_n
    | with_reducible exact isn_i
    | with_reducible exact isn_s
    | with_reducible exact isn_l
    | with_reducible exact isn_t
    | with_reducible exact isnt_n
    | with_reducible exact isnt_i
    | with_reducible exact isnt_s
    | with_reducible exact isnt_l
    | with_reducible exact isnt_t
    | with_reducible exact truth_b
    | with_reducible exact list_go
    | with_reducible exact tuple_go
    | with_reducible exact tuplet_go
    | exact rfl)
theorem run_is_list (ds : List PyData) : G_is_list [.val (.list ds)] = .ret (.val (.bool true)) [] := by
  refine run_go rfl (by dict_keeps) (by delta b_is_list; within_ways) rfl
theorem run_step_cp : ∀ m n : Nat, m < 10 → n < 10 → G_redirection_step [.val (wD (.cp m n))] = .ret (.val (stepD (.cp m n))) [] := by
  have h : ∀ m, m < 10 → ∀ n, n < 10 → fqM (G_redirection_step [.val (wD (.cp m n))]) (stepD (.cp m n)) = true := by decide +kernel
  exact fun m n hm hn => fqM_eq (h m hm n hn)
theorem run_step_cl : ∀ n : Nat, n < 10 → G_redirection_step [.val (wD (.cl n))] = .ret (.val (stepD (.cl n))) [] := by
  have h : ∀ n, n < 10 → fqM (G_redirection_step [.val (wD (.cl n))]) (stepD (.cl n)) = true := by decide +kernel
  exact fun n hn => fqM_eq (h n hn)
theorem letter_lo {c : Nat} (h : 97 ≤ c) : (!decide ([c] < ("a" : Str).cps.toList)) = true := by
  have e : ("a" : Str).cps.toList = [97] := by decide +kernel
  rw [e]
  simp only [Bool.not_eq_true', decide_eq_false_iff_not, List.cons_lt_cons_iff]
  simp
  omega
theorem letter_hi {c : Nat} (h : c ≤ 122) : (!decide (("z" : Str).cps.toList < [c])) = true := by
  have e : ("z" : Str).cps.toList = [122] := by decide +kernel
  rw [e]
  simp only [Bool.not_eq_true', decide_eq_false_iff_not, List.cons_lt_cons_iff]
  simp
  omega
theorem sq_run0 {r : En} {z : Str} (h : r.vs[0]? = some (some (.val (.str z)))) : sqI (nmE 0) r = .ok ⟨strNth z, z.cps.toList.length⟩ r := by
  have e : nmE 0 r = .ok (.val (.str z)) r := by unfold nmE; rw [h]
  unfold sqI
  rw [e]
  rfl
theorem run_is_name {nm : List Nat} (h : NmOk nm) : G_is_name [.val (.str (sN nm))] = .ret (.val (.bool true)) [] := by
  obtain ⟨h1, h2, h3⟩ := h
  have hlen := len_sN (l := nm) (Nat.le_trans h2 (by decide))
  have g1 : gLe (.int 1) (.int ((nm.length : Nat) : Int)) = some (.val (.bool true)) := by
    show some (Rv.val (PyData.bool (decide _))) = _
    rw [decide_eq_true (by omega)]
  have g2 : gLe (.int ((nm.length : Nat) : Int)) (.int 8) = some (.val (.bool true)) := by
    show some (Rv.val (PyData.bool (decide _))) = _
    rw [decide_eq_true (by omega)]
  have l1 : ∀ r0 : En, r0 = ⟨[some (.val (.str (sN nm))), none], []⟩ → lcE (sqI (nmE 0)) (fun d r => some (put r 1 (.val d))) [1] (yesB) (chE gLeS gLeS (kE (.str "a")) (nmE 1) (kE (.str "z"))) r0 = .ok (.own (.lst ((nm.map fun _ => true).map .bool))) r0 := by
    rintro r0 rfl
    refine (lcE_eq (T := [1]) (W := _) (r1 := _) (sq_run0 rfl) rfl rfl rfl nm (fun c => .str ⟨#[c]⟩) (fun i => rfl) (Nat.le_refl _) (Nat.le_trans h2 (by decide)) (fun _ => true) (fun _ => .bool true) fun c hc => ?_).trans ?_
    · have q1 : gLeS (.str "a") (.str ⟨#[c]⟩) = some (.val (.bool true)) := congrArg (fun b => some (Rv.val (PyData.bool b))) (letter_lo (h3 c hc).1)
      have q2 : gLeS (.str ⟨#[c]⟩) (.str "z") = some (.val (.bool true)) := congrArg (fun b => some (Rv.val (PyData.bool b))) (letter_hi (h3 c hc).2)
      exact ⟨_, rfl, _, rfl, rfl, fun _ => ⟨_, val_frz (ch_go (k := true) (l := true) k_go (nm_val rfl) rfl rfl q1 k_go rfl q2), rfl⟩⟩
    · rw [ft, List.map_map]; rfl
  have ha : gAll (.list ((nm.map fun _ => true).map .bool)) = some (.val (.bool true)) := by
    rw [all_bools]
    simp
  have l2 := l1 _ rfl
  refine run_go rfl (by dict_keeps) (by delta b_is_name; within_ways) rfl
theorem dig_in : ∀ n, n < 10 → gNotIn (.str (sN [48 + n])) (.str "0123456789") = some (.val (.bool false)) := by
  have h : ∀ n, n < 10 → (match gNotIn (.str (sN [48 + n])) (.str "0123456789") with | some (.val (.bool false)) => true | _ => false) = true := by decide +kernel
  intro n hn
  have := h n hn
  split at this
  · assumption
  · cases this
theorem dig_int : ∀ n, n < 10 → gIntX (.str (sN [48 + n])) = some (.val (.int (n : Int))) := by
  have h : ∀ n, n < 10 → (match gIntX (.str (sN [48 + n])) with | some (.val (.int k)) => decide (k = (n : Int)) | _ => false) = true := by decide +kernel
  intro n hn
  have := h n hn
  split at this
  · rename_i e
    rw [decide_eq_true_eq] at this
    rw [e, this]
  · cases this
theorem run_step_op {n : Nat} {gt : Bool} {nm : List Nat} (hn : n < 10) (h : NmOk nm) : G_redirection_step [.val (wD (.op n gt nm))] = .ret (.val (stepD (.op n gt nm))) [] := by
  have h1 := h.1
  have h2 := h.2.1
  have hz : ((48 + n) :: (if gt = true then 62 else 60) :: nm).length ≤ sizeLine := Nat.le_trans (show nm.length + 1 + 1 ≤ 10 by omega) (by decide)
  have q1 := len_sN hz
  have q2 : gLt (.int ((((48 + n) :: (if gt = true then 62 else 60) :: nm).length : Nat) : Int)) (.int 3) = some (.val (.bool false)) := by
    show some (Rv.val (PyData.bool (decide _))) = _
    rw [decide_eq_false (by simp only [List.length_cons]; omega)]
  have q3 : gIx (.str (sN ((48 + n) :: (if gt = true then 62 else 60) :: nm))) (.int 0) = some (.val (.str (sN [48 + n]))) := ix_sN (i := 0) hz rfl
  have q4 : gIx (.str (sN ((48 + n) :: (if gt = true then 62 else 60) :: nm))) (.int 1) = some (.val (.str (sN [if gt = true then 62 else 60]))) := ix_sN (i := 1) hz rfl
  have q5 : gSl (.str (sN ((48 + n) :: (if gt = true then 62 else 60) :: nm))) (some 2) none = some (.val (.str (sN nm))) := sl_sN (i := 2) hz (by simp)
  have q6 := dig_in n hn
  have q7 := dig_int n hn
  have q8 : gIn (.str (sN [if gt = true then 62 else 60])) (.tuple [.str "<", .str ">"]) = some (.val (.bool true)) := by
    have h : ∀ gt : Bool, (match gIn (.str (sN [if gt = true then 62 else 60])) (.tuple [.str "<", .str ">"]) with | some (.val (.bool true)) => true | _ => false) = true := by decide +kernel
    have := h gt
    split at this
    · assumption
    · cases this
  have q9 := run_is_name h
  show G_redirection_step [.val (.str (sN ((48 + n) :: (if gt = true then 62 else 60) :: nm)))] = _
  refine run_go rfl (by dict_keeps) (by delta b_redirection_step; within_ways) rfl
theorem run_step {w : Wd} (h : w.Ok) : G_redirection_step [.val (wD w)] = .ret (.val (stepD w)) [] := by
  cases w with
  | cp m n => exact run_step_cp m n h.1 h.2
  | cl n => exact run_step_cl n h
  | op n gt nm => exact run_step_op h.1 h.2
end Lw

/-! Ru2.lean -/
set_option Elab.async false
set_option linter.all false
set_option maxRecDepth 100000
namespace Lw
open PySem L2 Mi
local macro_rules
  | `(tactic| grows_one) => `(tactic| first
    | with_reducible exact frz_v
    | with_reducible exact frz_o
    | (with_reducible apply frz_s); exact rfl; dict_keeps
    | (with_reducible apply frz_d); exact rfl
    | (with_reducible apply frz_b); exact rfl; dict_keeps
    | exact rfl)
local macro_rules
  | `(tactic| sizeOf_list_dec) => `(tactic| first
    | with_reducible exact ags_nil
    | (with_reducible apply ags_val); sizeOf_list_dec
    | (with_reducible apply ags_own); sizeOf_list_dec
    | (with_reducible apply ags_at); exact rfl; sizeOf_list_dec
    | (with_reducible apply ags_dead); exact rfl; sizeOf_list_dec)
local macro_rules
  | `(tactic| dict_keeps) => `(tactic| first | (simp only [Mi.put, entry, entVs, entOs, List.length_cons, List.length_nil, Nat.reduceAdd, Nat.reduceSub, List.replicate_succ, List.replicate_zero, List.cons_append, List.nil_append, List.set_cons_zero, List.set_cons_succ, setsV_nil, setsV_cons] <;> exact rfl) | exact rfl)
local macro_rules
  | `(tactic| left) => `(tactic| first
    | with_reducible assumption
    | with_reducible exact k_go
    | (with_reducible apply nm_val); exact rfl
    | (with_reducible apply nm_own); exact rfl
    | (with_reducible apply nm_bor); exact rfl
    | with_reducible exact nilL_go
    | with_reducible exact nilR_go
    | with_reducible exact yes_go
    | with_reducible exact dnew_go
    | (with_reducible apply bin_go'); left; left; exact rfl; exact rfl; right
    | (with_reducible apply un_go'); left; exact rfl; right
    | (with_reducible apply consL_go); left; grows_one; left
    | (with_reducible apply tup_go); left; exact sz_ok rfl
    | (with_reducible apply lst_go); left; exact sz_ok rfl
    | (with_reducible apply consR_go); left; left
    | (with_reducible apply call_go0); left; sizeOf_list_dec; right; exact rfl
    | (with_reducible apply call_go1); left; sizeOf_list_dec; right; dict_keeps
    | (with_reducible apply call_go2); left; sizeOf_list_dec; right; dict_keeps
    | (with_reducible apply call_go); left; sizeOf_list_dec; exact rfl; right; exact rfl
    | (with_reducible apply fz_go); left; grows_one
    | (with_reducible apply mut_go'); exact rfl; left; exact rfl; exact ⟨_, rfl⟩; right; dict_keeps
    | (with_reducible apply mut_goB); exact rfl; exact rfl; left; exact rfl; right; dict_keeps
    | (with_reducible apply met_go); left; exact rfl; left; exact rfl; right
    | (with_reducible apply sl0_go); left; exact rfl; right
    | (with_reducible apply slL_go); left; left; exact rfl; exact rfl; right
    | (with_reducible apply slH_go); left; left; exact rfl; exact rfl; right
    | (with_reducible apply slLH_go); left; left; exact rfl; left; exact rfl; exact rfl; right
    | (with_reducible apply rep_go); left; left; exact rfl; exact ⟨by decide, sz_ok rfl⟩
    | (with_reducible apply lrg_go); left; exact rfl; decide
    | (with_reducible apply tB_go); left; exact rfl
    | (with_reducible apply tT_go); left; exact rfl; right
    | (with_reducible apply and_go); left; intro _; left
    | (with_reducible apply or_go); left; intro _; left
    | (with_reducible apply not_go); left
    | (with_reducible apply andE_go); left; exact rfl; intro _; left
    | (with_reducible apply orE_go); left; exact rfl; intro _; left
    | (with_reducible apply notE_go); left; exact rfl
    | (with_reducible apply ch_go); left; left; exact rfl; exact rfl; right; left; exact rfl; right)
local macro_rules
  | `(tactic| within_ways) => `(tactic| first
    | with_reducible assumption
    | with_reducible exact nx_go
    | (with_reducible apply seq_any); within_ways; (first | with_reducible exact seqO_rt | ((with_reducible apply seqO_nx); within_ways))
    | (with_reducible apply set_any); left; (first | with_reducible exact slotR_val | with_reducible exact slotR_own); dict_keeps
    | (with_reducible apply ret_go); left
    | (with_reducible apply drop_go); left
    | (with_reducible apply if_st); left; (first | (refine Or.inl ⟨?_, ?_⟩; infer_instance; within_ways) | (refine Or.inr ⟨?_, ?_⟩; infer_instance; within_ways))
    | (with_reducible apply unp_go'); left; exact rfl; exact rfl; dict_keeps
    | (with_reducible apply unl_go'); left; exact rfl; grows_one; exact rfl; dict_keeps
    | (with_reducible apply sto_go'); left; grows_one; exact ⟨_, rfl⟩; left; exact rfl; exact rfl; right; dict_keeps; dict_keeps
    | (with_reducible apply sto_goB); left; grows_one; exact rfl; left; exact rfl; exact rfl; right; dict_keeps; dict_keeps
    | (with_reducible apply par_go'); left; exact rfl; exact rfl; exact rfl; exact rfl; dict_keeps
    | (with_reducible apply aug_go'); exact rfl; left; exact rfl; dict_keeps
    | (with_reducible apply set_go); left; exact rfl)
local macro_rules
  | `(tactic| infer_instance) => `(tactic| first
    | with_reducible exact rfl
    | with_reducible assumption
    | (first
      | decide +kernel
      | (simp only [decide_eq_true_eq, decide_eq_false_iff_not, Bool.and_eq_true, Bool.or_eq_true, Bool.or_eq_false_iff, Bool.and_eq_false_iff, Bool.not_eq_true', Bool.not_eq_false', Bool.not_true, Bool.not_false, Bool.or_true, Bool.true_or, Bool.and_false, Bool.false_and, Bool.or_false, Bool.false_or, Bool.and_true, Bool.true_and, and_true, true_and]; first | done | assumption | omega)))
local macro_rules
  | `(tactic| right) => `(tactic| first
    | with_reducible assumption
    | with_reducible exact eq_sS _ _
    | with_reducible exact ne_sS _ _
    | with_reducible exact ix_t0
    | with_reducible exact ix_t1
    | with_reducible exact ix_t2
    | with_reducible exact ix_l0
    | with_reducible exact ix_l1
    | with_reducible exact ix_l2
    | with_reducible exact add_ii
    | with_reducible exact sub_ii
    | with_reducible exact appL_go rfl
    | with_reducible exact add_sN' rfl
    | with_reducible exact isn_n
    | with_reducible exact isn_i
    | with_reducible exact isn_s
    | with_reducible exact isn_l
    | with_reducible exact isn_t
    | with_reducible exact isnt_n
    | with_reducible exact isnt_i
    | with_reducible exact isnt_s
    | with_reducible exact isnt_l
    | with_reducible exact isnt_t
    | with_reducible exact truth_b
    | with_reducible exact list_go
    | with_reducible exact tuple_go
    | with_reducible exact tuplet_go
    | exact rfl)
/-- the table behind a step; fr: the new ends -/
abbrev freshD : Wd → Nat → List PyData
  | .op _ _ _, k => [newD k]
  | _, _ => []
theorem run_behind {w : Wd} (h : w.Ok) {ds : List PyData} (hl : ds.length = 10) (s : Rs) (hs : s.ends = ds) : G_table_behind [.val (.list ds), .val (stepD w), .val (.tuple (freshD w s.ops.length))] = .ret (.own (.lst (w.go s).ends)) [] := by
  subst hs
  cases w with
  | cp m n =>
    have e1 := ix_nat (ds := s.ends) (i := m) (by rw [hl]; exact h.1)
    have e2 : L2.ixN s.ends.length ((n : Nat) : Int) = some n := ixN_go (by rw [hl]; exact h.2)
    show G_table_behind [.val (.list s.ends), .val (.tuple [.str "copy", .int (m : Int), .int (n : Int)]), .val (.tuple [])] = _
    refine run_go rfl (by dict_keeps) (by delta b_table_behind; within_ways) rfl
  | cl n =>
    have e2 : L2.ixN s.ends.length ((n : Nat) : Int) = some n := ixN_go (by rw [hl]; exact h)
    show G_table_behind [.val (.list s.ends), .val (.tuple [.str "close", .int (n : Int)]), .val (.tuple [])] = _
    refine run_go rfl (by dict_keeps) (by delta b_table_behind; within_ways) rfl
  | op n gt nm =>
    have e2 : L2.ixN s.ends.length ((n : Nat) : Int) = some n := ixN_go (by rw [hl]; exact h.1)
    show G_table_behind [.val (.list s.ends), .val (.tuple [.str "open", .int (n : Int), .str (sN nm)]), .val (.tuple [newD s.ops.length])] = _
    refine run_go rfl (by dict_keeps) (by delta b_table_behind; within_ways) rfl
end Lw

/-! Ru3.lean -/
set_option Elab.async false
set_option linter.all false
set_option maxRecDepth 100000
namespace Lw
open PySem L2 Mi
local macro_rules
  | `(tactic| grows_one) => `(tactic| first
    | with_reducible exact frz_v
    | with_reducible exact frz_o
    | (with_reducible apply frz_s); exact rfl; dict_keeps
    | (with_reducible apply frz_d); exact rfl
    | (with_reducible apply frz_b); exact rfl; dict_keeps
    | exact rfl)
local macro_rules
  | `(tactic| sizeOf_list_dec) => `(tactic| first
    | with_reducible exact ags_nil
    | (with_reducible apply ags_val); sizeOf_list_dec
    | (with_reducible apply ags_own); sizeOf_list_dec
    | (with_reducible apply ags_at); exact rfl; sizeOf_list_dec
    | (with_reducible apply ags_dead); exact rfl; sizeOf_list_dec)
local macro_rules
  | `(tactic| dict_keeps) => `(tactic| first | (simp only [Mi.put, entry, entVs, entOs, List.length_cons, List.length_nil, Nat.reduceAdd, Nat.reduceSub, List.replicate_succ, List.replicate_zero, List.cons_append, List.nil_append, List.set_cons_zero, List.set_cons_succ, setsV_nil, setsV_cons] <;> exact rfl) | exact rfl)
local macro_rules
  | `(tactic| left) => `(tactic| first
    | with_reducible assumption
    | with_reducible exact k_go
    | (with_reducible apply nm_val); exact rfl
    | (with_reducible apply nm_own); exact rfl
    | (with_reducible apply nm_bor); exact rfl
    | with_reducible exact nilL_go
    | with_reducible exact nilR_go
    | with_reducible exact yes_go
    | with_reducible exact dnew_go
    | (with_reducible apply bin_go'); left; left; exact rfl; exact rfl; right
    | (with_reducible apply un_go'); left; exact rfl; right
    | (with_reducible apply consL_go); left; grows_one; left
    | (with_reducible apply tup_go); left; exact sz_ok rfl
    | (with_reducible apply lst_go); left; exact sz_ok rfl
    | (with_reducible apply consR_go); left; left
    | (with_reducible apply call_go0); left; sizeOf_list_dec; right; exact rfl
    | (with_reducible apply call_go1); left; sizeOf_list_dec; right; dict_keeps
    | (with_reducible apply call_go2); left; sizeOf_list_dec; right; dict_keeps
    | (with_reducible apply call_go); left; sizeOf_list_dec; exact rfl; right; exact rfl
    | (with_reducible apply fz_go); left; grows_one
    | (with_reducible apply mut_go'); exact rfl; left; exact rfl; exact ⟨_, rfl⟩; right; dict_keeps
    | (with_reducible apply mut_goB); exact rfl; exact rfl; left; exact rfl; right; dict_keeps
    | (with_reducible apply met_go); left; exact rfl; left; exact rfl; right
    | (with_reducible apply sl0_go); left; exact rfl; right
    | (with_reducible apply slL_go); left; left; exact rfl; exact rfl; right
    | (with_reducible apply slH_go); left; left; exact rfl; exact rfl; right
    | (with_reducible apply slLH_go); left; left; exact rfl; left; exact rfl; exact rfl; right
    | (with_reducible apply rep_go); left; left; exact rfl; exact ⟨by decide, sz_ok rfl⟩
    | (with_reducible apply lrg_go); left; exact rfl; decide
    | (with_reducible apply tB_go); left; exact rfl
    | (with_reducible apply tT_go); left; exact rfl; right
    | (with_reducible apply and_go); left; intro _; left
    | (with_reducible apply or_go); left; intro _; left
    | (with_reducible apply not_go); left
    | (with_reducible apply andE_go); left; exact rfl; intro _; left
    | (with_reducible apply orE_go); left; exact rfl; intro _; left
    | (with_reducible apply notE_go); left; exact rfl
    | (with_reducible apply ch_go); left; left; exact rfl; exact rfl; right; left; exact rfl; right)
local macro_rules
  | `(tactic| within_ways) => `(tactic| first
    | with_reducible assumption
    | with_reducible exact nx_go
    | (with_reducible apply seq_any); within_ways; (first | with_reducible exact seqO_rt | ((with_reducible apply seqO_nx); within_ways))
    | (with_reducible apply set_any); left; (first | with_reducible exact slotR_val | with_reducible exact slotR_own); dict_keeps
    | (with_reducible apply ret_go); left
    | (with_reducible apply drop_go); left
    | (with_reducible apply if_st); left; (first | (refine Or.inl ⟨?_, ?_⟩; infer_instance; within_ways) | (refine Or.inr ⟨?_, ?_⟩; infer_instance; within_ways))
    | (with_reducible apply unp_go'); left; exact rfl; exact rfl; dict_keeps
    | (with_reducible apply unl_go'); left; exact rfl; grows_one; exact rfl; dict_keeps
    | (with_reducible apply sto_go'); left; grows_one; exact ⟨_, rfl⟩; left; exact rfl; exact rfl; right; dict_keeps; dict_keeps
    | (with_reducible apply sto_goB); left; grows_one; exact rfl; left; exact rfl; exact rfl; right; dict_keeps; dict_keeps
    | (with_reducible apply par_go'); left; exact rfl; exact rfl; exact rfl; exact rfl; dict_keeps
    | (with_reducible apply aug_go'); exact rfl; left; exact rfl; dict_keeps
    | (with_reducible apply set_go); left; exact rfl)
local macro_rules
  | `(tactic| infer_instance) => `(tactic| first
    | with_reducible exact rfl
    | with_reducible assumption
    | (first
      | decide +kernel
      | (simp only [decide_eq_true_eq, decide_eq_false_iff_not, Bool.and_eq_true, Bool.or_eq_true, Bool.or_eq_false_iff, Bool.and_eq_false_iff, Bool.not_eq_true', Bool.not_eq_false', Bool.not_true, Bool.not_false, Bool.or_true, Bool.true_or, Bool.and_false, Bool.false_and, Bool.or_false, Bool.false_or, Bool.and_true, Bool.true_and, and_true, true_and]; first | done | assumption | omega)))
local macro_rules
  | `(tactic| right) => `(tactic| first
    | with_reducible assumption
    | with_reducible exact eq_sS _ _
    | with_reducible exact ne_sS _ _
    | with_reducible exact ix_t0
    | with_reducible exact ix_t1
    | with_reducible exact ix_t2
    | with_reducible exact ix_l0
    | with_reducible exact ix_l1
    | with_reducible exact ix_l2
    | with_reducible exact add_ii
    | with_reducible exact sub_ii
    | with_reducible exact appL_go rfl
    | with_reducible exact add_sN' rfl
    | with_reducible exact isn_n
    | with_reducible exact isn_i
    | with_reducible exact isn_s
    | with_reducible exact isn_l
    | with_reducible exact isn_t
    | with_reducible exact isnt_n
    | with_reducible exact isnt_i
    | with_reducible exact isnt_s
    | with_reducible exact isnt_l
    | with_reducible exact isnt_t
    | with_reducible exact truth_b
    | with_reducible exact list_go
    | with_reducible exact tuple_go
    | with_reducible exact tuplet_go
    | exact rfl)
theorem run_check_words {ws : List Wd} (h : ∀ w ∈ ws, w.Ok) (hl : ws.length ≤ 40) : G_check_words [.val (.list (ws.map wD))] = .ret (.val .none) [] := by
  have q1 := run_is_list (ws.map wD)
  have q2 : gGt (.int (((ws.map wD).length : Nat) : Int)) (.int 40) = some (.val (.bool false)) := by
    show some (Rv.val (PyData.bool (decide _))) = _
    rw [decide_eq_false (by rw [List.length_map]; omega)]
  have q3 : gLen (.list (ws.map wD)) = some (.val (.int (((ws.map wD).length : Nat) : Int))) := rfl
  have lp := forS_enu (ρ := Unit) (e := nmE 0) (tg := tgTup [1, 2]) (bd := ifS (tstB (binE gIsN (callE G_redirection_step (consR (nmE 2) (nilR))) (kE .none))) ((fun _ => .no)) (nxS)) (r := ⟨[some (.val (.list (ws.map wD))), none, none], []⟩) ws wD (s0 := ())
    (fun _ _ r => ∃ a b, r = ⟨[some (.val (.list (ws.map wD))), a, b], []⟩) (fun _ _ _ => False) (fun _ _ => .ok ()) (nm_val rfl) rfl rfl ⟨_, _, rfl⟩ (fun _ _ r ⟨a, b, e⟩ => by rw [e]; rfl)
    (fun _ r i w ⟨a, b, e⟩ hw => by
      subst e
      refine ⟨⟨[some (.val (.list (ws.map wD))), some (.val (.int (i : Int))), some (.val (wD w))], []⟩, rfl, ?_⟩
      have q := run_step (h w (List.mem_of_getElem? hw))
      have q4 : gIsN (stepD w) .none = some (.val (.bool false)) := by cases w <;> rfl
      apply EndX.nx
      within_ways
      exact ⟨_, _, rfl⟩)
  rw [foldX_ok] at lp
  obtain ⟨r', e1, a, b, e2⟩ := lp
  subst e2
  refine run_go rfl (by dict_keeps) (by delta b_check_words; within_ways) rfl
theorem run_run_words {ws : List Wd} (h : ∀ w ∈ ws, w.Ok) (hl : ws.length ≤ 1000) {t : List PyData} (ht : t.length = 10) :
    G_run_words [.val (.list (ws.map wD)), .val (.list t)] = .ret (.val (.tuple [.list (runW ws ⟨t, [], []⟩).ends, .list ((runW ws ⟨t, [], []⟩).ops.map opD), .list ((runW ws ⟨t, [], []⟩).cps.map cpD)])) [] := by
  have lp := forS_seq (ρ := Unit) (e := nmE 0) (tg := fun d r => some (put r 5 (.val d))) (r := ⟨[some (.val (.list (ws.map wD))), some (.val (.list t)), some (.own (.lst t)), some (.own (.lst [])), some (.own (.lst [])), none, none, none], []⟩) ws wD (s0 := (⟨t, [], []⟩ : Rs))
    (fun i s r => s.ends.length = 10 ∧ s.ops.length ≤ i ∧ s.cps.length ≤ i ∧ ∃ a b c, r = ⟨[some (.val (.list (ws.map wD))), some (.val (.list t)), some (.own (.lst s.ends)), some (.own (.lst (s.ops.map opD))), some (.own (.lst (s.cps.map cpD))), a, b, c], []⟩) (fun _ _ _ => False) (fun s w => .ok (w.go s)) (nm_val rfl) rfl rfl
    ⟨ht, by simp, by simp, _, _, _, rfl⟩ (fun _ s r ⟨_, _, _, a, b, c, e⟩ => by rw [e]; rfl)
    (bd := (seqS (setS 6 (callE G_redirection_step (consR (nmE 5) (nilR)))) <| seqS (setS 7 (tupE (nilL))) <| seqS (ifS (tstB (binE gEq (binE gIx (nmE 6) (kE (.int 0))) (kE (.str "open")))) (seqS (setS 7 (tupE (consL (tupE (consL (kE (.str "new")) (consL (unE gLen (nmE 3)) (nilL)))) (nilL)))) <| dropS (mutE 3 uApp (consL (tupE (consL (binE gIx (nmE 5) (kE (.int 1))) (consL (binE gIx (nmE 6) (kE (.int 2))) (nilL)))) (nilL)))) (nxS)) <| seqS (ifS (tstB (binE gEq (binE gIx (nmE 6) (kE (.int 0))) (kE (.str "copy")))) (dropS (mutE 4 uApp (consL (tupE (consL (binE gIx (nmE 6) (kE (.int 1))) (consL (binE gIx (nmE 2) (binE gIx (nmE 6) (kE (.int 1)))) (nilL)))) (nilL)))) (nxS)) <| setS 2 (callE G_table_behind (consR (fzE (nmE 2)) (consR (nmE 6) (consR (nmE 7) (nilR)))))))
    (fun s r i w ⟨h1, h2, h3, a, b, c, e⟩ hi => by
      subst e
      refine ⟨⟨[some (.val (.list (ws.map wD))), some (.val (.list t)), some (.own (.lst s.ends)), some (.own (.lst (s.ops.map opD))), some (.own (.lst (s.cps.map cpD))), some (.val (wD w)), b, c], []⟩, rfl, ?_⟩
      have hw := h w (List.mem_of_getElem? hi)
      have hlt := (List.getElem?_eq_some_iff.mp hi).1
      have k1 := go_len w s
      have k2 := go_ops w s
      have k3 := go_cps w s
      have z : (16777216 : Nat) = sizeLine := by decide
      have q := run_step hw
      have q2 := run_behind hw h1 s rfl
      have q3 : gLen (.list (s.ops.map opD)) = some (.val (.int ((s.ops.length : Nat) : Int))) := by
        show some (vI (((s.ops.map opD).length : Nat) : Int)) = _
        rw [List.length_map]
      cases w with
      | cp m n =>
        have e1 := ix_nat (ds := s.ends) (i := m) (by rw [h1]; exact hw.1)
        have e3 : uApp (s.cps.map cpD) [.tuple [.int ((m : Nat) : Int), s.ends.getD m .none]] = some (s.cps.map cpD ++ [.tuple [.int ((m : Nat) : Int), s.ends.getD m .none]], .none) := app_go (by rw [List.length_map]; omega)
        apply EndX.nx
        within_ways
        exact ⟨by omega, by omega, by omega, _, _, _, by simp only [Wd.go, List.map_append, List.map_cons, List.map_nil]; rfl⟩
      | cl n =>
        apply EndX.nx
        within_ways
        exact ⟨by omega, by omega, by omega, _, _, _, by simp only [Wd.go, List.map_append, List.map_cons, List.map_nil]; rfl⟩
      | op n gt nm =>
        have hz : ((48 + n) :: (if gt = true then 62 else 60) :: nm).length ≤ sizeLine := Nat.le_trans (show nm.length + 1 + 1 ≤ 10 by have := hw.2.2.1; omega) (by decide)
        have e4 : gIx (wD (.op n gt nm)) (.int 1) = some (.val (.str (sN [if gt = true then 62 else 60]))) := ix_sN (i := 1) hz rfl
        have e3 : uApp (s.ops.map opD) [opD (gt, nm)] = some (s.ops.map opD ++ [opD (gt, nm)], .none) := app_go (by rw [List.length_map]; omega)
        apply EndX.nx
        within_ways
        exact ⟨by omega, by omega, by omega, _, _, _, by simp only [Wd.go, List.map_append, List.map_cons, List.map_nil]; rfl⟩)
  rw [foldX_ok] at lp
  obtain ⟨r', e1, _, _, _, a, b, c, e2⟩ := lp
  subst e2
  refine run_go rfl (by dict_keeps) (by delta b_run_words; within_ways) rfl
end Lw

/-! Ru4.lean -/
set_option Elab.async false
set_option linter.all false
set_option maxRecDepth 100000
namespace Lw
open PySem L2 Mi
local macro_rules
  | `(tactic| grows_one) => `(tactic| first
    | with_reducible exact frz_v
    | with_reducible exact frz_o
    | (with_reducible apply frz_s); exact rfl; dict_keeps
    | (with_reducible apply frz_d); exact rfl
    | (with_reducible apply frz_b); exact rfl; dict_keeps
    | exact rfl)
local macro_rules
  | `(tactic| sizeOf_list_dec) => `(tactic| first
    | with_reducible exact ags_nil
    | (with_reducible apply ags_val); sizeOf_list_dec
    | (with_reducible apply ags_own); sizeOf_list_dec
    | (with_reducible apply ags_at); exact rfl; sizeOf_list_dec
    | (with_reducible apply ags_dead); exact rfl; sizeOf_list_dec)
local macro_rules
  | `(tactic| dict_keeps) => `(tactic| first | (simp only [Mi.put, entry, entVs, entOs, List.length_cons, List.length_nil, Nat.reduceAdd, Nat.reduceSub, List.replicate_succ, List.replicate_zero, List.cons_append, List.nil_append, List.set_cons_zero, List.set_cons_succ, setsV_nil, setsV_cons] <;> exact rfl) | exact rfl)
local macro_rules
  | `(tactic| left) => `(tactic| first
    | with_reducible assumption
    | with_reducible exact k_go
    | (with_reducible apply nm_val); exact rfl
    | (with_reducible apply nm_own); exact rfl
    | (with_reducible apply nm_bor); exact rfl
    | with_reducible exact nilL_go
    | with_reducible exact nilR_go
    | with_reducible exact yes_go
    | with_reducible exact dnew_go
    | (with_reducible apply bin_go'); left; left; exact rfl; exact rfl; right
    | (with_reducible apply un_go'); left; exact rfl; right
    | (with_reducible apply consL_go); left; grows_one; left
    | (with_reducible apply tup_go); left; exact sz_ok rfl
    | (with_reducible apply lst_go); left; exact sz_ok rfl
    | (with_reducible apply consR_go); left; left
    | (with_reducible apply call_go0); left; sizeOf_list_dec; right; exact rfl
    | (with_reducible apply call_go1); left; sizeOf_list_dec; right; dict_keeps
    | (with_reducible apply call_go2); left; sizeOf_list_dec; right; dict_keeps
    | (with_reducible apply call_go); left; sizeOf_list_dec; exact rfl; right; exact rfl
    | (with_reducible apply fz_go); left; grows_one
    | (with_reducible apply mut_go'); exact rfl; left; exact rfl; exact ⟨_, rfl⟩; right; dict_keeps
    | (with_reducible apply mut_goB); exact rfl; exact rfl; left; exact rfl; right; dict_keeps
    | (with_reducible apply met_go); left; exact rfl; left; exact rfl; right
    | (with_reducible apply sl0_go); left; exact rfl; right
    | (with_reducible apply slL_go); left; left; exact rfl; exact rfl; right
    | (with_reducible apply slH_go); left; left; exact rfl; exact rfl; right
    | (with_reducible apply slLH_go); left; left; exact rfl; left; exact rfl; exact rfl; right
    | (with_reducible apply rep_go); left; left; exact rfl; exact ⟨by decide, sz_ok rfl⟩
    | (with_reducible apply lrg_go); left; exact rfl; decide
    | (with_reducible apply tB_go); left; exact rfl
    | (with_reducible apply tT_go); left; exact rfl; right
    | (with_reducible apply and_go); left; intro _; left
    | (with_reducible apply or_go); left; intro _; left
    | (with_reducible apply not_go); left
    | (with_reducible apply andE_go); left; exact rfl; intro _; left
    | (with_reducible apply orE_go); left; exact rfl; intro _; left
    | (with_reducible apply notE_go); left; exact rfl
    | (with_reducible apply ch_go); left; left; exact rfl; exact rfl; right; left; exact rfl; right)
local macro_rules
  | `(tactic| within_ways) => `(tactic| first
    | with_reducible assumption
    | with_reducible exact nx_go
    | (with_reducible apply seq_any); within_ways; (first | with_reducible exact seqO_rt | ((with_reducible apply seqO_nx); within_ways))
    | (with_reducible apply set_any); left; (first | with_reducible exact slotR_val | with_reducible exact slotR_own); dict_keeps
    | (with_reducible apply ret_go); left
    | (with_reducible apply drop_go); left
    | (with_reducible apply if_st); left; (first | (refine Or.inl ⟨?_, ?_⟩; infer_instance; within_ways) | (refine Or.inr ⟨?_, ?_⟩; infer_instance; within_ways))
    | (with_reducible apply unp_go'); left; exact rfl; exact rfl; dict_keeps
    | (with_reducible apply unl_go'); left; exact rfl; grows_one; exact rfl; dict_keeps
    | (with_reducible apply sto_go'); left; grows_one; exact ⟨_, rfl⟩; left; exact rfl; exact rfl; right; dict_keeps; dict_keeps
    | (with_reducible apply sto_goB); left; grows_one; exact rfl; left; exact rfl; exact rfl; right; dict_keeps; dict_keeps
    | (with_reducible apply par_go'); left; exact rfl; exact rfl; exact rfl; exact rfl; dict_keeps
    | (with_reducible apply aug_go'); exact rfl; left; exact rfl; dict_keeps
    | (with_reducible apply set_go); left; exact rfl)
local macro_rules
  | `(tactic| infer_instance) => `(tactic| first
    | with_reducible exact rfl
    | with_reducible assumption
    | (first
      | decide +kernel
      | (simp only [decide_eq_true_eq, decide_eq_false_iff_not, Bool.and_eq_true, Bool.or_eq_true, Bool.or_eq_false_iff, Bool.and_eq_false_iff, Bool.not_eq_true', Bool.not_eq_false', Bool.not_true, Bool.not_false, Bool.or_true, Bool.true_or, Bool.and_false, Bool.false_and, Bool.or_false, Bool.false_or, Bool.and_true, Bool.true_and, and_true, true_and]; first | done | assumption | omega)))
local macro_rules
  | `(tactic| right) => `(tactic| first
    | with_reducible assumption
    | with_reducible exact eq_sS _ _
    | with_reducible exact ne_sS _ _
    | with_reducible exact ix_t0
    | with_reducible exact ix_t1
    | with_reducible exact ix_t2
    | with_reducible exact ix_l0
    | with_reducible exact ix_l1
    | with_reducible exact ix_l2
    | with_reducible exact add_ii
    | with_reducible exact sub_ii
    | with_reducible exact appL_go rfl
    | with_reducible exact add_sN' rfl
    | with_reducible exact isn_n
    | with_reducible exact isn_i
    | with_reducible exact isn_s
    | with_reducible exact isn_l
    | with_reducible exact isn_t
    | with_reducible exact isnt_n
    | with_reducible exact isnt_i
    | with_reducible exact isnt_s
    | with_reducible exact isnt_l
    | with_reducible exact isnt_t
    | with_reducible exact truth_b
    | with_reducible exact list_go
    | with_reducible exact tuple_go
    | with_reducible exact tuplet_go
    | exact rfl)
theorem run_form_of {ws : List Wd} (h : ∀ w ∈ ws, w.Ok) (hl : ws.length ≤ 1000) : G_form_of [.val (.list (ws.map wD))] = .ret (.val (formP ws)) [] := by
  have ok := s0_ok.run h
  have hq := run_run_words h hl (t := olds) (by simp [olds])
  have hc := runW_cps ws s0
  have ho := runW_ops ws s0
  generalize hs : runW ws s0 = s at ok hq hc ho
  simp only [List.length_nil, Nat.zero_add] at hc ho
  have l1 : lcE (rng1 (kE (.int 10))) (fun d r => some (put r 8 (.val d))) [8] (yesB) (tupE (consL (kE (.str "old")) (consL (nmE 8) (nilL)))) ⟨[some (.val (.list (ws.map wD))), none, none, none, none, none, none, none, none], []⟩ = .ok (.own (.lst olds)) ⟨[some (.val (.list (ws.map wD))), none, none, none, none, none, none, none, none], []⟩ :=
    lcE_rngY (n := 10) rfl (by decide) rfl rfl rfl rfl oldD fun i hi => ⟨_, rfl, rfl, by apply fzv_ok; left; rfl⟩
  have nn : ∀ d ∈ s.cps.map (·.2), EndOk d := fun d hd => by
    obtain ⟨c, hc, rfl⟩ := List.mem_map.mp hd
    exact ok.cps c hc
  have q0 := none_in nn
  have hf : formP ws = if failsW s = true then .none else formD s := by
    unfold formP formO
    rw [hs]
    split <;> (split <;> simp_all)
  have l2 : ∀ e1 : En, e1 = ⟨[some (.val (.list (ws.map wD))), some (.val (.list s.ends)), some (.val (.list (s.ops.map opD))), some (.val (.list (s.cps.map cpD))), none, none, none, none, none], []⟩ → lcE (seqI (nmE 3)) (tgTup [6, 7]) [6, 7] (yesB) (nmE 7) e1 = .ok (.own (.lst (s.cps.map (·.2)))) e1 := by
    rintro _ rfl
    apply lcE_seqY (q := fun c => c.2) s.cps cpD
    exact rfl; exact rfl; exact rfl; exact rfl; exact Nat.le_trans (Nat.le_trans hc hl) (by decide); exact rfl; exact rfl; exact rfl; exact rfl
    intro c hc
    refine ⟨_, rfl, rfl, ?_⟩
    apply fzv_ok
    left
    rfl
  have l2 := l2 _ rfl
  cases hb : failsW s with
  | true =>
    rw [hb] at hf
    rw [hf]
    unfold failsW at hb
    rw [hb] at q0
    refine run_go rfl (by dict_keeps) (by delta b_form_of; within_ways) rfl
  | false =>
    rw [hb] at hf
    rw [hf]
    have hb' := hb
    unfold failsW at hb'
    rw [hb'] at q0
    have l3 : ∀ e1 e2 : En, e1 = ⟨[some (.val (.list (ws.map wD))), some (.val (.list s.ends)), some (.val (.list (s.ops.map opD))), some (.val (.list (s.cps.map cpD))), some (.own (.lst (s.cps.map (·.2)))), none, none, none, none], []⟩ → e2 = ⟨[some (.val (.list (ws.map wD))), some (.val (.list s.ends)), some (.val (.list (s.ops.map opD))), some (.val (.list (s.cps.map cpD))), some (.val (.list (s.cps.map (·.2)))), none, none, none, none], []⟩ →
        lcE (seqI (nmE 4)) (fun d r => some (put r 7 (.val d))) [7] (tstB (binE gEq (binE gIx (nmE 7) (kE (.int 0))) (kE (.str "old")))) (intE (binE gIx (nmE 7) (kE (.int 1)))) e1 = .ok (.own (.lst ((s.cps.filter fun c => isOld c.2).map fun c => .int (oldIx c.2)))) e2 := by
      rintro _ _ rfl rfl
      apply lcE_seq (c := fun c => isOld c.2) (q := fun c => .int (oldIx c.2)) s.cps (fun c => c.2)
      left; exact rfl; exact rfl; exact rfl; exact Nat.le_trans (Nat.le_trans hc hl) (by decide); exact rfl; exact rfl; exact rfl; exact rfl
      intro c hcm
      have hd := ok.cps c hcm
      have hn : isN' c.2 = false := by
        have := List.any_eq_false.mp hb' c.2 (List.mem_map.mpr ⟨c, hcm, rfl⟩)
        simpa using this
      obtain ⟨c1, c2⟩ := c
      dsimp only at hd hn ⊢
      rcases hd with e | ⟨m, hm, e⟩ | ⟨m, e⟩
      · rw [e] at hn; cases hn
      · subst e
        refine ⟨_, rfl, ?_⟩
        apply lc_step
        left
        · simp
        · exact rfl
        intro _
        apply int_ok
        left
        exact rfl
        exact rfl
      · subst e
        refine ⟨_, rfl, ?_⟩
        apply lc_step
        left
        · rw [isOld_new]; exact decide_eq_false new_ne_old
        · exact rfl
        intro q
        rw [isOld_new] at q
        cases q
    have hn2 : (s.cps.filter fun c => isOld c.2).map (fun c => PyData.int (oldIx c.2)) = (((s.cps.map (·.2)).filter isOld).map oldIx).map PyData.int := by
      rw [List.filter_map, List.map_map, List.map_map]; rfl
    have l3 := l3 _ _ rfl rfl
    rw [hn2] at l3
    have hlen : (((s.cps.map (·.2)).filter isOld).map oldIx).length ≤ ws.length := by
      rw [List.length_map]
      exact Nat.le_trans (List.length_filter_le _ _) (by rw [List.length_map]; exact hc)
    have hlen2 : (needsW s).length ≤ 10 := needs_len ok
    have l4 := ssE_of l3 (by omega) (by unfold needsW at hlen2; omega)
    refine run_go rfl (by dict_keeps) (by delta b_form_of; within_ways) rfl
end Lw

/-! Ru6.lean -/
set_option Elab.async false
set_option linter.all false
set_option maxRecDepth 100000
namespace Lw
open PySem L2 Mi
local macro_rules
  | `(tactic| grows_one) => `(tactic| first
    | with_reducible exact frz_v
    | with_reducible exact frz_o
    | (with_reducible apply frz_s); exact rfl; dict_keeps
    | (with_reducible apply frz_d); exact rfl
    | (with_reducible apply frz_b); exact rfl; dict_keeps
    | exact rfl)
local macro_rules
  | `(tactic| sizeOf_list_dec) => `(tactic| first
    | with_reducible exact ags_nil
    | (with_reducible apply ags_val); sizeOf_list_dec
    | (with_reducible apply ags_own); sizeOf_list_dec
    | (with_reducible apply ags_at); exact rfl; sizeOf_list_dec
    | (with_reducible apply ags_dead); exact rfl; sizeOf_list_dec)
local macro_rules
  | `(tactic| dict_keeps) => `(tactic| first | (simp only [Mi.put, entry, entVs, entOs, List.length_cons, List.length_nil, Nat.reduceAdd, Nat.reduceSub, List.replicate_succ, List.replicate_zero, List.cons_append, List.nil_append, List.set_cons_zero, List.set_cons_succ, setsV_nil, setsV_cons] <;> exact rfl) | exact rfl)
local macro_rules
  | `(tactic| left) => `(tactic| first
    | with_reducible assumption
    | with_reducible exact k_go
    | (with_reducible apply nm_val); exact rfl
    | (with_reducible apply nm_own); exact rfl
    | (with_reducible apply nm_bor); exact rfl
    | with_reducible exact nilL_go
    | with_reducible exact nilR_go
    | with_reducible exact yes_go
    | with_reducible exact dnew_go
    | (with_reducible apply bin_go'); left; left; exact rfl; exact rfl; right
    | (with_reducible apply un_go'); left; exact rfl; right
    | (with_reducible apply consL_go); left; grows_one; left
    | (with_reducible apply tup_go); left; exact sz_ok rfl
    | (with_reducible apply lst_go); left; exact sz_ok rfl
    | (with_reducible apply consR_go); left; left
    | (with_reducible apply call_go0); left; sizeOf_list_dec; right; exact rfl
    | (with_reducible apply call_go1); left; sizeOf_list_dec; right; dict_keeps
    | (with_reducible apply call_go2); left; sizeOf_list_dec; right; dict_keeps
    | (with_reducible apply call_go); left; sizeOf_list_dec; exact rfl; right; exact rfl
    | (with_reducible apply fz_go); left; grows_one
    | (with_reducible apply mut_go'); exact rfl; left; exact rfl; exact ⟨_, rfl⟩; right; dict_keeps
    | (with_reducible apply mut_goB); exact rfl; exact rfl; left; exact rfl; right; dict_keeps
    | (with_reducible apply met_go); left; exact rfl; left; exact rfl; right
    | (with_reducible apply sl0_go); left; exact rfl; right
    | (with_reducible apply slL_go); left; left; exact rfl; exact rfl; right
    | (with_reducible apply slH_go); left; left; exact rfl; exact rfl; right
    | (with_reducible apply slLH_go); left; left; exact rfl; left; exact rfl; exact rfl; right
    | (with_reducible apply rep_go); left; left; exact rfl; exact ⟨by decide, sz_ok rfl⟩
    | (with_reducible apply lrg_go); left; exact rfl; decide
    | (with_reducible apply tB_go); left; exact rfl
    | (with_reducible apply tT_go); left; exact rfl; right
    | (with_reducible apply and_go); left; intro _; left
    | (with_reducible apply or_go); left; intro _; left
    | (with_reducible apply not_go); left
    | (with_reducible apply andE_go); left; exact rfl; intro _; left
    | (with_reducible apply orE_go); left; exact rfl; intro _; left
    | (with_reducible apply notE_go); left; exact rfl
    | (with_reducible apply ch_go); left; left; exact rfl; exact rfl; right; left; exact rfl; right)
local macro_rules
  | `(tactic| within_ways) => `(tactic| first
    | with_reducible assumption
    | with_reducible exact nx_go
    | (with_reducible apply seq_any); within_ways; (first | with_reducible exact seqO_rt | ((with_reducible apply seqO_nx); within_ways))
    | (with_reducible apply set_any); left; (first | with_reducible exact slotR_val | with_reducible exact slotR_own); dict_keeps
    | (with_reducible apply ret_go); left
    | (with_reducible apply drop_go); left
    | (with_reducible apply if_st); left; (first | (refine Or.inl ⟨?_, ?_⟩; infer_instance; within_ways) | (refine Or.inr ⟨?_, ?_⟩; infer_instance; within_ways))
    | (with_reducible apply unp_go'); left; exact rfl; exact rfl; dict_keeps
    | (with_reducible apply unl_go'); left; exact rfl; grows_one; exact rfl; dict_keeps
    | (with_reducible apply sto_go'); left; grows_one; exact ⟨_, rfl⟩; left; exact rfl; exact rfl; right; dict_keeps; dict_keeps
    | (with_reducible apply sto_goB); left; grows_one; exact rfl; left; exact rfl; exact rfl; right; dict_keeps; dict_keeps
    | (with_reducible apply par_go'); left; exact rfl; exact rfl; exact rfl; exact rfl; dict_keeps
    | (with_reducible apply aug_go'); exact rfl; left; exact rfl; dict_keeps
    | (with_reducible apply set_go); left; exact rfl)
local macro_rules
  | `(tactic| infer_instance) => `(tactic| first
    | with_reducible exact rfl
    | with_reducible assumption
    | (first
      | decide +kernel
      | (simp only [decide_eq_true_eq, decide_eq_false_iff_not, Bool.and_eq_true, Bool.or_eq_true, Bool.or_eq_false_iff, Bool.and_eq_false_iff, Bool.not_eq_true', Bool.not_eq_false', Bool.not_true, Bool.not_false, Bool.or_true, Bool.true_or, Bool.and_false, Bool.false_and, Bool.or_false, Bool.false_or, Bool.and_true, Bool.true_and, and_true, true_and]; first | done | assumption | omega)))
local macro_rules
  | `(tactic| right) => `(tactic| first
    | with_reducible assumption
    | with_reducible exact eq_sS _ _
    | with_reducible exact ne_sS _ _
    | with_reducible exact ix_t0
    | with_reducible exact ix_t1
    | with_reducible exact ix_t2
    | with_reducible exact ix_l0
    | with_reducible exact ix_l1
    | with_reducible exact ix_l2
    | with_reducible exact add_ii
    | with_reducible exact sub_ii
    | with_reducible exact appL_go rfl
    | with_reducible exact add_sN' rfl
    | with_reducible exact isn_n
    | with_reducible exact isn_i
    | with_reducible exact isn_s
    | with_reducible exact isn_l
    | with_reducible exact isn_t
    | with_reducible exact isnt_n
    | with_reducible exact isnt_i
    | with_reducible exact isnt_s
    | with_reducible exact isnt_l
    | with_reducible exact isnt_t
    | with_reducible exact truth_b
    | with_reducible exact list_go
    | with_reducible exact tuple_go
    | with_reducible exact tuplet_go
    | exact rfl)
theorem run_draw {n L : Nat} {s : Sc} (h : s.Ok (n + 1)) (h0 : 0 < L) (h1 : L ≤ 1000) :
    ∃ v s', v < L ∧ s'.Ok n ∧ G__law_draw [.ref (.lst (scD s)), .val (.int (L : Int))] = .ret (.val (.int ((v : Nat) : Int))) [.live (.lst (scD s'))] := by
  obtain ⟨d, m, c⟩ := s
  obtain ⟨hm, hc⟩ := h
  dsimp only at hm hc
  have hL : L < 2 ^ 10 := by omega
  have q1 := g_gt0R (d := d)
  by_cases hd : 0 < d
  · have q2 := g_modR (i := d) h0
    have q3 := g_divR (i := d) h0 hL (by decide) (by decide)
    rw [decide_eq_true hd] at q1
    refine ⟨d % L, ⟨d / L, m, c⟩, Nat.mod_lt _ h0, ⟨hm, by show c + n ≤ _; omega⟩, ?_⟩
    refine run_go rfl (by dict_keeps) (by delta b__law_draw; within_ways) rfl
  · rw [decide_eq_false hd] at q1
    have c1 : c + 1 ≤ 2 ^ 20 := by omega
    have c2 : c + 1 < 2 ^ 21 := Nat.lt_of_le_of_lt c1 (by decide)
    have a0 : gAdd (.int (c : Int)) (.int 1) = some (.val (.int ((c + 1 : Nat) : Int))) := add_natR c 1
    have m1 : 950993 * (c + 1) ≤ 950993 * 2 ^ 20 := Nat.mul_le_mul_left _ c1
    have m2 : 107 * (c + 1) ≤ 107 * 2 ^ 20 := Nat.mul_le_mul_left _ c1
    have a1 : gMul (.int 950993) (.int ((c + 1 : Nat) : Int)) = some (.val (.int ((950993 * (c + 1) : Nat) : Int))) := g_mulR (i := 950993) (a := 20) (by decide) c2 (by decide) (by decide) (by decide)
    have a2 : gMul (.int 107) (.int ((c + 1 : Nat) : Int)) = some (.val (.int ((107 * (c + 1) : Nat) : Int))) := g_mulR (i := 107) (a := 20) (by decide) c2 (by decide) (by decide) (by decide)
    have a3 : gAdd (.int (m : Int)) (.int ((950993 * (c + 1) : Nat) : Int)) = some (.val (.int ((m + 950993 * (c + 1) : Nat) : Int))) := add_natR _ _
    have b3 : m + 950993 * (c + 1) < 2 ^ 211 := by
      have h3 : (2 : Nat) ^ 210 + 950993 * 2 ^ 20 < 2 ^ 211 := by decide
      exact Nat.lt_trans (Nat.add_lt_add_of_lt_of_le hm m1) h3
    generalize hx : m + 950993 * (c + 1) = X at a3 b3
    have a4 := g_cubeR b3 (by decide) (by decide)
    have p1 : gPow (.int 10) (.int 38) = some (.val (.int ((10 ^ 38 : Nat) : Int))) := pow10R 38 rfl
    have p2 : gPow (.int 10) (.int 37) = some (.val (.int ((10 ^ 37 : Nat) : Int))) := pow10R 37 rfl
    have p3 : gAdd (.int ((10 ^ 38 : Nat) : Int)) (.int 133) = some (.val (.int ((10 ^ 38 + 133 : Nat) : Int))) := add_natR (10 ^ 38) 133
    have p4 : gAdd (.int ((10 ^ 37 : Nat) : Int)) (.int 43) = some (.val (.int ((10 ^ 37 + 43 : Nat) : Int))) := add_natR (10 ^ 37) 43
    have a5 := g_modR (i := X ^ 3) (j := 10 ^ 38 + 133) (by decide)
    have b5 : X ^ 3 % (10 ^ 38 + 133) < 10 ^ 38 + 133 := Nat.mod_lt _ (by decide)
    generalize hy : X ^ 3 % (10 ^ 38 + 133) = Y at a5 b5
    have a6 : gAdd (.int (Y : Int)) (.int ((107 * (c + 1) : Nat) : Int)) = some (.val (.int ((Y + 107 * (c + 1) : Nat) : Int))) := add_natR _ _
    have b6 : Y + 107 * (c + 1) < 2 ^ 211 := by
      have h3 : (10 : Nat) ^ 38 + 133 + 107 * 2 ^ 20 < 2 ^ 211 := by decide
      exact Nat.lt_trans (Nat.add_lt_add_of_lt_of_le b5 m2) h3
    generalize hz : Y + 107 * (c + 1) = Z at a6 b6
    have a7 := g_cubeR b6 (by decide) (by decide)
    have a8 := g_modR (i := Z ^ 3) (j := 10 ^ 37 + 43) (by decide)
    generalize hw : Z ^ 3 % (10 ^ 37 + 43) = Q at a8
    have a9 : gDiv (.int (Q : Int)) (.int 65699) = some (.val (.int ((Q / 65699 : Nat) : Int))) := g_divR (i := Q) (j := 65699) (a := 20) (by decide) (by decide) (by decide) (by decide)
    have a10 := g_modR (i := Q / 65699) h0
    refine ⟨Q / 65699 % L, ⟨d, m, c + 1⟩, Nat.mod_lt _ h0, ⟨hm, by show c + 1 + n ≤ _; omega⟩, ?_⟩
    refine run_go rfl (by dict_keeps) (by delta b__law_draw; within_ways) rfl
end Lw

/-! Ru7.lean -/
set_option Elab.async false
set_option linter.all false
set_option maxRecDepth 100000
namespace Lw
open PySem L2 Mi
local macro_rules
  | `(tactic| grows_one) => `(tactic| first
    | with_reducible exact frz_v
    | with_reducible exact frz_o
    | (with_reducible apply frz_s); exact rfl; dict_keeps
    | (with_reducible apply frz_d); exact rfl
    | (with_reducible apply frz_b); exact rfl; dict_keeps
    | exact rfl)
local macro_rules
  | `(tactic| sizeOf_list_dec) => `(tactic| first
    | with_reducible exact ags_nil
    | (with_reducible apply ags_val); sizeOf_list_dec
    | (with_reducible apply ags_own); sizeOf_list_dec
    | (with_reducible apply ags_at); exact rfl; sizeOf_list_dec
    | (with_reducible apply ags_dead); exact rfl; sizeOf_list_dec)
local macro_rules
  | `(tactic| dict_keeps) => `(tactic| first | (simp only [Mi.put, entry, entVs, entOs, List.length_cons, List.length_nil, Nat.reduceAdd, Nat.reduceSub, List.replicate_succ, List.replicate_zero, List.cons_append, List.nil_append, List.set_cons_zero, List.set_cons_succ, setsV_nil, setsV_cons] <;> exact rfl) | exact rfl)
local macro_rules
  | `(tactic| left) => `(tactic| first
    | with_reducible assumption
    | with_reducible exact k_go
    | (with_reducible apply nm_val); exact rfl
    | (with_reducible apply nm_own); exact rfl
    | (with_reducible apply nm_bor); exact rfl
    | with_reducible exact nilL_go
    | with_reducible exact nilR_go
    | with_reducible exact yes_go
    | with_reducible exact dnew_go
    | (with_reducible apply bin_go'); left; left; exact rfl; exact rfl; right
    | (with_reducible apply un_go'); left; exact rfl; right
    | (with_reducible apply consL_go); left; grows_one; left
    | (with_reducible apply tup_go); left; exact sz_ok rfl
    | (with_reducible apply lst_go); left; exact sz_ok rfl
    | (with_reducible apply consR_go); left; left
    | (with_reducible apply call_go0); left; sizeOf_list_dec; right; exact rfl
    | (with_reducible apply call_go1); left; sizeOf_list_dec; right; dict_keeps
    | (with_reducible apply call_go2); left; sizeOf_list_dec; right; dict_keeps
    | (with_reducible apply call_go); left; sizeOf_list_dec; exact rfl; right; exact rfl
    | (with_reducible apply fz_go); left; grows_one
    | (with_reducible apply mut_go'); exact rfl; left; exact rfl; exact ⟨_, rfl⟩; right; dict_keeps
    | (with_reducible apply mut_goB); exact rfl; exact rfl; left; exact rfl; right; dict_keeps
    | (with_reducible apply met_go); left; exact rfl; left; exact rfl; right
    | (with_reducible apply sl0_go); left; exact rfl; right
    | (with_reducible apply slL_go); left; left; exact rfl; exact rfl; right
    | (with_reducible apply slH_go); left; left; exact rfl; exact rfl; right
    | (with_reducible apply slLH_go); left; left; exact rfl; left; exact rfl; exact rfl; right
    | (with_reducible apply rep_go); left; left; exact rfl; exact ⟨by decide, sz_ok rfl⟩
    | (with_reducible apply lrg_go); left; exact rfl; decide
    | (with_reducible apply tB_go); left; exact rfl
    | (with_reducible apply tT_go); left; exact rfl; right
    | (with_reducible apply and_go); left; intro _; left
    | (with_reducible apply or_go); left; intro _; left
    | (with_reducible apply not_go); left
    | (with_reducible apply andE_go); left; exact rfl; intro _; left
    | (with_reducible apply orE_go); left; exact rfl; intro _; left
    | (with_reducible apply notE_go); left; exact rfl
    | (with_reducible apply ch_go); left; left; exact rfl; exact rfl; right; left; exact rfl; right)
local macro_rules
  | `(tactic| within_ways) => `(tactic| first
    | with_reducible assumption
    | with_reducible exact nx_go
    | (with_reducible apply seq_any); within_ways; (first | with_reducible exact seqO_rt | ((with_reducible apply seqO_nx); within_ways))
    | (with_reducible apply set_any); left; (first | with_reducible exact slotR_val | with_reducible exact slotR_own); dict_keeps
    | (with_reducible apply ret_go); left
    | (with_reducible apply drop_go); left
    | (with_reducible apply if_st); left; (first | (refine Or.inl ⟨?_, ?_⟩; infer_instance; within_ways) | (refine Or.inr ⟨?_, ?_⟩; infer_instance; within_ways))
    | (with_reducible apply unp_go'); left; exact rfl; exact rfl; dict_keeps
    | (with_reducible apply unl_go'); left; exact rfl; grows_one; exact rfl; dict_keeps
    | (with_reducible apply sto_go'); left; grows_one; exact ⟨_, rfl⟩; left; exact rfl; exact rfl; right; dict_keeps; dict_keeps
    | (with_reducible apply sto_goB); left; grows_one; exact rfl; left; exact rfl; exact rfl; right; dict_keeps; dict_keeps
    | (with_reducible apply par_go'); left; exact rfl; exact rfl; exact rfl; exact rfl; dict_keeps
    | (with_reducible apply aug_go'); exact rfl; left; exact rfl; dict_keeps
    | (with_reducible apply set_go); left; exact rfl)
local macro_rules
  | `(tactic| infer_instance) => `(tactic| first
    | with_reducible exact rfl
    | with_reducible assumption
    | (first
      | decide +kernel
      | (simp only [decide_eq_true_eq, decide_eq_false_iff_not, Bool.and_eq_true, Bool.or_eq_true, Bool.or_eq_false_iff, Bool.and_eq_false_iff, Bool.not_eq_true', Bool.not_eq_false', Bool.not_true, Bool.not_false, Bool.or_true, Bool.true_or, Bool.and_false, Bool.false_and, Bool.or_false, Bool.false_or, Bool.and_true, Bool.true_and, and_true, true_and]; first | done | assumption | omega)))
local macro_rules
  | `(tactic| right) => `(tactic| first
    | with_reducible assumption
    | with_reducible exact eq_sS _ _
    | with_reducible exact ne_sS _ _
    | with_reducible exact ix_t0
    | with_reducible exact ix_t1
    | with_reducible exact ix_t2
    | with_reducible exact ix_l0
    | with_reducible exact ix_l1
    | with_reducible exact ix_l2
    | with_reducible exact add_ii
    | with_reducible exact sub_ii
    | with_reducible exact appL_go rfl
    | with_reducible exact add_sN' rfl
    | with_reducible exact isn_n
    | with_reducible exact isn_i
    | with_reducible exact isn_s
    | with_reducible exact isn_l
    | with_reducible exact isn_t
    | with_reducible exact isnt_n
    | with_reducible exact isnt_i
    | with_reducible exact isnt_s
    | with_reducible exact isnt_l
    | with_reducible exact isnt_t
    | with_reducible exact truth_b
    | with_reducible exact list_go
    | with_reducible exact tuple_go
    | with_reducible exact tuplet_go
    | exact rfl)
theorem run_source (cell : Int) {k : Nat} (hk : k < 1000) : ∃ s : Sc, s.Ok (2 ^ 20) ∧ G__law_source [.val (.int cell), .val (.int (k : Int))] = .ret (.own (.lst (scD s))) [] := by
  have p1 : gPow (.int 10) (.int 18) = some (.val (.int ((10 ^ 18 : Nat) : Int))) := pow10R 18 rfl
  have p2 : gPow (.int 10) (.int 35) = some (.val (.int ((10 ^ 35 : Nat) : Int))) := pow10R 35 rfl
  have p3 : gAdd (.int ((10 ^ 35 : Nat) : Int)) (.int 69) = some (.val (.int ((10 ^ 35 + 69 : Nat) : Int))) := add_natR (10 ^ 35) 69
  obtain ⟨d, hd⟩ : ∃ d : Nat, gMax2 (.int 0) (.int (cell - ((10 ^ 18 : Nat) : Int))) = some (.val (.int (d : Int))) := by
    refine ⟨(cell - ((10 ^ 18 : Nat) : Int)).toNat, ?_⟩
    show some (vI (if cell - ((10 ^ 18 : Nat) : Int) > 0 then cell - ((10 ^ 18 : Nat) : Int) else 0)) = _
    congr 3
    split <;> omega
  obtain ⟨q, hq, q1⟩ : ∃ q : Nat, q < 10 ^ 35 + 69 ∧ gMod (.int cell) (.int ((10 ^ 35 + 69 : Nat) : Int)) = some (.val (.int (q : Int))) := by
    have h0 : (0 : Int) < ((10 ^ 35 + 69 : Nat) : Int) := by decide
    have h1 := Int.emod_nonneg cell (Int.ne_of_gt h0)
    have h2 := Int.emod_lt_of_pos cell h0
    refine ⟨(cell % ((10 ^ 35 + 69 : Nat) : Int)).toNat, by omega, ?_⟩
    show (if (0 : Int) < ((10 ^ 35 + 69 : Nat) : Int) then some (vI (cell % ((10 ^ 35 + 69 : Nat) : Int))) else none) = _
    rw [if_pos h0, Int.toNat_of_nonneg h1]
  have hq2 : q < 2 ^ 120 := Nat.lt_trans hq (by decide)
  have q2 : gMul (.int (q : Int)) (.int 139) = some (.val (.int ((q * 139 : Nat) : Int))) := g_mulR (j := 139) (b := 20) hq2 (by decide) (by decide) (by decide) (by decide)
  have q3 : gAdd (.int ((q * 139 : Nat) : Int)) (.int (k : Int)) = some (.val (.int ((q * 139 + k : Nat) : Int))) := add_natR _ _
  refine ⟨⟨d, q * 139 + k, 0⟩, ⟨?_, (by decide : (0 : Nat) + 2 ^ 20 ≤ 2 ^ 20)⟩, ?_⟩
  · show q * 139 + k < 2 ^ 210
    have h1 : q * 139 ≤ 2 ^ 120 * 139 := Nat.mul_le_mul_right _ (Nat.le_of_lt hq2)
    exact Nat.lt_trans (Nat.add_lt_add_of_le_of_lt h1 hk) (by decide)
  · refine run_go rfl (by dict_keeps) (by delta b__law_source; within_ways) rfl
theorem run_drawL {n L : Nat} {s : Sc} (Li : Int) (hL : Li = (L : Int)) (h : s.Ok (n + 1)) (h0 : 0 < L) (h1 : L ≤ 1000) :
    ∃ v s', v < L ∧ s'.Ok n ∧ G__law_draw [.ref (.lst (scD s)), .val (.int Li)] = .ret (.val (.int ((v : Nat) : Int))) [.live (.lst (scD s'))] := by
  subst hL
  exact run_draw h h0 h1
theorem run_word {n size : Nat} {s : Sc} (h : s.Ok (n + 6)) (hs : 0 < size) (h1 : size ≤ 10) :
    ∃ w s', w.Ok ∧ w.Lt size ∧ s'.Ok n ∧ G__law_word_here [.ref (.lst (scD s)), .val (.int (size : Int))] = .ret (.val (wD w)) [.live (.lst (scD s'))] := by
  obtain ⟨a, s1, ha, k1, d1⟩ := run_draw (n := n + 5) h hs (by omega)
  obtain ⟨b, s2, hb, k2, d2⟩ := run_draw (n := n + 4) k1 hs (by omega)
  obtain ⟨c, s3, hc, k3, d3⟩ := run_drawL (n := n + 3) (L := 26) 26 rfl k2 (by decide) (by decide)
  obtain ⟨d, s4, hd, k4, d4⟩ := run_drawL (n := n + 2) (L := 8) 8 rfl k3 (by decide) (by decide)
  obtain ⟨e, s5, he, k5, d5⟩ := run_drawL (n := n + 1) (L := 4) 4 rfl k4 (by decide) (by decide)
  obtain ⟨f, s6, hf, k6, d6⟩ := run_drawL (n := n) (L := 6) 6 rfl k5 (by decide) (by decide)
  have t1 := strI_dig a (by omega)
  have t2 := strI_dig b (by omega)
  have t3 := drawn_sl c hc d hd
  have t4 := drawn_ok c hc d hd
  obtain ⟨x, hx, t5⟩ := ix_any (l := [.str (sN [102]), .str (sN [103]), .str (sN [97, 98, 99, 100, 101, 102, 103, 104]), .str (sN (drawnW c d))]) (i := e) he
  obtain ⟨nm, hnm, rfl⟩ : ∃ nm, NmOk nm ∧ x = .str (sN nm) := by
    simp only [List.mem_cons, List.not_mem_nil, or_false] at hx
    rcases hx with rfl | rfl | rfl | rfl
    · exact ⟨_, nmB_ok (by decide), rfl⟩
    · exact ⟨_, nmB_ok (by decide), rfl⟩
    · exact ⟨_, nmB_ok (by decide), rfl⟩
    · exact ⟨_, t4, rfl⟩
  have l8 := hnm.2.1
  have t6 : gAdd (.str (sN ([48 + a] ++ [62]))) (.str (sN nm)) = some (.val (.str (sN ([48 + a] ++ [62] ++ nm)))) := add_sN (Nat.le_trans (show 2 + nm.length ≤ 10 by omega) (by decide))
  have t7 : gAdd (.str (sN ([48 + a] ++ [60]))) (.str (sN nm)) = some (.val (.str (sN ([48 + a] ++ [60] ++ nm)))) := add_sN (Nat.le_trans (show 2 + nm.length ≤ 10 by omega) (by decide))
  have hf6 : f < ((List.replicate (3 : Int).toNat [PyData.str (sN ([48 + a, 62, 38, 48 + b]))]).flatten ++ [PyData.str (sN ([48 + a, 62, 38, 45])), PyData.str (sN ((48 + a) :: 62 :: nm)), PyData.str (sN ((48 + a) :: 60 :: nm))]).length := hf
  obtain ⟨y, hy, t8⟩ := ix_any (l := (List.replicate (3 : Int).toNat [PyData.str (sN ([48 + a, 62, 38, 48 + b]))]).flatten ++ [.str (sN ([48 + a, 62, 38, 45])), .str (sN ((48 + a) :: 62 :: nm)), .str (sN ((48 + a) :: 60 :: nm))]) (i := f) hf6
  obtain ⟨w, hw, hw2, rfl⟩ : ∃ w : Wd, w.Ok ∧ w.Lt size ∧ y = wD w := by
    have hy : y ∈ [PyData.str (sN ([48 + a, 62, 38, 48 + b])), .str (sN ([48 + a, 62, 38, 48 + b])), .str (sN ([48 + a, 62, 38, 48 + b])), .str (sN ([48 + a, 62, 38, 45])), .str (sN ((48 + a) :: 62 :: nm)), .str (sN ((48 + a) :: 60 :: nm))] := hy
    simp only [List.mem_cons, List.not_mem_nil, or_false] at hy
    rcases hy with rfl | rfl | rfl | rfl | rfl | rfl
    · exact ⟨.cp b a, ⟨by omega, by omega⟩, ⟨hb, ha⟩, rfl⟩
    · exact ⟨.cp b a, ⟨by omega, by omega⟩, ⟨hb, ha⟩, rfl⟩
    · exact ⟨.cp b a, ⟨by omega, by omega⟩, ⟨hb, ha⟩, rfl⟩
    · exact ⟨.cl a, by show a < 10; omega, ha, rfl⟩
    · exact ⟨.op a true nm, ⟨by omega, hnm⟩, ha, rfl⟩
    · exact ⟨.op a false nm, ⟨by omega, hnm⟩, ha, rfl⟩
  refine ⟨w, s6, hw, hw2, k6, ?_⟩
  refine run_go rfl (by dict_keeps) (by delta b__law_word_here; simp only [lit_ga, lit_gac, lit_g, lit_l, lit_f, lit_gg, lit_ah, lit_alpha]; within_ways) rfl
end Lw

/-! Ru8.lean -/
set_option Elab.async false
set_option linter.all false
set_option maxRecDepth 100000
namespace Lw
open PySem L2 Mi
local macro_rules
  | `(tactic| grows_one) => `(tactic| first
    | with_reducible exact frz_v
    | with_reducible exact frz_o
    | (with_reducible apply frz_s); exact rfl; dict_keeps
    | (with_reducible apply frz_d); exact rfl
    | (with_reducible apply frz_b); exact rfl; dict_keeps
    | exact rfl)
local macro_rules
  | `(tactic| sizeOf_list_dec) => `(tactic| first
    | with_reducible exact ags_nil
    | (with_reducible apply ags_val); sizeOf_list_dec
    | (with_reducible apply ags_own); sizeOf_list_dec
    | (with_reducible apply ags_at); exact rfl; sizeOf_list_dec
    | (with_reducible apply ags_dead); exact rfl; sizeOf_list_dec)
local macro_rules
  | `(tactic| dict_keeps) => `(tactic| first | (simp only [Mi.put, entry, entVs, entOs, List.length_cons, List.length_nil, Nat.reduceAdd, Nat.reduceSub, List.replicate_succ, List.replicate_zero, List.cons_append, List.nil_append, List.set_cons_zero, List.set_cons_succ, setsV_nil, setsV_cons] <;> exact rfl) | exact rfl)
local macro_rules
  | `(tactic| left) => `(tactic| first
    | with_reducible assumption
    | with_reducible exact k_go
    | (with_reducible apply nm_val); exact rfl
    | (with_reducible apply nm_own); exact rfl
    | (with_reducible apply nm_bor); exact rfl
    | with_reducible exact nilL_go
    | with_reducible exact nilR_go
    | with_reducible exact yes_go
    | with_reducible exact dnew_go
    | (with_reducible apply bin_go'); left; left; exact rfl; exact rfl; right
    | (with_reducible apply un_go'); left; exact rfl; right
    | (with_reducible apply consL_go); left; grows_one; left
    | (with_reducible apply tup_go); left; exact sz_ok rfl
    | (with_reducible apply lst_go); left; exact sz_ok rfl
    | (with_reducible apply consR_go); left; left
    | (with_reducible apply call_go0); left; sizeOf_list_dec; right; exact rfl
    | (with_reducible apply call_go1); left; sizeOf_list_dec; right; dict_keeps
    | (with_reducible apply call_go2); left; sizeOf_list_dec; right; dict_keeps
    | (with_reducible apply call_go); left; sizeOf_list_dec; exact rfl; right; exact rfl
    | (with_reducible apply fz_go); left; grows_one
    | (with_reducible apply mut_go'); exact rfl; left; exact rfl; exact ⟨_, rfl⟩; right; dict_keeps
    | (with_reducible apply mut_goB); exact rfl; exact rfl; left; exact rfl; right; dict_keeps
    | (with_reducible apply met_go); left; exact rfl; left; exact rfl; right
    | (with_reducible apply sl0_go); left; exact rfl; right
    | (with_reducible apply slL_go); left; left; exact rfl; exact rfl; right
    | (with_reducible apply slH_go); left; left; exact rfl; exact rfl; right
    | (with_reducible apply slLH_go); left; left; exact rfl; left; exact rfl; exact rfl; right
    | (with_reducible apply rep_go); left; left; exact rfl; exact ⟨by decide, sz_ok rfl⟩
    | (with_reducible apply lrg_go); left; exact rfl; decide
    | (with_reducible apply tB_go); left; exact rfl
    | (with_reducible apply tT_go); left; exact rfl; right
    | (with_reducible apply and_go); left; intro _; left
    | (with_reducible apply or_go); left; intro _; left
    | (with_reducible apply not_go); left
    | (with_reducible apply andE_go); left; exact rfl; intro _; left
    | (with_reducible apply orE_go); left; exact rfl; intro _; left
    | (with_reducible apply notE_go); left; exact rfl
    | (with_reducible apply ch_go); left; left; exact rfl; exact rfl; right; left; exact rfl; right)
local macro_rules
  | `(tactic| within_ways) => `(tactic| first
    | with_reducible assumption
    | with_reducible exact nx_go
    | (with_reducible apply seq_any); within_ways; (first | with_reducible exact seqO_rt | ((with_reducible apply seqO_nx); within_ways))
    | (with_reducible apply set_any); left; (first | with_reducible exact slotR_val | with_reducible exact slotR_own); dict_keeps
    | (with_reducible apply ret_go); left
    | (with_reducible apply drop_go); left
    | (with_reducible apply if_st); left; (first | (refine Or.inl ⟨?_, ?_⟩; infer_instance; within_ways) | (refine Or.inr ⟨?_, ?_⟩; infer_instance; within_ways))
    | (with_reducible apply unp_go'); left; exact rfl; exact rfl; dict_keeps
    | (with_reducible apply unl_go'); left; exact rfl; grows_one; exact rfl; dict_keeps
    | (with_reducible apply sto_go'); left; grows_one; exact ⟨_, rfl⟩; left; exact rfl; exact rfl; right; dict_keeps; dict_keeps
    | (with_reducible apply sto_goB); left; grows_one; exact rfl; left; exact rfl; exact rfl; right; dict_keeps; dict_keeps
    | (with_reducible apply par_go'); left; exact rfl; exact rfl; exact rfl; exact rfl; dict_keeps
    | (with_reducible apply aug_go'); exact rfl; left; exact rfl; dict_keeps
    | (with_reducible apply set_go); left; exact rfl)
local macro_rules
  | `(tactic| infer_instance) => `(tactic| first
    | with_reducible exact rfl
    | with_reducible assumption
    | (first
      | decide +kernel
      | (simp only [decide_eq_true_eq, decide_eq_false_iff_not, Bool.and_eq_true, Bool.or_eq_true, Bool.or_eq_false_iff, Bool.and_eq_false_iff, Bool.not_eq_true', Bool.not_eq_false', Bool.not_true, Bool.not_false, Bool.or_true, Bool.true_or, Bool.and_false, Bool.false_and, Bool.or_false, Bool.false_or, Bool.and_true, Bool.true_and, and_true, true_and]; first | done | assumption | omega)))
local macro_rules
  | `(tactic| right) => `(tactic| first
    | with_reducible assumption
    | with_reducible exact eq_sS _ _
    | with_reducible exact ne_sS _ _
    | with_reducible exact ix_t0
    | with_reducible exact ix_t1
    | with_reducible exact ix_t2
    | with_reducible exact ix_l0
    | with_reducible exact ix_l1
    | with_reducible exact ix_l2
    | with_reducible exact add_ii
    | with_reducible exact sub_ii
    | with_reducible exact appL_go rfl
    | with_reducible exact add_sN' rfl
    | with_reducible exact isn_n
    | with_reducible exact isn_i
    | with_reducible exact isn_s
    | with_reducible exact isn_l
    | with_reducible exact isn_t
    | with_reducible exact isnt_n
    | with_reducible exact isnt_i
    | with_reducible exact isnt_s
    | with_reducible exact isnt_l
    | with_reducible exact isnt_t
    | with_reducible exact truth_b
    | with_reducible exact list_go
    | with_reducible exact tuple_go
    | with_reducible exact tuplet_go
    | exact rfl)
theorem run_some_words {n most : Nat} {s : Sc} (h : s.Ok (n + 300)) (hm : most ≤ 40) :
    ∃ (ws : List Wd) (size : Nat) (s' : Sc), (∀ w ∈ ws, w.Ok) ∧ ws.length ≤ most ∧ s'.Ok n ∧ G__law_some_words [.ref (.lst (scD s)), .val (.int (most : Int))] = .ret (.own (.lst (ws.map wD))) [.live (.lst (scD s'))] := by
  obtain ⟨a, s1, ha, k1, d1⟩ := run_drawL (n := n + 299) (L := 3) 3 rfl h (by decide) (by decide)
  obtain ⟨b, s2, hb, k2, d2⟩ := run_draw (n := n + 298) (L := most + 1) k1 (by omega) (by omega)
  obtain ⟨c, s3, hc, k3, d3⟩ := run_drawL (n := n + 297) (L := 2) 2 rfl k2 (by decide) (by decide)
  have a0 : gAdd (.int (most : Int)) (.int 1) = some (.val (.int ((most + 1 : Nat) : Int))) := add_natR most 1
  obtain ⟨x, hx, t1⟩ := ix_any (l := [.int 3, .int 5, .int 10]) (i := a) ha
  obtain ⟨size, h0, h1, rfl⟩ : ∃ size : Nat, 0 < size ∧ size ≤ 10 ∧ x = .int (size : Int) := by
    simp only [List.mem_cons, List.not_mem_nil, or_false] at hx
    rcases hx with rfl | rfl | rfl
    · exact ⟨3, by decide, by decide, rfl⟩
    · exact ⟨5, by decide, by decide, rfl⟩
    · exact ⟨10, by decide, by decide, rfl⟩
  obtain ⟨y, hy, t2⟩ := ix_any (l := [.int ((b : Nat) : Int), .int ((most : Nat) : Int)]) (i := c) hc
  obtain ⟨many, hm2, rfl⟩ : ∃ many : Nat, many ≤ most ∧ y = .int (many : Int) := by
    simp only [List.mem_cons, List.not_mem_nil, or_false] at hy
    rcases hy with rfl | rfl
    · exact ⟨b, by omega, rfl⟩
    · exact ⟨most, Nat.le_refl _, rfl⟩
  have he : ∀ e1 e2 : En, e1 = ⟨[some (.bor 0), some (.val (.int (most : Int))), some (.val (.int (size : Int))), none], [.live (.lst (scD s1))]⟩ → e2 = ⟨[some (.bor 0), some (.val (.int (most : Int))), some (.val (.int (size : Int))), none], [.live (.lst (scD s3))]⟩ →
      (binE gIx (lstE (consL (callE G__law_draw (consR (nmE 0) (consR (binE gAdd (nmE 1) (kE (.int 1))) (nilR)))) (consL (nmE 1) (nilL)))) (callE G__law_draw (consR (nmE 0) (consR (kE (.int 2)) (nilR))))) e1 = .ok (.val (.int (many : Int))) e2 := by
    rintro _ _ rfl rfl
    left
  obtain ⟨acc, r', lp, ws, s', hws, hacc, hl, hk, hr⟩ := lcE_rngI (tg := fun d r => some (put r 3 (.val d))) (T := [3]) (f := callE G__law_word_here (consR (nmE 0) (consR (nmE 2) (nilR)))) (n := many)
    (fun i a r => ∃ (ws : List Wd) (s' : Sc), (∀ w ∈ ws, w.Ok) ∧ a = ws.map wD ∧ ws.length = i ∧ s'.Ok (n + 297 - 6 * i) ∧ r = ⟨[some (.bor 0), some (.val (.int (most : Int))), some (.val (.int (size : Int))), none], [.live (.lst (scD s'))]⟩)
    (he _ _ rfl rfl) (by omega) rfl ⟨[], s3, nofun, rfl, rfl, k3, rfl⟩ (fun i a r ⟨ws, _, _, e, e2, _⟩ => by rw [e, List.length_map, e2])
    (fun i a r ⟨ws, s', hws, e, hl, hk, hr⟩ hi => by
      subst e hr
      obtain ⟨w, s2', hw, _, hk2, dw⟩ := run_word (n := n + 297 - 6 * (i + 1)) (s := s') (size := size) (by have := hk.2; exact ⟨hk.1, by omega⟩) h0 h1
      refine ⟨⟨[some (.bor 0), some (.val (.int (most : Int))), some (.val (.int (size : Int))), some (.val (.int (i : Int)))], [.live (.lst (scD s'))]⟩, rfl, wD w, ⟨[some (.bor 0), some (.val (.int (most : Int))), some (.val (.int (size : Int))), some (.val (.int (i : Int)))], [.live (.lst (scD s2'))]⟩, ?_, ws ++ [w], s2', ?_, by simp, by simp [hl], hk2, rfl⟩
      · apply val_frz
        left
      · intro v hv
        rcases List.mem_append.mp hv with q | q
        · exact hws v q
        · rw [List.mem_singleton] at q; rw [q]; exact hw)
  subst hacc hr
  refine ⟨ws, size, s', hws, by omega, ⟨hk.1, by have := hk.2; omega⟩, ?_⟩
  have lp2 : lcE (rng1 (binE gIx (lstE (consL (callE G__law_draw (consR (nmE 0) (consR (binE gAdd (nmE 1) (kE (.int 1))) (nilR)))) (consL (nmE 1) (nilL)))) (callE G__law_draw (consR (nmE 0) (consR (kE (.int 2)) (nilR)))))) (fun d r => some (put r 3 (.val d))) [3] (yesB) (callE G__law_word_here (consR (nmE 0) (consR (nmE 2) (nilR)))) ⟨[some (.bor 0), some (.val (.int (most : Int))), some (.val (.int (size : Int))), none], [.live (.lst (scD s1))]⟩ = .ok (.own (.lst (ws.map wD))) ⟨[some (.bor 0), some (.val (.int (most : Int))), some (.val (.int (size : Int))), none], [.live (.lst (scD s'))]⟩ := lp
  refine run_go rfl (by dict_keeps) (by delta b__law_some_words; within_ways) rfl
end Lw

/-! Ru9.lean -/
set_option Elab.async false
set_option linter.all false
set_option maxRecDepth 100000
namespace Lw
open PySem L2 Mi
local macro_rules
  | `(tactic| grows_one) => `(tactic| first
    | with_reducible exact frz_v
    | with_reducible exact frz_o
    | (with_reducible apply frz_s); exact rfl; dict_keeps
    | (with_reducible apply frz_d); exact rfl
    | (with_reducible apply frz_b); exact rfl; dict_keeps
    | exact rfl)
local macro_rules
  | `(tactic| sizeOf_list_dec) => `(tactic| first
    | with_reducible exact ags_nil
    | (with_reducible apply ags_val); sizeOf_list_dec
    | (with_reducible apply ags_own); sizeOf_list_dec
    | (with_reducible apply ags_at); exact rfl; sizeOf_list_dec
    | (with_reducible apply ags_dead); exact rfl; sizeOf_list_dec)
local macro_rules
  | `(tactic| dict_keeps) => `(tactic| first | (simp only [Mi.put, entry, entVs, entOs, List.length_cons, List.length_nil, Nat.reduceAdd, Nat.reduceSub, List.replicate_succ, List.replicate_zero, List.cons_append, List.nil_append, List.set_cons_zero, List.set_cons_succ, setsV_nil, setsV_cons] <;> exact rfl) | exact rfl)
local macro_rules
  | `(tactic| left) => `(tactic| first
    | with_reducible assumption
    | with_reducible exact k_go
    | (with_reducible apply nm_val); exact rfl
    | (with_reducible apply nm_own); exact rfl
    | (with_reducible apply nm_bor); exact rfl
    | with_reducible exact nilL_go
    | with_reducible exact nilR_go
    | with_reducible exact yes_go
    | with_reducible exact dnew_go
    | (with_reducible apply bin_go'); left; left; exact rfl; exact rfl; right
    | (with_reducible apply un_go'); left; exact rfl; right
    | (with_reducible apply consL_go); left; grows_one; left
    | (with_reducible apply tup_go); left; exact sz_ok rfl
    | (with_reducible apply lst_go); left; exact sz_ok rfl
    | (with_reducible apply consR_go); left; left
    | (with_reducible apply call_go0); left; sizeOf_list_dec; right; exact rfl
    | (with_reducible apply call_go1); left; sizeOf_list_dec; right; dict_keeps
    | (with_reducible apply call_go2); left; sizeOf_list_dec; right; dict_keeps
    | (with_reducible apply call_go); left; sizeOf_list_dec; exact rfl; right; exact rfl
    | (with_reducible apply fz_go); left; grows_one
    | (with_reducible apply mut_go'); exact rfl; left; exact rfl; exact ⟨_, rfl⟩; right; dict_keeps
    | (with_reducible apply mut_goB); exact rfl; exact rfl; left; exact rfl; right; dict_keeps
    | (with_reducible apply met_go); left; exact rfl; left; exact rfl; right
    | (with_reducible apply sl0_go); left; exact rfl; right
    | (with_reducible apply slL_go); left; left; exact rfl; exact rfl; right
    | (with_reducible apply slH_go); left; left; exact rfl; exact rfl; right
    | (with_reducible apply slLH_go); left; left; exact rfl; left; exact rfl; exact rfl; right
    | (with_reducible apply rep_go); left; left; exact rfl; exact ⟨by decide, sz_ok rfl⟩
    | (with_reducible apply lrg_go); left; exact rfl; decide
    | (with_reducible apply tB_go); left; exact rfl
    | (with_reducible apply tT_go); left; exact rfl; right
    | (with_reducible apply and_go); left; intro _; left
    | (with_reducible apply or_go); left; intro _; left
    | (with_reducible apply not_go); left
    | (with_reducible apply andE_go); left; exact rfl; intro _; left
    | (with_reducible apply orE_go); left; exact rfl; intro _; left
    | (with_reducible apply notE_go); left; exact rfl
    | (with_reducible apply ch_go); left; left; exact rfl; exact rfl; right; left; exact rfl; right)
local macro_rules
  | `(tactic| within_ways) => `(tactic| first
    | with_reducible assumption
    | with_reducible exact nx_go
    | (with_reducible apply seq_any); within_ways; (first | with_reducible exact seqO_rt | ((with_reducible apply seqO_nx); within_ways))
    | (with_reducible apply set_any); left; (first | with_reducible exact slotR_val | with_reducible exact slotR_own); dict_keeps
    | (with_reducible apply ret_go); left
    | (with_reducible apply drop_go); left
    | (with_reducible apply if_st); left; (first | (refine Or.inl ⟨?_, ?_⟩; infer_instance; within_ways) | (refine Or.inr ⟨?_, ?_⟩; infer_instance; within_ways))
    | (with_reducible apply unp_go'); left; exact rfl; exact rfl; dict_keeps
    | (with_reducible apply unl_go'); left; exact rfl; grows_one; exact rfl; dict_keeps
    | (with_reducible apply sto_go'); left; grows_one; exact ⟨_, rfl⟩; left; exact rfl; exact rfl; right; dict_keeps; dict_keeps
    | (with_reducible apply sto_goB); left; grows_one; exact rfl; left; exact rfl; exact rfl; right; dict_keeps; dict_keeps
    | (with_reducible apply par_go'); left; exact rfl; exact rfl; exact rfl; exact rfl; dict_keeps
    | (with_reducible apply aug_go'); exact rfl; left; exact rfl; dict_keeps
    | (with_reducible apply set_go); left; exact rfl)
local macro_rules
  | `(tactic| infer_instance) => `(tactic| first
    | with_reducible exact rfl
    | with_reducible assumption
    | (first
      | decide +kernel
      | (simp only [decide_eq_true_eq, decide_eq_false_iff_not, Bool.and_eq_true, Bool.or_eq_true, Bool.or_eq_false_iff, Bool.and_eq_false_iff, Bool.not_eq_true', Bool.not_eq_false', Bool.not_true, Bool.not_false, Bool.or_true, Bool.true_or, Bool.and_false, Bool.false_and, Bool.or_false, Bool.false_or, Bool.and_true, Bool.true_and, and_true, true_and]; first | done | assumption | omega)))
local macro_rules
  | `(tactic| right) => `(tactic| first
    | with_reducible assumption
    | with_reducible exact eq_sS _ _
    | with_reducible exact ne_sS _ _
    | with_reducible exact ix_t0
    | with_reducible exact ix_t1
    | with_reducible exact ix_t2
    | with_reducible exact ix_l0
    | with_reducible exact ix_l1
    | with_reducible exact ix_l2
    | with_reducible exact add_ii
    | with_reducible exact sub_ii
    | with_reducible exact appL_go rfl
    | with_reducible exact add_sN' rfl
    | with_reducible exact isn_n
    | with_reducible exact isn_i
    | with_reducible exact isn_s
    | with_reducible exact isn_l
    | with_reducible exact isn_t
    | with_reducible exact isnt_n
    | with_reducible exact isnt_i
    | with_reducible exact isnt_s
    | with_reducible exact isnt_l
    | with_reducible exact isnt_t
    | with_reducible exact truth_b
    | with_reducible exact list_go
    | with_reducible exact tuple_go
    | with_reducible exact tuplet_go
    | exact rfl)
theorem run_played {ws : List Wd} (h : ∀ w ∈ ws, w.Ok) (hl : ws.length ≤ 1000) {t : List PyData} (ht : t.length = 10) :
    G__law_played [.ref (.lst (ws.map wD)), .val (.list t)] = .ret (.own (.lst (match playW ws ⟨t, [], []⟩ with | .ok s => [.list s.ends, .list (s.ops.map opD), .none] | .error m => [.list t, .list [], .int (m : Int)]))) [.live (.lst (ws.map wD))] := by
  have lp := forS_seq (ρ := Nat) (e := nmE 0) (tg := fun d r => some (put r 4 (.val d))) (r := ⟨[some (.bor 0), some (.val (.list t)), some (.own (.lst t)), some (.own (.lst [])), none, none, none], [.live (.lst (ws.map wD))]⟩) ws wD (s0 := (⟨t, [], []⟩ : Rs))
    (fun i s r => s.ends.length = 10 ∧ s.ops.length ≤ i ∧ ∃ a b c, r = ⟨[some (.bor 0), some (.val (.list t)), some (.own (.lst s.ends)), some (.own (.lst (s.ops.map opD))), a, b, c], [.live (.lst (ws.map wD))]⟩)
    (fun m v r => v = .own (.lst [.list t, .list [], .int ((m : Nat) : Int)]) ∧ ∃ vs, r = ⟨vs, [.live (.lst (ws.map wD))]⟩) playF (nm_bor rfl) rfl rfl
    ⟨ht, by simp, _, _, _, rfl⟩ (fun i s r ⟨_, _, a, b, c, e⟩ => by rw [e]; rfl)
    (bd := (seqS (parS 5 6 (consR (unE gIntX (binE gIx (nmE 4) (kE (.int 0)))) (consR (slE (nmE 4) (some (kE (.int 2))) none) (nilR)))) <| ifS (tstB (binE gEq (nmE 6) (kE (.str "&-")))) (stoS (kE .none) 2 (nmE 5)) (ifS (tstB (binE gEq (binE gIx (nmE 6) (kE (.int 0))) (kE (.str "&")))) (seqS (ifS (tstB (binE gIsN (binE gIx (nmE 2) (unE gIntX (binE gIx (nmE 6) (kE (.int 1))))) (kE .none))) (retS (lstE (consL (nmE 1) (consL (lstE (nilL)) (consL (unE gIntX (binE gIx (nmE 6) (kE (.int 1)))) (nilL)))))) (nxS)) <| stoS (binE gIx (nmE 2) (unE gIntX (binE gIx (nmE 6) (kE (.int 1))))) 2 (nmE 5)) (seqS (stoS (tupE (consL (kE (.str "new")) (consL (unE gLen (nmE 3)) (nilL)))) 2 (nmE 5)) <| dropS (mutE 3 uApp (consL (tupE (consL (binE gIx (nmE 4) (kE (.int 1))) (consL (nmE 6) (nilL)))) (nilL)))))))
    (fun s r i w ⟨h1, h2, a, b, c, e⟩ hi => by
      subst e
      have hw := h w (List.mem_of_getElem? hi)
      have hlt := (List.getElem?_eq_some_iff.mp hi).1
      have k1 := go_len w s
      have k2 := go_ops w s
      have q3 : gLen (.list (s.ops.map opD)) = some (.val (.int ((s.ops.length : Nat) : Int))) := by
        show some (vI (((s.ops.map opD).length : Nat) : Int)) = _
        rw [List.length_map]
      simp only [lit_amp, lit_ampc]
      cases w with
      | cp m n =>
        have hz : [48 + n, 62, 38, 48 + m].length ≤ sizeLine := sz_ok rfl
        have x0 : gIx (.str (sN [48 + n, 62, 38, 48 + m])) (.int 0) = some (.val (.str (sN [48 + n]))) := ix_sN (i := 0) hz rfl
        have x1 := dig_int n hw.2
        have x2 : gSl (.str (sN [48 + n, 62, 38, 48 + m])) (some 2) none = some (.val (.str (sN [38, 48 + m]))) := sl_sN (i := 2) hz (by simp)
        have x3 := rest_cp hw.1
        have x4 : gIx (.str (sN [38, 48 + m])) (.int 0) = some (.val (.str (sN [38]))) := ix_sN (i := 0) (sz_ok rfl) rfl
        have x5 : gIx (.str (sN [38, 48 + m])) (.int 1) = some (.val (.str (sN [48 + m]))) := ix_sN (i := 1) (sz_ok rfl) rfl
        have x6 := dig_int m hw.1
        have x7 := ix_nat (ds := s.ends) (i := m) (by rw [h1]; exact hw.1)
        have x8 := isN_go (s.ends.getD m .none)
        have x9 : L2.ixN s.ends.length ((n : Nat) : Int) = some n := ixN_go (by rw [h1]; exact hw.2)
        refine ⟨⟨[some (.bor 0), some (.val (.list t)), some (.own (.lst s.ends)), some (.own (.lst (s.ops.map opD))), some (.val (.str (sN [48 + n, 62, 38, 48 + m]))), b, c], [.live (.lst (ws.map wD))]⟩, rfl, ?_⟩
        unfold playF
        dsimp only
        cases hb : isN' (s.ends.getD m .none) with
        | true =>
          rw [if_pos rfl]
          rw [hb] at x8
          apply EndX.rt
          within_ways
          exact ⟨rfl, _, rfl⟩
        | false =>
          rw [if_neg (by decide)]
          rw [hb] at x8
          apply EndX.nx
          within_ways
          exact ⟨by omega, by omega, _, _, _, by simp only [Wd.go]; rfl⟩
      | cl n =>
        have hz : [48 + n, 62, 38, 45].length ≤ sizeLine := sz_ok rfl
        have x0 : gIx (.str (sN [48 + n, 62, 38, 45])) (.int 0) = some (.val (.str (sN [48 + n]))) := ix_sN (i := 0) hz rfl
        have x1 := dig_int n hw
        have x2 : gSl (.str (sN [48 + n, 62, 38, 45])) (some 2) none = some (.val (.str (sN [38, 45]))) := sl_sN (i := 2) hz (by simp)
        have x9 : L2.ixN s.ends.length ((n : Nat) : Int) = some n := ixN_go (by rw [h1]; exact hw)
        refine ⟨⟨[some (.bor 0), some (.val (.list t)), some (.own (.lst s.ends)), some (.own (.lst (s.ops.map opD))), some (.val (.str (sN [48 + n, 62, 38, 45]))), b, c], [.live (.lst (ws.map wD))]⟩, rfl, ?_⟩
        apply EndX.nx
        within_ways
        exact ⟨by omega, by omega, _, _, _, by simp only [Wd.go]; rfl⟩
      | op n gt nm =>
        have hz : ((48 + n) :: (if gt = true then 62 else 60) :: nm).length ≤ sizeLine := Nat.le_trans (show nm.length + 1 + 1 ≤ 10 by have := hw.2.2.1; omega) (by decide)
        have x0 : gIx (.str (sN ((48 + n) :: (if gt = true then 62 else 60) :: nm))) (.int 0) = some (.val (.str (sN [48 + n]))) := ix_sN (i := 0) hz rfl
        have x1 := dig_int n hw.1
        have x2 : gSl (.str (sN ((48 + n) :: (if gt = true then 62 else 60) :: nm))) (some 2) none = some (.val (.str (sN nm))) := sl_sN (i := 2) hz (by simp)
        have x3 := rest_op hw.2
        obtain ⟨c0, x4, x5⟩ := first_op hw.2
        have x6 : gIx (.str (sN ((48 + n) :: (if gt = true then 62 else 60) :: nm))) (.int 1) = some (.val (.str (sN [if gt = true then 62 else 60]))) := ix_sN (i := 1) hz rfl
        have x7 : uApp (s.ops.map opD) [opD (gt, nm)] = some (s.ops.map opD ++ [opD (gt, nm)], .none) := app_go (by rw [List.length_map]; exact Nat.lt_of_lt_of_le (show s.ops.length < 1001 by omega) (by decide))
        have x9 : L2.ixN s.ends.length ((n : Nat) : Int) = some n := ixN_go (by rw [h1]; exact hw.1)
        refine ⟨⟨[some (.bor 0), some (.val (.list t)), some (.own (.lst s.ends)), some (.own (.lst (s.ops.map opD))), some (.val (.str (sN ((48 + n) :: (if gt = true then 62 else 60) :: nm)))), b, c], [.live (.lst (ws.map wD))]⟩, rfl, ?_⟩
        apply EndX.nx
        within_ways
        exact ⟨by omega, by omega, _, _, _, by simp only [Wd.go, List.map_append, List.map_cons, List.map_nil]; rfl⟩)
  unfold playW
  cases hp : foldX playF (⟨t, [], []⟩ : Rs) ws with
  | ok s =>
    rw [hp] at lp
    obtain ⟨r', e1, _, _, a, b, c, e2⟩ := lp
    subst e2
    refine run_go rfl (by dict_keeps) (by delta b__law_played; within_ways) rfl
  | error m =>
    rw [hp] at lp
    obtain ⟨v, r', e1, rfl, vs, e2⟩ := lp
    subst e2
    refine run_go rfl (by dict_keeps) (by delta b__law_played; within_ways) rfl
end Lw

/-! Ru10.lean -/
set_option Elab.async false
set_option linter.all false
set_option maxRecDepth 100000
namespace Lw
open PySem L2 Mi
local macro_rules
  | `(tactic| grows_one) => `(tactic| first
    | with_reducible exact frz_v
    | with_reducible exact frz_o
    | (with_reducible apply frz_s); exact rfl; dict_keeps
    | (with_reducible apply frz_d); exact rfl
    | (with_reducible apply frz_b); exact rfl; dict_keeps
    | exact rfl)
local macro_rules
  | `(tactic| sizeOf_list_dec) => `(tactic| first
    | with_reducible exact ags_nil
    | (with_reducible apply ags_val); sizeOf_list_dec
    | (with_reducible apply ags_own); sizeOf_list_dec
    | (with_reducible apply ags_at); exact rfl; sizeOf_list_dec
    | (with_reducible apply ags_dead); exact rfl; sizeOf_list_dec)
local macro_rules
  | `(tactic| dict_keeps) => `(tactic| first | (simp only [Mi.put, entry, entVs, entOs, List.length_cons, List.length_nil, Nat.reduceAdd, Nat.reduceSub, List.replicate_succ, List.replicate_zero, List.cons_append, List.nil_append, List.set_cons_zero, List.set_cons_succ, setsV_nil, setsV_cons] <;> exact rfl) | exact rfl)
local macro_rules
  | `(tactic| left) => `(tactic| first
    | with_reducible assumption
    | with_reducible exact k_go
    | (with_reducible apply nm_val); exact rfl
    | (with_reducible apply nm_own); exact rfl
    | (with_reducible apply nm_bor); exact rfl
    | with_reducible exact nilL_go
    | with_reducible exact nilR_go
    | with_reducible exact yes_go
    | with_reducible exact dnew_go
    | (with_reducible apply bin_go'); left; left; exact rfl; exact rfl; right
    | (with_reducible apply un_go'); left; exact rfl; right
    | (with_reducible apply consL_go); left; grows_one; left
    | (with_reducible apply tup_go); left; exact sz_ok rfl
    | (with_reducible apply lst_go); left; exact sz_ok rfl
    | (with_reducible apply consR_go); left; left
    | (with_reducible apply call_go0); left; sizeOf_list_dec; right; exact rfl
    | (with_reducible apply call_go1); left; sizeOf_list_dec; right; dict_keeps
    | (with_reducible apply call_go2); left; sizeOf_list_dec; right; dict_keeps
    | (with_reducible apply call_go); left; sizeOf_list_dec; exact rfl; right; exact rfl
    | (with_reducible apply fz_go); left; grows_one
    | (with_reducible apply mut_go'); exact rfl; left; exact rfl; exact ⟨_, rfl⟩; right; dict_keeps
    | (with_reducible apply mut_goB); exact rfl; exact rfl; left; exact rfl; right; dict_keeps
    | (with_reducible apply met_go); left; exact rfl; left; exact rfl; right
    | (with_reducible apply sl0_go); left; exact rfl; right
    | (with_reducible apply slL_go); left; left; exact rfl; exact rfl; right
    | (with_reducible apply slH_go); left; left; exact rfl; exact rfl; right
    | (with_reducible apply slLH_go); left; left; exact rfl; left; exact rfl; exact rfl; right
    | (with_reducible apply rep_go); left; left; exact rfl; exact ⟨by decide, sz_ok rfl⟩
    | (with_reducible apply lrg_go); left; exact rfl; decide
    | (with_reducible apply tB_go); left; exact rfl
    | (with_reducible apply tT_go); left; exact rfl; right
    | (with_reducible apply and_go); left; intro _; left
    | (with_reducible apply or_go); left; intro _; left
    | (with_reducible apply not_go); left
    | (with_reducible apply andE_go); left; exact rfl; intro _; left
    | (with_reducible apply orE_go); left; exact rfl; intro _; left
    | (with_reducible apply notE_go); left; exact rfl
    | (with_reducible apply ch_go); left; left; exact rfl; exact rfl; right; left; exact rfl; right)
local macro_rules
  | `(tactic| within_ways) => `(tactic| first
    | with_reducible assumption
    | with_reducible exact nx_go
    | (with_reducible apply seq_any); within_ways; (first | with_reducible exact seqO_rt | ((with_reducible apply seqO_nx); within_ways))
    | (with_reducible apply set_any); left; (first | with_reducible exact slotR_val | with_reducible exact slotR_own); dict_keeps
    | (with_reducible apply ret_go); left
    | (with_reducible apply drop_go); left
    | (with_reducible apply if_st); left; (first | (refine Or.inl ⟨?_, ?_⟩; infer_instance; within_ways) | (refine Or.inr ⟨?_, ?_⟩; infer_instance; within_ways))
    | (with_reducible apply unp_go'); left; exact rfl; exact rfl; dict_keeps
    | (with_reducible apply unl_go'); left; exact rfl; grows_one; exact rfl; dict_keeps
    | (with_reducible apply sto_go'); left; grows_one; exact ⟨_, rfl⟩; left; exact rfl; exact rfl; right; dict_keeps; dict_keeps
    | (with_reducible apply sto_goB); left; grows_one; exact rfl; left; exact rfl; exact rfl; right; dict_keeps; dict_keeps
    | (with_reducible apply par_go'); left; exact rfl; exact rfl; exact rfl; exact rfl; dict_keeps
    | (with_reducible apply aug_go'); exact rfl; left; exact rfl; dict_keeps
    | (with_reducible apply set_go); left; exact rfl)
local macro_rules
  | `(tactic| infer_instance) => `(tactic| first
    | with_reducible exact rfl
    | with_reducible assumption
    | (first
      | decide +kernel
      | (simp only [decide_eq_true_eq, decide_eq_false_iff_not, Bool.and_eq_true, Bool.or_eq_true, Bool.or_eq_false_iff, Bool.and_eq_false_iff, Bool.not_eq_true', Bool.not_eq_false', Bool.not_true, Bool.not_false, Bool.or_true, Bool.true_or, Bool.and_false, Bool.false_and, Bool.or_false, Bool.false_or, Bool.and_true, Bool.true_and, and_true, true_and]; first | done | assumption | omega)))
local macro_rules
  | `(tactic| right) => `(tactic| first
    | with_reducible assumption
    | with_reducible exact eq_sS _ _
    | with_reducible exact ne_sS _ _
    | with_reducible exact ix_t0
    | with_reducible exact ix_t1
    | with_reducible exact ix_t2
    | with_reducible exact ix_l0
    | with_reducible exact ix_l1
    | with_reducible exact ix_l2
    | with_reducible exact add_ii
    | with_reducible exact sub_ii
    | with_reducible exact appL_go rfl
    | with_reducible exact add_sN' rfl
    | with_reducible exact isn_n
    | with_reducible exact isn_i
    | with_reducible exact isn_s
    | with_reducible exact isn_l
    | with_reducible exact isn_t
    | with_reducible exact isnt_n
    | with_reducible exact isnt_i
    | with_reducible exact isnt_s
    | with_reducible exact isnt_l
    | with_reducible exact isnt_t
    | with_reducible exact truth_b
    | with_reducible exact list_go
    | with_reducible exact tuple_go
    | with_reducible exact tuplet_go
    | exact rfl)
theorem run_form {ws : List Wd} (h : ∀ w ∈ ws, w.Ok) (hl : ws.length ≤ 1000) :
    G__law_form [.ref (.lst (ws.map wD))] = .ret (.val (formL ws)) [.live (.lst (ws.map wD))] := by
  have l1 : lcE (rng1 (kE (.int 10))) (fun d r => some (put r 1 (.val d))) [1] (yesB) (tupE (consL (kE (.str "old")) (consL (nmE 1) (nilL)))) ⟨[some (.bor 0), none, none, none, none, none, none], [.live (.lst (ws.map wD))]⟩ = .ok (.own (.lst olds)) ⟨[some (.bor 0), none, none, none, none, none, none], [.live (.lst (ws.map wD))]⟩ :=
    lcE_rngY (n := 10) rfl (by decide) rfl rfl rfl rfl oldD fun i hi => ⟨_, rfl, rfl, by apply fzv_ok; left; rfl⟩
  have p0 := run_played h hl (t := olds) (by simp [olds])
  unfold formL
  show _ = FR.ret (.val (match playW ws s0 with | .error _ => .none | .ok s => _)) _
  cases hp : playW ws s0 with
  | error m =>
    have hp' : playW ws ⟨olds, [], []⟩ = .error m := hp
    rw [hp'] at p0
    dsimp only at p0
    refine run_go rfl (by dict_keeps) (by delta b__law_form; within_ways) rfl
  | ok s =>
    have hp' : playW ws ⟨olds, [], []⟩ = .ok s := hp
    rw [hp'] at p0
    dsimp only at p0
    have lp : ∀ e0 : En, e0 = ⟨[some (.bor 0), none, some (.val (.list olds)), some (.val (.list s.ends)), some (.val (.list (s.ops.map opD))), some (.val .none), some (.own (.lst []))], [.live (.lst (ws.map wD))]⟩ → ∃ a, forS (rng1 (kE (.int 10))) (fun d r => some (put r 1 (.val d))) (ifS (tstB (binE gIsntN (binE gIx (callE G__law_played (consR (nmE 0) (consR (fzE (binE gAdd (binE gAdd (slE (nmE 2) none (some (nmE 1))) (lstE (consL (kE .none) (nilL)))) (slE (nmE 2) (some (binE gAdd (nmE 1) (kE (.int 1)))) none))) (nilR)))) (kE (.int 2))) (kE .none))) (dropS (mutE 6 uApp (consL (nmE 1) (nilL)))) (nxS)) e0 = .nx ⟨[some (.bor 0), a, some (.val (.list olds)), some (.val (.list s.ends)), some (.val (.list (s.ops.map opD))), some (.val .none), some (.own (.lst ((needsL ws).map fun i => .int ((i : Nat) : Int))))], [.live (.lst (ws.map wD))]⟩ := by
      rintro _ rfl
      have lp := forS_rng (ρ := Unit) (n := 10) (e := kE (.int 10)) (tg := fun d r => some (put r 1 (.val d))) (r := ⟨[some (.bor 0), none, some (.val (.list olds)), some (.val (.list s.ends)), some (.val (.list (s.ops.map opD))), some (.val .none), some (.own (.lst []))], [.live (.lst (ws.map wD))]⟩) (s0 := ([] : List Nat))
        (fun i acc r => acc.length ≤ i ∧ ∃ a, r = ⟨[some (.bor 0), a, some (.val (.list olds)), some (.val (.list s.ends)), some (.val (.list (s.ops.map opD))), some (.val .none), some (.own (.lst (acc.map fun i => .int ((i : Nat) : Int))))], [.live (.lst (ws.map wD))]⟩) (fun _ _ _ => False) (fun acc i => .ok (if errB ws i = true then acc ++ [i] else acc)) rfl (by decide) ⟨Nat.le_refl _, _, rfl⟩
        (bd := ifS (tstB (binE gIsntN (binE gIx (callE G__law_played (consR (nmE 0) (consR (fzE (binE gAdd (binE gAdd (slE (nmE 2) none (some (nmE 1))) (lstE (consL (kE .none) (nilL)))) (slE (nmE 2) (some (binE gAdd (nmE 1) (kE (.int 1)))) none))) (nilR)))) (kE (.int 2))) (kE .none))) (dropS (mutE 6 uApp (consL (nmE 1) (nilL)))) (nxS))
        (fun acc r i ⟨h1, a, e⟩ hi => by
          subst e
          refine ⟨⟨[some (.bor 0), some (.val (.int (i : Int))), some (.val (.list olds)), some (.val (.list s.ends)), some (.val (.list (s.ops.map opD))), some (.val .none), some (.own (.lst (acc.map fun i => .int ((i : Nat) : Int))))], [.live (.lst (ws.map wD))]⟩, rfl, ?_⟩
          have lo : olds.length = 10 := by simp [olds]
          have a0 : gAdd (.int (i : Int)) (.int 1) = some (.val (.int ((i + 1 : Nat) : Int))) := add_natR i 1
          have x1 := sl_take (xs := olds) (i := i) (by omega)
          have x2 := sl_drop (xs := olds) (i := i + 1) (by omega)
          have x3 := appL (xs := olds.take i) (ys := [.none]) (by simp [lo]; omega)
          have x4 := appL (xs := olds.take i ++ [.none]) (ys := olds.drop (i + 1)) (by simp [lo]; omega)
          have x5 := run_played h hl (t := olds.take i ++ [.none] ++ olds.drop (i + 1)) (by simp [lo]; omega)
          have hE : errB ws i = match playW ws ⟨olds.take i ++ [.none] ++ olds.drop (i + 1), [], []⟩ with | .ok _ => false | .error _ => true := rfl
          cases hq : playW ws ⟨olds.take i ++ [.none] ++ olds.drop (i + 1), [], []⟩ with
          | ok s' =>
            rw [hq] at x5 hE
            dsimp only at x5 hE
            rw [hE, if_neg (by decide)]
            apply EndX.nx
            within_ways
            exact ⟨by omega, _, rfl⟩
          | error m =>
            rw [hq] at x5 hE
            dsimp only at x5 hE
            rw [hE, if_pos rfl]
            have x6 : uApp (acc.map fun i => .int ((i : Nat) : Int)) [.int (i : Int)] = some ((acc.map fun i => .int ((i : Nat) : Int)) ++ [.int (i : Int)], .none) := app_go (by rw [List.length_map]; exact Nat.lt_of_lt_of_le (show acc.length < 11 by omega) (by decide))
            apply EndX.nx
            within_ways
            exact ⟨by rw [List.length_append, List.length_singleton]; omega, _, by simp only [List.map_append, List.map_cons, List.map_nil] <;> rfl⟩)
      rw [foldX_ok, foldl_filter] at lp
      obtain ⟨r', e1, _, a, e2⟩ := lp
      subst e2
      exact ⟨a, e1⟩
    obtain ⟨a, lp⟩ := lp _ rfl
    refine run_go rfl (by dict_keeps) (by delta b__law_form; within_ways) rfl
end Lw

/-! Rr1.lean -/
set_option Elab.async false
set_option linter.all false
set_option maxRecDepth 100000
namespace Lw
open PySem L2 Mi
local macro_rules
  | `(tactic| grows_one) => `(tactic| first
    | with_reducible exact frz_v
    | with_reducible exact frz_o
    | (with_reducible apply frz_s); exact rfl; dict_keeps
    | (with_reducible apply frz_d); exact rfl
    | (with_reducible apply frz_b); exact rfl; dict_keeps
    | exact rfl)
local macro_rules
  | `(tactic| sizeOf_list_dec) => `(tactic| first
    | with_reducible exact ags_nil
    | (with_reducible apply ags_val); sizeOf_list_dec
    | (with_reducible apply ags_own); sizeOf_list_dec
    | (with_reducible apply ags_at); exact rfl; sizeOf_list_dec
    | (with_reducible apply ags_dead); exact rfl; sizeOf_list_dec)
local macro_rules
  | `(tactic| dict_keeps) => `(tactic| first | (simp only [Mi.put, entry, entVs, entOs, List.length_cons, List.length_nil, Nat.reduceAdd, Nat.reduceSub, List.replicate_succ, List.replicate_zero, List.cons_append, List.nil_append, List.set_cons_zero, List.set_cons_succ, setsV_nil, setsV_cons] <;> exact rfl) | exact rfl)
local macro_rules
  | `(tactic| left) => `(tactic| first
    | with_reducible assumption
    | with_reducible exact k_go
    | (with_reducible apply nm_val); exact rfl
    | (with_reducible apply nm_own); exact rfl
    | (with_reducible apply nm_bor); exact rfl
    | with_reducible exact nilL_go
    | with_reducible exact nilR_go
    | with_reducible exact yes_go
    | with_reducible exact dnew_go
    | (with_reducible apply bin_go'); left; left; exact rfl; exact rfl; right
    | (with_reducible apply un_go'); left; exact rfl; right
    | (with_reducible apply consL_go); left; grows_one; left
    | (with_reducible apply tup_go); left; exact sz_ok rfl
    | (with_reducible apply lst_go); left; exact sz_ok rfl
    | (with_reducible apply consR_go); left; left
    | (with_reducible apply call_go0); left; sizeOf_list_dec; right; exact rfl
    | (with_reducible apply call_go1); left; sizeOf_list_dec; right; dict_keeps
    | (with_reducible apply call_go2); left; sizeOf_list_dec; right; dict_keeps
    | (with_reducible apply call_go); left; sizeOf_list_dec; exact rfl; right; exact rfl
    | (with_reducible apply fz_go); left; grows_one
    | (with_reducible apply mut_go'); exact rfl; left; exact rfl; exact ⟨_, rfl⟩; right; dict_keeps
    | (with_reducible apply mut_goB); exact rfl; exact rfl; left; exact rfl; right; dict_keeps
    | (with_reducible apply met_go); left; exact rfl; left; exact rfl; right
    | (with_reducible apply sl0_go); left; exact rfl; right
    | (with_reducible apply slL_go); left; left; exact rfl; exact rfl; right
    | (with_reducible apply slH_go); left; left; exact rfl; exact rfl; right
    | (with_reducible apply slLH_go); left; left; exact rfl; left; exact rfl; exact rfl; right
    | (with_reducible apply rep_go); left; left; exact rfl; exact ⟨by decide, sz_ok rfl⟩
    | (with_reducible apply lrg_go); left; exact rfl; decide
    | (with_reducible apply tB_go); left; exact rfl
    | (with_reducible apply tT_go); left; exact rfl; right
    | (with_reducible apply and_go); left; intro _; left
    | (with_reducible apply or_go); left; intro _; left
    | (with_reducible apply not_go); left
    | (with_reducible apply andE_go); left; exact rfl; intro _; left
    | (with_reducible apply orE_go); left; exact rfl; intro _; left
    | (with_reducible apply notE_go); left; exact rfl
    | (with_reducible apply ch_go); left; left; exact rfl; exact rfl; right; left; exact rfl; right)
local macro_rules
  | `(tactic| within_ways) => `(tactic| first
    | with_reducible assumption
    | with_reducible exact nx_go
    | (with_reducible apply seq_any); within_ways; (first | with_reducible exact seqO_rt | ((with_reducible apply seqO_nx); within_ways))
    | (with_reducible apply set_any); left; (first | with_reducible exact slotR_val | with_reducible exact slotR_own); dict_keeps
    | (with_reducible apply ret_go); left
    | (with_reducible apply drop_go); left
    | (with_reducible apply if_st); left; (first | (refine Or.inl ⟨?_, ?_⟩; infer_instance; within_ways) | (refine Or.inr ⟨?_, ?_⟩; infer_instance; within_ways))
    | (with_reducible apply unp_go'); left; exact rfl; exact rfl; dict_keeps
    | (with_reducible apply unl_go'); left; exact rfl; grows_one; exact rfl; dict_keeps
    | (with_reducible apply sto_go'); left; grows_one; exact ⟨_, rfl⟩; left; exact rfl; exact rfl; right; dict_keeps; dict_keeps
    | (with_reducible apply sto_goB); left; grows_one; exact rfl; left; exact rfl; exact rfl; right; dict_keeps; dict_keeps
    | (with_reducible apply par_go'); left; exact rfl; exact rfl; exact rfl; exact rfl; dict_keeps
    | (with_reducible apply aug_go'); exact rfl; left; exact rfl; dict_keeps
    | (with_reducible apply set_go); left; exact rfl)
local macro_rules
  | `(tactic| infer_instance) => `(tactic| first
    | with_reducible exact rfl
    | with_reducible assumption
    | (first
      | decide +kernel
      | (simp only [decide_eq_true_eq, decide_eq_false_iff_not, Bool.and_eq_true, Bool.or_eq_true, Bool.or_eq_false_iff, Bool.and_eq_false_iff, Bool.not_eq_true', Bool.not_eq_false', Bool.not_true, Bool.not_false, Bool.or_true, Bool.true_or, Bool.and_false, Bool.false_and, Bool.or_false, Bool.false_or, Bool.and_true, Bool.true_and, and_true, true_and]; first | done | assumption | omega)))
local macro_rules
  | `(tactic| right) => `(tactic| first
    | with_reducible assumption
    | with_reducible exact eq_sS _ _
    | with_reducible exact ne_sS _ _
    | with_reducible exact ix_t0
    | with_reducible exact ix_t1
    | with_reducible exact ix_t2
    | with_reducible exact ix_l0
    | with_reducible exact ix_l1
    | with_reducible exact ix_l2
    | with_reducible exact add_ii
    | with_reducible exact sub_ii
    | with_reducible exact appL_go rfl
    | with_reducible exact add_sN' rfl
    | with_reducible exact isn_n
    | with_reducible exact isn_i
    | with_reducible exact isn_s
    | with_reducible exact isn_l
    | with_reducible exact isn_t
    | with_reducible exact isnt_n
    | with_reducible exact isnt_i
    | with_reducible exact isnt_s
    | with_reducible exact isnt_l
    | with_reducible exact isnt_t
    | with_reducible exact truth_b
    | with_reducible exact list_go
    | with_reducible exact tuple_go
    | with_reducible exact tuplet_go
    | exact rfl)
theorem run_is_list_ref (ds : List PyData) : G_is_list [.ref (.lst ds)] = .ret (.val (.bool true)) [.live (.lst ds)] := by
  refine run_go rfl (by dict_keeps) (by delta b_is_list; within_ways) rfl
theorem run_check_words_ref {ws : List Wd} (h : ∀ w ∈ ws, w.Ok) (hl : ws.length ≤ 40) : G_check_words [.ref (.lst (ws.map wD))] = .ret (.val .none) [.live (.lst (ws.map wD))] := by
  have q1 := run_is_list_ref (ws.map wD)
  have q2 : gGt (.int (((ws.map wD).length : Nat) : Int)) (.int 40) = some (.val (.bool false)) := by
    show some (Rv.val (PyData.bool (decide _))) = _
    rw [decide_eq_false (by rw [List.length_map]; omega)]
  have q3 : gLen (.list (ws.map wD)) = some (.val (.int (((ws.map wD).length : Nat) : Int))) := rfl
  have lp := forS_enu (ρ := Unit) (e := nmE 0) (tg := tgTup [1, 2]) (bd := ifS (tstB (binE gIsN (callE G_redirection_step (consR (nmE 2) (nilR))) (kE .none))) ((fun _ => .no)) (nxS)) (r := ⟨[some (.bor 0), none, none], [.live (.lst (ws.map wD))]⟩) ws wD (s0 := ())
    (fun _ _ r => ∃ a b, r = ⟨[some (.bor 0), a, b], [.live (.lst (ws.map wD))]⟩) (fun _ _ _ => False) (fun _ _ => .ok ()) (nm_bor rfl) rfl rfl ⟨_, _, rfl⟩ (fun _ _ r ⟨a, b, e⟩ => by rw [e]; rfl)
    (fun _ r i w ⟨a, b, e⟩ hw => by
      subst e
      refine ⟨⟨[some (.bor 0), some (.val (.int (i : Int))), some (.val (wD w))], [.live (.lst (ws.map wD))]⟩, rfl, ?_⟩
      have q := run_step (h w (List.mem_of_getElem? hw))
      have q4 : gIsN (stepD w) .none = some (.val (.bool false)) := by cases w <;> rfl
      apply EndX.nx
      within_ways
      exact ⟨_, _, rfl⟩)
  rw [foldX_ok] at lp
  obtain ⟨r', e1, a, b, e2⟩ := lp
  subst e2
  refine run_go rfl (by dict_keeps) (by delta b_check_words; within_ways) rfl
theorem run_run_words_ref {ws : List Wd} (h : ∀ w ∈ ws, w.Ok) (hl : ws.length ≤ 1000) {t : List PyData} (ht : t.length = 10) :
    G_run_words [.ref (.lst (ws.map wD)), .val (.list t)] = .ret (.val (.tuple [.list (runW ws ⟨t, [], []⟩).ends, .list ((runW ws ⟨t, [], []⟩).ops.map opD), .list ((runW ws ⟨t, [], []⟩).cps.map cpD)])) [.live (.lst (ws.map wD))] := by
  have lp := forS_seq (ρ := Unit) (e := nmE 0) (tg := fun d r => some (put r 5 (.val d))) (r := ⟨[some (.bor 0), some (.val (.list t)), some (.own (.lst t)), some (.own (.lst [])), some (.own (.lst [])), none, none, none], [.live (.lst (ws.map wD))]⟩) ws wD (s0 := (⟨t, [], []⟩ : Rs))
    (fun i s r => s.ends.length = 10 ∧ s.ops.length ≤ i ∧ s.cps.length ≤ i ∧ ∃ a b c, r = ⟨[some (.bor 0), some (.val (.list t)), some (.own (.lst s.ends)), some (.own (.lst (s.ops.map opD))), some (.own (.lst (s.cps.map cpD))), a, b, c], [.live (.lst (ws.map wD))]⟩) (fun _ _ _ => False) (fun s w => .ok (w.go s)) (nm_bor rfl) rfl rfl
    ⟨ht, by simp, by simp, _, _, _, rfl⟩ (fun _ s r ⟨_, _, _, a, b, c, e⟩ => by rw [e]; rfl)
    (bd := (seqS (setS 6 (callE G_redirection_step (consR (nmE 5) (nilR)))) <| seqS (setS 7 (tupE (nilL))) <| seqS (ifS (tstB (binE gEq (binE gIx (nmE 6) (kE (.int 0))) (kE (.str "open")))) (seqS (setS 7 (tupE (consL (tupE (consL (kE (.str "new")) (consL (unE gLen (nmE 3)) (nilL)))) (nilL)))) <| dropS (mutE 3 uApp (consL (tupE (consL (binE gIx (nmE 5) (kE (.int 1))) (consL (binE gIx (nmE 6) (kE (.int 2))) (nilL)))) (nilL)))) (nxS)) <| seqS (ifS (tstB (binE gEq (binE gIx (nmE 6) (kE (.int 0))) (kE (.str "copy")))) (dropS (mutE 4 uApp (consL (tupE (consL (binE gIx (nmE 6) (kE (.int 1))) (consL (binE gIx (nmE 2) (binE gIx (nmE 6) (kE (.int 1)))) (nilL)))) (nilL)))) (nxS)) <| setS 2 (callE G_table_behind (consR (fzE (nmE 2)) (consR (nmE 6) (consR (nmE 7) (nilR)))))))
    (fun s r i w ⟨h1, h2, h3, a, b, c, e⟩ hi => by
      subst e
      refine ⟨⟨[some (.bor 0), some (.val (.list t)), some (.own (.lst s.ends)), some (.own (.lst (s.ops.map opD))), some (.own (.lst (s.cps.map cpD))), some (.val (wD w)), b, c], [.live (.lst (ws.map wD))]⟩, rfl, ?_⟩
      have hw := h w (List.mem_of_getElem? hi)
      have hlt := (List.getElem?_eq_some_iff.mp hi).1
      have k1 := go_len w s
      have k2 := go_ops w s
      have k3 := go_cps w s
      have z : (16777216 : Nat) = sizeLine := by decide
      have q := run_step hw
      have q2 := run_behind hw h1 s rfl
      have q3 : gLen (.list (s.ops.map opD)) = some (.val (.int ((s.ops.length : Nat) : Int))) := by
        show some (vI (((s.ops.map opD).length : Nat) : Int)) = _
        rw [List.length_map]
      cases w with
      | cp m n =>
        have e1 := ix_nat (ds := s.ends) (i := m) (by rw [h1]; exact hw.1)
        have e3 : uApp (s.cps.map cpD) [.tuple [.int ((m : Nat) : Int), s.ends.getD m .none]] = some (s.cps.map cpD ++ [.tuple [.int ((m : Nat) : Int), s.ends.getD m .none]], .none) := app_go (by rw [List.length_map]; omega)
        apply EndX.nx
        within_ways
        exact ⟨by omega, by omega, by omega, _, _, _, by simp only [Wd.go, List.map_append, List.map_cons, List.map_nil]; rfl⟩
      | cl n =>
        apply EndX.nx
        within_ways
        exact ⟨by omega, by omega, by omega, _, _, _, by simp only [Wd.go, List.map_append, List.map_cons, List.map_nil]; rfl⟩
      | op n gt nm =>
        have hz : ((48 + n) :: (if gt = true then 62 else 60) :: nm).length ≤ sizeLine := Nat.le_trans (show nm.length + 1 + 1 ≤ 10 by have := hw.2.2.1; omega) (by decide)
        have e4 : gIx (wD (.op n gt nm)) (.int 1) = some (.val (.str (sN [if gt = true then 62 else 60]))) := ix_sN (i := 1) hz rfl
        have e3 : uApp (s.ops.map opD) [opD (gt, nm)] = some (s.ops.map opD ++ [opD (gt, nm)], .none) := app_go (by rw [List.length_map]; omega)
        apply EndX.nx
        within_ways
        exact ⟨by omega, by omega, by omega, _, _, _, by simp only [Wd.go, List.map_append, List.map_cons, List.map_nil]; rfl⟩)
  rw [foldX_ok] at lp
  obtain ⟨r', e1, _, _, _, a, b, c, e2⟩ := lp
  subst e2
  refine run_go rfl (by dict_keeps) (by delta b_run_words; within_ways) rfl
theorem run_form_of_ref {ws : List Wd} (h : ∀ w ∈ ws, w.Ok) (hl : ws.length ≤ 1000) : G_form_of [.ref (.lst (ws.map wD))] = .ret (.val (formP ws)) [.live (.lst (ws.map wD))] := by
  have ok := s0_ok.run h
  have hq := run_run_words_ref h hl (t := olds) (by simp [olds])
  have hc := runW_cps ws s0
  have ho := runW_ops ws s0
  generalize hs : runW ws s0 = s at ok hq hc ho
  simp only [List.length_nil, Nat.zero_add] at hc ho
  have l1 : lcE (rng1 (kE (.int 10))) (fun d r => some (put r 8 (.val d))) [8] (yesB) (tupE (consL (kE (.str "old")) (consL (nmE 8) (nilL)))) ⟨[some (.bor 0), none, none, none, none, none, none, none, none], [.live (.lst (ws.map wD))]⟩ = .ok (.own (.lst olds)) ⟨[some (.bor 0), none, none, none, none, none, none, none, none], [.live (.lst (ws.map wD))]⟩ :=
    lcE_rngY (n := 10) rfl (by decide) rfl rfl rfl rfl oldD fun i hi => ⟨_, rfl, rfl, by apply fzv_ok; left; rfl⟩
  have nn : ∀ d ∈ s.cps.map (·.2), EndOk d := fun d hd => by
    obtain ⟨c, hc, rfl⟩ := List.mem_map.mp hd
    exact ok.cps c hc
  have q0 := none_in nn
  have hf : formP ws = if failsW s = true then .none else formD s := by
    unfold formP formO
    rw [hs]
    split <;> (split <;> simp_all)
  have l2 : ∀ e1 : En, e1 = ⟨[some (.bor 0), some (.val (.list s.ends)), some (.val (.list (s.ops.map opD))), some (.val (.list (s.cps.map cpD))), none, none, none, none, none], [.live (.lst (ws.map wD))]⟩ → lcE (seqI (nmE 3)) (tgTup [6, 7]) [6, 7] (yesB) (nmE 7) e1 = .ok (.own (.lst (s.cps.map (·.2)))) e1 := by
    rintro _ rfl
    apply lcE_seqY (q := fun c => c.2) s.cps cpD
    exact rfl; exact rfl; exact rfl; exact rfl; exact Nat.le_trans (Nat.le_trans hc hl) (by decide); exact rfl; exact rfl; exact rfl; exact rfl
    intro c hc
    refine ⟨_, rfl, rfl, ?_⟩
    apply fzv_ok
    left
    rfl
  have l2 := l2 _ rfl
  cases hb : failsW s with
  | true =>
    rw [hb] at hf
    rw [hf]
    unfold failsW at hb
    rw [hb] at q0
    refine run_go rfl (by dict_keeps) (by delta b_form_of; within_ways) rfl
  | false =>
    rw [hb] at hf
    rw [hf]
    have hb' := hb
    unfold failsW at hb'
    rw [hb'] at q0
    have l3 : ∀ e1 e2 : En, e1 = ⟨[some (.bor 0), some (.val (.list s.ends)), some (.val (.list (s.ops.map opD))), some (.val (.list (s.cps.map cpD))), some (.own (.lst (s.cps.map (·.2)))), none, none, none, none], [.live (.lst (ws.map wD))]⟩ → e2 = ⟨[some (.bor 0), some (.val (.list s.ends)), some (.val (.list (s.ops.map opD))), some (.val (.list (s.cps.map cpD))), some (.val (.list (s.cps.map (·.2)))), none, none, none, none], [.live (.lst (ws.map wD))]⟩ →
        lcE (seqI (nmE 4)) (fun d r => some (put r 7 (.val d))) [7] (tstB (binE gEq (binE gIx (nmE 7) (kE (.int 0))) (kE (.str "old")))) (intE (binE gIx (nmE 7) (kE (.int 1)))) e1 = .ok (.own (.lst ((s.cps.filter fun c => isOld c.2).map fun c => .int (oldIx c.2)))) e2 := by
      rintro _ _ rfl rfl
      apply lcE_seq (c := fun c => isOld c.2) (q := fun c => .int (oldIx c.2)) s.cps (fun c => c.2)
      left; exact rfl; exact rfl; exact rfl; exact Nat.le_trans (Nat.le_trans hc hl) (by decide); exact rfl; exact rfl; exact rfl; exact rfl
      intro c hcm
      have hd := ok.cps c hcm
      have hn : isN' c.2 = false := by
        have := List.any_eq_false.mp hb' c.2 (List.mem_map.mpr ⟨c, hcm, rfl⟩)
        simpa using this
      obtain ⟨c1, c2⟩ := c
      dsimp only at hd hn ⊢
      rcases hd with e | ⟨m, hm, e⟩ | ⟨m, e⟩
      · rw [e] at hn; cases hn
      · subst e
        refine ⟨_, rfl, ?_⟩
        apply lc_step
        left
        · simp
        · exact rfl
        intro _
        apply int_ok
        left
        exact rfl
        exact rfl
      · subst e
        refine ⟨_, rfl, ?_⟩
        apply lc_step
        left
        · rw [isOld_new]; exact decide_eq_false new_ne_old
        · exact rfl
        intro q
        rw [isOld_new] at q
        cases q
    have hn2 : (s.cps.filter fun c => isOld c.2).map (fun c => PyData.int (oldIx c.2)) = (((s.cps.map (·.2)).filter isOld).map oldIx).map PyData.int := by
      rw [List.filter_map, List.map_map, List.map_map]; rfl
    have l3 := l3 _ _ rfl rfl
    rw [hn2] at l3
    have hlen : (((s.cps.map (·.2)).filter isOld).map oldIx).length ≤ ws.length := by
      rw [List.length_map]
      exact Nat.le_trans (List.length_filter_le _ _) (by rw [List.length_map]; exact hc)
    have hlen2 : (needsW s).length ≤ 10 := needs_len ok
    have l4 := ssE_of l3 (by omega) (by unfold needsW at hlen2; omega)
    refine run_go rfl (by dict_keeps) (by delta b_form_of; within_ways) rfl
theorem run_normal_form_ref {ws : List Wd} (h : ∀ w ∈ ws, w.Ok) (hl : ws.length ≤ 40) : G_normal_form [.ref (.lst (ws.map wD))] = .ret (.val (formP ws)) [.live (.lst (ws.map wD))] := by
  have q1 := run_check_words_ref h hl
  have q2 := run_form_of_ref h (by omega)
  refine run_go rfl (by dict_keeps) (by delta b_normal_form; within_ways) rfl
end Lw

/-! Pt10.lean -/
set_option Elab.async false
set_option linter.all false
set_option maxRecDepth 100000
namespace Lw
open PySem L2 Mi
def P_law_holds_1b_1 : Stm := setS 3 (callE G__law_some_words (consR (nmE 0) (consR (nmE 1) (nilR))))
def P_law_holds_1b_2 : Stm := ifS (notB (tstT (callE G__law_right (consR (nmE 3) (nilR))))) (retS (kE (.bool false))) (nxS)
def P_law_holds_1b_3t : M Bool := tstB (binE gIsN (callE G__law_form (consR (nmE 3) (nilR))) (kE .none))
def P_law_holds_1b_3b : Stm := dropS (mutE 3 uPop0 nilL)
def P_law_holds_1b_3 : Stm := whlN P_law_holds_1b_3t P_law_holds_1b_3b 1000
def P_law_holds_1b_4 : Stm := ifS (notB (tstT (callE G__law_right (consR (nmE 3) (nilR))))) (retS (kE (.bool false))) (nxS)
def P_law_holds_1b_5 : Stm := dropS (mutE 3 uApp (consL (kE (.str "1>&2")) (nilL)))
def P_law_holds_1b_6 : Stm := ifS (andB (tstB (binE gLt (unE gLen (nmE 3)) (kE (.int 41)))) (notB (tstT (callE G__law_right (consR (nmE 3) (nilR)))))) (retS (kE (.bool false))) (nxS)
def P_law_holds_1b : Stm := seqS P_law_holds_1b_1 <| seqS P_law_holds_1b_2 <| seqS P_law_holds_1b_3 <| seqS P_law_holds_1b_4 <| seqS P_law_holds_1b_5 <| P_law_holds_1b_6
def P_law_holds_1 : Stm := forS (rng1 (kE (.int 4))) (fun d r => some (put r 2 (.val d))) P_law_holds_1b
def P_law_holds_2 : Stm := setS 4 (lstE (consL (callE G_normal_form (consR (lstE (consL (kE (.str "1>&-")) (consL (kE (.str "2>&1")) (nilL)))) (nilR))) (consL (binE gIx (callE G_normal_form (consR (lstE (consL (kE (.str "1>f")) (consL (kE (.str "2>&1")) (nilL)))) (nilR))) (kE (.int 1))) (consL (binE gIx (callE G_normal_form (consR (lstE (consL (kE (.str "3>&3")) (nilL))) (nilR))) (kE (.int 0))) (nilL)))))
def P_law_holds_3 : Stm := retS (andE (binE gEq (nmE 4) (lstE (consL (kE .none) (consL (tupE (consL (tupE (consL (kE (.str ">")) (consL (kE (.str "f")) (nilL)))) (nilL))) (consL (tupE (consL (kE (.int 3)) (nilL))) (nilL)))))) (binE gEq (callE G_normal_form (consR (lstE (nilL)) (nilR))) (callE G__law_form (consR (lstE (nilL)) (nilR)))))
theorem P_law_holds_eq : b__law_holds = (seqS P_law_holds_1 <| seqS P_law_holds_2 <| P_law_holds_3) := rfl
def P_law_right_1 : Stm := parS 1 2 (consR (unE gRepr (nmE 0)) (consR (callE G__law_form (consR (nmE 0) (nilR))) (nilR)))
def P_law_right_2 : Stm := retS (andE (binE gEq (unE gRepr (lstE (consL (callE G_normal_form (consR (nmE 0) (nilR))) (consL (callKW [0] G_normal_form (consR (nmE 0) (nilR))) (nilL))))) (unE gRepr (lstE (consL (nmE 2) (consL (nmE 2) (nilL)))))) (binE gEq (unE gRepr (nmE 0)) (nmE 1)))
theorem P_law_right_eq : b__law_right = (seqS P_law_right_1 <| P_law_right_2) := rfl
end Lw

/-! K1.lean -/
set_option Elab.async false
set_option linter.all false
set_option maxRecDepth 100000
namespace Lw
open PySem L2 Mi
local macro_rules
  | `(tactic| grows_one) => `(tactic| first
    | with_reducible exact frz_v
    | with_reducible exact frz_o
    | (with_reducible apply frz_s); exact rfl; dict_keeps
    | (with_reducible apply frz_d); exact rfl
    | (with_reducible apply frz_b); exact rfl; dict_keeps
    | exact rfl)
local macro_rules
  | `(tactic| sizeOf_list_dec) => `(tactic| first
    | with_reducible exact ags_nil
    | (with_reducible apply ags_val); sizeOf_list_dec
    | (with_reducible apply ags_own); sizeOf_list_dec
    | (with_reducible apply ags_at); exact rfl; sizeOf_list_dec
    | (with_reducible apply ags_dead); exact rfl; sizeOf_list_dec)
local macro_rules
  | `(tactic| dict_keeps) => `(tactic| first | (simp only [Mi.put, entry, entVs, entOs, List.length_cons, List.length_nil, Nat.reduceAdd, Nat.reduceSub, List.replicate_succ, List.replicate_zero, List.cons_append, List.nil_append, List.set_cons_zero, List.set_cons_succ, setsV_nil, setsV_cons] <;> exact rfl) | exact rfl)
local macro_rules
  | `(tactic| left) => `(tactic| first
    | with_reducible assumption
    | with_reducible exact k_go
    | (with_reducible apply nm_val); exact rfl
    | (with_reducible apply nm_own); exact rfl
    | (with_reducible apply nm_bor); exact rfl
    | with_reducible exact nilL_go
    | with_reducible exact nilR_go
    | with_reducible exact yes_go
    | with_reducible exact dnew_go
    | (with_reducible apply bin_go'); left; left; exact rfl; exact rfl; right
    | (with_reducible apply un_go'); left; exact rfl; right
    | (with_reducible apply consL_go); left; grows_one; left
    | (with_reducible apply tup_go); left; exact sz_ok rfl
    | (with_reducible apply lst_go); left; exact sz_ok rfl
    | (with_reducible apply consR_go); left; left
    | (with_reducible apply call_go0); left; sizeOf_list_dec; right; exact rfl
    | (with_reducible apply call_go1); left; sizeOf_list_dec; right; dict_keeps
    | (with_reducible apply call_go2); left; sizeOf_list_dec; right; dict_keeps
    | (with_reducible apply call_go); left; sizeOf_list_dec; exact rfl; right; exact rfl
    | (with_reducible apply fz_go); left; grows_one
    | (with_reducible apply mut_go'); exact rfl; left; exact rfl; exact ⟨_, rfl⟩; right; dict_keeps
    | (with_reducible apply mut_goB); exact rfl; exact rfl; left; exact rfl; right; dict_keeps
    | (with_reducible apply met_go); left; exact rfl; left; exact rfl; right
    | (with_reducible apply sl0_go); left; exact rfl; right
    | (with_reducible apply slL_go); left; left; exact rfl; exact rfl; right
    | (with_reducible apply slH_go); left; left; exact rfl; exact rfl; right
    | (with_reducible apply slLH_go); left; left; exact rfl; left; exact rfl; exact rfl; right
    | (with_reducible apply rep_go); left; left; exact rfl; exact ⟨by decide, sz_ok rfl⟩
    | (with_reducible apply lrg_go); left; exact rfl; decide
    | (with_reducible apply tB_go); left; exact rfl
    | (with_reducible apply tT_go); left; exact rfl; right
    | (with_reducible apply and_go); left; intro _; left
    | (with_reducible apply or_go); left; intro _; left
    | (with_reducible apply not_go); left
    | (with_reducible apply andE_go); left; exact rfl; intro _; left
    | (with_reducible apply orE_go); left; exact rfl; intro _; left
    | (with_reducible apply notE_go); left; exact rfl
    | (with_reducible apply ch_go); left; left; exact rfl; exact rfl; right; left; exact rfl; right)
local macro_rules
  | `(tactic| within_ways) => `(tactic| first
    | with_reducible assumption
    | with_reducible exact nx_go
    | (with_reducible apply seq_any); within_ways; (first | with_reducible exact seqO_rt | ((with_reducible apply seqO_nx); within_ways))
    | (with_reducible apply set_any); left; (first | with_reducible exact slotR_val | with_reducible exact slotR_own); dict_keeps
    | (with_reducible apply ret_go); left
    | (with_reducible apply drop_go); left
    | (with_reducible apply if_st); left; (first | (refine Or.inl ⟨?_, ?_⟩; infer_instance; within_ways) | (refine Or.inr ⟨?_, ?_⟩; infer_instance; within_ways))
    | (with_reducible apply unp_go'); left; exact rfl; exact rfl; dict_keeps
    | (with_reducible apply unl_go'); left; exact rfl; grows_one; exact rfl; dict_keeps
    | (with_reducible apply sto_go'); left; grows_one; exact ⟨_, rfl⟩; left; exact rfl; exact rfl; right; dict_keeps; dict_keeps
    | (with_reducible apply sto_goB); left; grows_one; exact rfl; left; exact rfl; exact rfl; right; dict_keeps; dict_keeps
    | (with_reducible apply par_go'); left; exact rfl; exact rfl; exact rfl; exact rfl; dict_keeps
    | (with_reducible apply aug_go'); exact rfl; left; exact rfl; dict_keeps
    | (with_reducible apply set_go); left; exact rfl)
local macro_rules
  | `(tactic| infer_instance) => `(tactic| first
    | with_reducible exact rfl
    | with_reducible assumption
    | (first
      | decide +kernel
      | (simp only [decide_eq_true_eq, decide_eq_false_iff_not, Bool.and_eq_true, Bool.or_eq_true, Bool.or_eq_false_iff, Bool.and_eq_false_iff, Bool.not_eq_true', Bool.not_eq_false', Bool.not_true, Bool.not_false, Bool.or_true, Bool.true_or, Bool.and_false, Bool.false_and, Bool.or_false, Bool.false_or, Bool.and_true, Bool.true_and, and_true, true_and]; first | done | assumption | omega)))
local macro_rules
  | `(tactic| right) => `(tactic| first
    | with_reducible assumption
    | with_reducible exact eq_sS _ _
    | with_reducible exact ne_sS _ _
    | with_reducible exact ix_t0
    | with_reducible exact ix_t1
    | with_reducible exact ix_t2
    | with_reducible exact ix_l0
    | with_reducible exact ix_l1
    | with_reducible exact ix_l2
    | with_reducible exact add_ii
    | with_reducible exact sub_ii
    | with_reducible exact appL_go rfl
    | with_reducible exact add_sN' rfl
    | with_reducible exact isn_n
    | with_reducible exact isn_i
    | with_reducible exact isn_s
    | with_reducible exact isn_l
    | with_reducible exact isn_t
    | with_reducible exact isnt_n
    | with_reducible exact isnt_i
    | with_reducible exact isnt_s
    | with_reducible exact isnt_l
    | with_reducible exact isnt_t
    | with_reducible exact truth_b
    | with_reducible exact list_go
    | with_reducible exact tuple_go
    | with_reducible exact tuplet_go
    | exact rfl)
theorem run_right {ws : List Wd} (h : ∀ w ∈ ws, w.Ok) (hl : ws.length ≤ 40) : G__law_right [.ref (.lst (ws.map wD))] = .ret (.val (.bool true)) [.live (.lst (ws.map wD))] := by
  have q1 := repr_words h (by omega)
  have q2 := run_form h (by omega)
  rw [forms_same h] at q2
  have q3 := run_normal_form_ref h hl
  have q4 := repr_two h (by omega)
  have q5 : ∀ x : Str, gEq (.str x) (.str x) = some (.val (.bool true)) := fun x => by rw [eq_sS, decide_eq_true rfl]
  have q6 := q5 (PyData.shown (.list [formP ws, formP ws]))
  have q7 := q5 (PyData.shown (.list (ws.map wD)))
  have c1 : consR (nmE 0) nilR ⟨[some (.bor 0), some (.val (.str (PyData.shown (.list (ws.map wD))))), some (.val (formP ws))], [.live (.lst (ws.map wD))]⟩ = .ok [.at (.obj 0)] ⟨[some (.bor 0), some (.val (.str (PyData.shown (.list (ws.map wD))))), some (.val (formP ws))], [.live (.lst (ws.map wD))]⟩ := by left
  have c2 : callE G_normal_form (consR (nmE 0) nilR) ⟨[some (.bor 0), some (.val (.str (PyData.shown (.list (ws.map wD))))), some (.val (formP ws))], [.live (.lst (ws.map wD))]⟩ = .ok (.val (formP ws)) ⟨[some (.bor 0), some (.val (.str (PyData.shown (.list (ws.map wD))))), some (.val (formP ws))], [.live (.lst (ws.map wD))]⟩ := by left
  have c3 : callKW [0] G_normal_form (consR (nmE 0) nilR) ⟨[some (.bor 0), some (.val (.str (PyData.shown (.list (ws.map wD))))), some (.val (formP ws))], [.live (.lst (ws.map wD))]⟩ = .ok (.val (formP ws)) ⟨[some (.bor 0), some (.val (.str (PyData.shown (.list (ws.map wD))))), some (.val (formP ws))], [.live (.lst (ws.map wD))]⟩ := by
    refine (bnd_ok c1).trans ?_
    exact ((bnd_ok c1).symm.trans c2)
  refine run_go rfl (by dict_keeps) (by delta b__law_right; within_ways) rfl
end Lw

/-! K2.lean -/
set_option Elab.async false
set_option linter.all false
set_option maxRecDepth 100000
namespace Lw
open PySem L2 Mi
local macro_rules
  | `(tactic| grows_one) => `(tactic| first
    | with_reducible exact frz_v
    | with_reducible exact frz_o
    | (with_reducible apply frz_s); exact rfl; dict_keeps
    | (with_reducible apply frz_d); exact rfl
    | (with_reducible apply frz_b); exact rfl; dict_keeps
    | exact rfl)
local macro_rules
  | `(tactic| sizeOf_list_dec) => `(tactic| first
    | with_reducible exact ags_nil
    | (with_reducible apply ags_val); sizeOf_list_dec
    | (with_reducible apply ags_own); sizeOf_list_dec
    | (with_reducible apply ags_at); exact rfl; sizeOf_list_dec
    | (with_reducible apply ags_dead); exact rfl; sizeOf_list_dec)
local macro_rules
  | `(tactic| dict_keeps) => `(tactic| first | (simp only [Mi.put, entry, entVs, entOs, List.length_cons, List.length_nil, Nat.reduceAdd, Nat.reduceSub, List.replicate_succ, List.replicate_zero, List.cons_append, List.nil_append, List.set_cons_zero, List.set_cons_succ, setsV_nil, setsV_cons] <;> exact rfl) | exact rfl)
local macro_rules
  | `(tactic| left) => `(tactic| first
    | with_reducible assumption
    | with_reducible exact k_go
    | (with_reducible apply nm_val); exact rfl
    | (with_reducible apply nm_own); exact rfl
    | (with_reducible apply nm_bor); exact rfl
    | with_reducible exact nilL_go
    | with_reducible exact nilR_go
    | with_reducible exact yes_go
    | with_reducible exact dnew_go
    | (with_reducible apply bin_go'); left; left; exact rfl; exact rfl; right
    | (with_reducible apply un_go'); left; exact rfl; right
    | (with_reducible apply consL_go); left; grows_one; left
    | (with_reducible apply tup_go); left; exact sz_ok rfl
    | (with_reducible apply lst_go); left; exact sz_ok rfl
    | (with_reducible apply consR_go); left; left
    | (with_reducible apply call_go0); left; sizeOf_list_dec; right; exact rfl
    | (with_reducible apply call_go1); left; sizeOf_list_dec; right; dict_keeps
    | (with_reducible apply call_go2); left; sizeOf_list_dec; right; dict_keeps
    | (with_reducible apply call_go); left; sizeOf_list_dec; exact rfl; right; exact rfl
    | (with_reducible apply fz_go); left; grows_one
    | (with_reducible apply mut_go'); exact rfl; left; exact rfl; exact ⟨_, rfl⟩; right; dict_keeps
    | (with_reducible apply mut_goB); exact rfl; exact rfl; left; exact rfl; right; dict_keeps
    | (with_reducible apply met_go); left; exact rfl; left; exact rfl; right
    | (with_reducible apply sl0_go); left; exact rfl; right
    | (with_reducible apply slL_go); left; left; exact rfl; exact rfl; right
    | (with_reducible apply slH_go); left; left; exact rfl; exact rfl; right
    | (with_reducible apply slLH_go); left; left; exact rfl; left; exact rfl; exact rfl; right
    | (with_reducible apply rep_go); left; left; exact rfl; exact ⟨by decide, sz_ok rfl⟩
    | (with_reducible apply lrg_go); left; exact rfl; decide
    | (with_reducible apply tB_go); left; exact rfl
    | (with_reducible apply tT_go); left; exact rfl; right
    | (with_reducible apply and_go); left; intro _; left
    | (with_reducible apply or_go); left; intro _; left
    | (with_reducible apply not_go); left
    | (with_reducible apply andE_go); left; exact rfl; intro _; left
    | (with_reducible apply orE_go); left; exact rfl; intro _; left
    | (with_reducible apply notE_go); left; exact rfl
    | (with_reducible apply ch_go); left; left; exact rfl; exact rfl; right; left; exact rfl; right)
local macro_rules
  | `(tactic| within_ways) => `(tactic| first
    | with_reducible assumption
    | with_reducible exact nx_go
    | (with_reducible apply seq_any); within_ways; (first | with_reducible exact seqO_rt | ((with_reducible apply seqO_nx); within_ways))
    | (with_reducible apply set_any); left; (first | with_reducible exact slotR_val | with_reducible exact slotR_own); dict_keeps
    | (with_reducible apply ret_go); left
    | (with_reducible apply drop_go); left
    | (with_reducible apply if_st); left; (first | (refine Or.inl ⟨?_, ?_⟩; infer_instance; within_ways) | (refine Or.inr ⟨?_, ?_⟩; infer_instance; within_ways))
    | (with_reducible apply unp_go'); left; exact rfl; exact rfl; dict_keeps
    | (with_reducible apply unl_go'); left; exact rfl; grows_one; exact rfl; dict_keeps
    | (with_reducible apply sto_go'); left; grows_one; exact ⟨_, rfl⟩; left; exact rfl; exact rfl; right; dict_keeps; dict_keeps
    | (with_reducible apply sto_goB); left; grows_one; exact rfl; left; exact rfl; exact rfl; right; dict_keeps; dict_keeps
    | (with_reducible apply par_go'); left; exact rfl; exact rfl; exact rfl; exact rfl; dict_keeps
    | (with_reducible apply aug_go'); exact rfl; left; exact rfl; dict_keeps
    | (with_reducible apply set_go); left; exact rfl)
local macro_rules
  | `(tactic| infer_instance) => `(tactic| first
    | with_reducible exact rfl
    | with_reducible assumption
    | (first
      | decide +kernel
      | (simp only [decide_eq_true_eq, decide_eq_false_iff_not, Bool.and_eq_true, Bool.or_eq_true, Bool.or_eq_false_iff, Bool.and_eq_false_iff, Bool.not_eq_true', Bool.not_eq_false', Bool.not_true, Bool.not_false, Bool.or_true, Bool.true_or, Bool.and_false, Bool.false_and, Bool.or_false, Bool.false_or, Bool.and_true, Bool.true_and, and_true, true_and]; first | done | assumption | omega)))
local macro_rules
  | `(tactic| right) => `(tactic| first
    | with_reducible assumption
    | with_reducible exact eq_sS _ _
    | with_reducible exact ne_sS _ _
    | with_reducible exact ix_t0
    | with_reducible exact ix_t1
    | with_reducible exact ix_t2
    | with_reducible exact ix_l0
    | with_reducible exact ix_l1
    | with_reducible exact ix_l2
    | with_reducible exact add_ii
    | with_reducible exact sub_ii
    | with_reducible exact appL_go rfl
    | with_reducible exact add_sN' rfl
    | with_reducible exact isn_n
    | with_reducible exact isn_i
    | with_reducible exact isn_s
    | with_reducible exact isn_l
    | with_reducible exact isn_t
    | with_reducible exact isnt_n
    | with_reducible exact isnt_i
    | with_reducible exact isnt_s
    | with_reducible exact isnt_l
    | with_reducible exact isnt_t
    | with_reducible exact truth_b
    | with_reducible exact list_go
    | with_reducible exact tuple_go
    | with_reducible exact tuplet_go
    | exact rfl)
variable {x0 x1 x2 x4 : Option Sl}
theorem and_no {f g : M Bool} {r r1 : En} (h1 : f r = .ok false r1) : andB f g r = .ok false r1 := bnd_ok h1
theorem dl_map (ws : List Wd) : (ws.map wD).dropLast = ws.dropLast.map wD := by
  rw [List.dropLast_eq_take, List.dropLast_eq_take, List.map_take, List.length_map]
theorem run_while : ∀ (k : Nat) (ws : List Wd), (∀ w ∈ ws, w.Ok) → ws.length ≤ 1000 → ws.length < k →
    ∃ vs : List Wd, (∀ w ∈ vs, w.Ok) ∧ vs.length ≤ ws.length ∧ whlN P_law_holds_1b_3t P_law_holds_1b_3b k ⟨[x0, x1, x2, some (.own (.lst (ws.map wD))), x4], []⟩ = .nx ⟨[x0, x1, x2, some (.own (.lst (vs.map wD))), x4], []⟩
  | 0, _, _, _, h => absurd h (Nat.not_lt_zero _)
  | k + 1, ws, hw, hl, hk => by
    have q := run_form hw hl
    have q2 := isN_go (formL ws)
    cases hb : isN' (formL ws) with
    | false =>
      rw [hb] at q2
      have t : P_law_holds_1b_3t ⟨[x0, x1, x2, some (.own (.lst (ws.map wD))), x4], []⟩ = .ok false ⟨[x0, x1, x2, some (.own (.lst (ws.map wD))), x4], []⟩ := by
        delta P_law_holds_1b_3t
        left
      refine ⟨ws, hw, Nat.le_refl _, ?_⟩
      unfold whlN
      rw [t]
    | true =>
      rw [hb] at q2
      have t : P_law_holds_1b_3t ⟨[x0, x1, x2, some (.own (.lst (ws.map wD))), x4], []⟩ = .ok true ⟨[x0, x1, x2, some (.own (.lst (ws.map wD))), x4], []⟩ := by
        delta P_law_holds_1b_3t
        left
      have hn : ws ≠ [] := by rintro rfl; cases (show isN' (formL []) = true from hb)
      have hp : 0 < ws.length := List.length_pos_iff.mpr hn
      have q3 : uPop0 (ws.map wD) [] = some (ws.dropLast.map wD, wD (ws[ws.length - 1]'(by omega))) := by
        unfold uPop0
        show Option.map _ (ws.map wD)[(ws.map wD).length - 1]? = _
        rw [List.length_map, List.getElem?_map, List.getElem?_eq_getElem (by omega), dl_map]
        rfl
      have b : P_law_holds_1b_3b ⟨[x0, x1, x2, some (.own (.lst (ws.map wD))), x4], []⟩ = .nx ⟨[x0, x1, x2, some (.own (.lst (ws.dropLast.map wD))), x4], []⟩ := by
        delta P_law_holds_1b_3b
        within_ways
      have hdl : ws.dropLast.length = ws.length - 1 := List.length_dropLast
      obtain ⟨vs, h1, h2, h4⟩ := run_while k ws.dropLast (fun w h => hw w ((List.dropLast_sublist _).subset h)) (by omega) (by omega)
      refine ⟨vs, h1, by omega, ?_⟩
      unfold whlN
      rw [t]
      dsimp only
      rw [b]
      exact h4
theorem lit_12 : Str.ofString "1>&2" = sN [49, 62, 38, 50] := by decide +kernel
theorem run_b6 {vs : List Wd} (hv : ∀ w ∈ vs, w.Ok) (hl : vs.length ≤ 41) : P_law_holds_1b_6 ⟨[x0, x1, x2, some (.own (.lst (vs.map wD))), x4], []⟩ = .nx ⟨[x0, x1, x2, some (.own (.lst (vs.map wD))), x4], []⟩ := by
  have ql : gLen (.list (vs.map wD)) = some (.val (.int ((vs.length : Nat) : Int))) := by
    show some (vI (((vs.map wD).length : Nat) : Int)) = _
    rw [List.length_map]
  by_cases c : vs.length < 41
  · have r3 := run_right hv (by omega)
    have qt : gLt (.int ((vs.length : Nat) : Int)) (.int 41) = some (.val (.bool true)) := by
      show some (Rv.val (PyData.bool (decide _))) = _
      rw [decide_eq_true (by omega)]
    clear c hl hv
    delta P_law_holds_1b_6
    within_ways
  · have qt : gLt (.int ((vs.length : Nat) : Int)) (.int 41) = some (.val (.bool false)) := by
      show some (Rv.val (PyData.bool (decide _))) = _
      rw [decide_eq_false (by omega)]
    have t : andB (tstB (binE gLt (unE gLen (nmE 3)) (kE (.int 41)))) (notB (tstT (callE G__law_right (consR (nmE 3) (nilR))))) ⟨[x0, x1, x2, some (.own (.lst (vs.map wD))), x4], []⟩ = .ok false ⟨[x0, x1, x2, some (.own (.lst (vs.map wD))), x4], []⟩ := by
      apply and_no
      left
    delta P_law_holds_1b_6
    within_ways
theorem run_body {n most : Nat} {s : Sc} (h : s.Ok (n + 300)) (hm : most ≤ 40) {x3 : Option Sl} :
    ∃ (s' : Sc) (ws : List Wd), s'.Ok n ∧ P_law_holds_1b ⟨[some (.own (.lst (scD s))), some (.val (.int (most : Int))), x2, x3, x4], []⟩ = .nx ⟨[some (.own (.lst (scD s'))), some (.val (.int (most : Int))), x2, some (.own (.lst (ws.map wD))), x4], []⟩ := by
  obtain ⟨us, size, s1, hu, hul, h1, q1⟩ := run_some_words h hm
  obtain ⟨ws, hw, hwl, b3⟩ := run_while (x0 := some (.own (.lst (scD s1)))) (x1 := some (.val (.int (most : Int)))) (x2 := x2) (x4 := x4) 1000 us hu (by omega) (by omega)
  have r1 := run_right hu (by omega)
  have r2 := run_right hw (by omega)
  have hv : ∀ w ∈ ws ++ [Wd.cp 2 1], w.Ok := fun w h => by
    rcases List.mem_append.mp h with h | h
    · exact hw w h
    · rw [List.mem_singleton] at h; subst h; exact ⟨by decide, by decide⟩
  have ap : uApp (ws.map wD) [.str (sN [49, 62, 38, 50])] = some ((ws ++ [Wd.cp 2 1]).map wD, .none) := by
    rw [List.map_append]
    exact app_go (by rw [List.length_map]; exact Nat.lt_of_lt_of_le (show ws.length < 1001 by omega) (by decide))
  refine ⟨s1, ws ++ [Wd.cp 2 1], h1, ?_⟩
  have b6 := run_b6 (x0 := some (.own (.lst (scD s1)))) (x1 := some (.val (.int (most : Int)))) (x2 := x2) (x4 := x4) hv (by simp; omega)
  generalize ws ++ [Wd.cp 2 1] = vs at ap b6 ⊢
  clear hv hw hu h h1 hul hwl
  have b5 : P_law_holds_1b_5 ⟨[some (.own (.lst (scD s1))), some (.val (.int (most : Int))), x2, some (.own (.lst (ws.map wD))), x4], []⟩ = .nx ⟨[some (.own (.lst (scD s1))), some (.val (.int (most : Int))), x2, some (.own (.lst (vs.map wD))), x4], []⟩ := by
    delta P_law_holds_1b_5
    simp only [lit_12]
    within_ways
  have b1 : P_law_holds_1b_1 ⟨[some (.own (.lst (scD s))), some (.val (.int (most : Int))), x2, x3, x4], []⟩ = .nx ⟨[some (.own (.lst (scD s1))), some (.val (.int (most : Int))), x2, some (.own (.lst (us.map wD))), x4], []⟩ := by
    clear b3 b5 b6 r1 r2 ap
    delta P_law_holds_1b_1
    within_ways
  have b2 : P_law_holds_1b_2 ⟨[some (.own (.lst (scD s1))), some (.val (.int (most : Int))), x2, some (.own (.lst (us.map wD))), x4], []⟩ = .nx ⟨[some (.own (.lst (scD s1))), some (.val (.int (most : Int))), x2, some (.own (.lst (us.map wD))), x4], []⟩ := by
    clear b3 b5 b6 r2 ap q1
    delta P_law_holds_1b_2
    within_ways
  have b4 : P_law_holds_1b_4 ⟨[some (.own (.lst (scD s1))), some (.val (.int (most : Int))), x2, some (.own (.lst (ws.map wD))), x4], []⟩ = .nx ⟨[some (.own (.lst (scD s1))), some (.val (.int (most : Int))), x2, some (.own (.lst (ws.map wD))), x4], []⟩ := by
    clear b3 b5 b6 r1 ap q1
    delta P_law_holds_1b_4
    within_ways
  delta P_law_holds_1b P_law_holds_1b_3
  within_ways
end Lw

/-! K3.lean -/
set_option Elab.async false
set_option linter.all false
set_option maxRecDepth 100000
namespace Lw
open PySem L2 Mi
local macro_rules
  | `(tactic| grows_one) => `(tactic| first
    | with_reducible exact frz_v
    | with_reducible exact frz_o
    | (with_reducible apply frz_s); exact rfl; dict_keeps
    | (with_reducible apply frz_d); exact rfl
    | (with_reducible apply frz_b); exact rfl; dict_keeps
    | exact rfl)
local macro_rules
  | `(tactic| sizeOf_list_dec) => `(tactic| first
    | with_reducible exact ags_nil
    | (with_reducible apply ags_val); sizeOf_list_dec
    | (with_reducible apply ags_own); sizeOf_list_dec
    | (with_reducible apply ags_at); exact rfl; sizeOf_list_dec
    | (with_reducible apply ags_dead); exact rfl; sizeOf_list_dec)
local macro_rules
  | `(tactic| dict_keeps) => `(tactic| first | (simp only [Mi.put, entry, entVs, entOs, List.length_cons, List.length_nil, Nat.reduceAdd, Nat.reduceSub, List.replicate_succ, List.replicate_zero, List.cons_append, List.nil_append, List.set_cons_zero, List.set_cons_succ, setsV_nil, setsV_cons] <;> exact rfl) | exact rfl)
local macro_rules
  | `(tactic| left) => `(tactic| first
    | with_reducible assumption
    | with_reducible exact k_go
    | (with_reducible apply nm_val); exact rfl
    | (with_reducible apply nm_own); exact rfl
    | (with_reducible apply nm_bor); exact rfl
    | with_reducible exact nilL_go
    | with_reducible exact nilR_go
    | with_reducible exact yes_go
    | with_reducible exact dnew_go
    | (with_reducible apply bin_go'); left; left; exact rfl; exact rfl; right
    | (with_reducible apply un_go'); left; exact rfl; right
    | (with_reducible apply consL_go); left; grows_one; left
    | (with_reducible apply tup_go); left; exact sz_ok rfl
    | (with_reducible apply lst_go); left; exact sz_ok rfl
    | (with_reducible apply consR_go); left; left
    | (with_reducible apply call_go0); left; sizeOf_list_dec; right; exact rfl
    | (with_reducible apply call_go1); left; sizeOf_list_dec; right; dict_keeps
    | (with_reducible apply call_go2); left; sizeOf_list_dec; right; dict_keeps
    | (with_reducible apply call_go); left; sizeOf_list_dec; exact rfl; right; exact rfl
    | (with_reducible apply fz_go); left; grows_one
    | (with_reducible apply mut_go'); exact rfl; left; exact rfl; exact ⟨_, rfl⟩; right; dict_keeps
    | (with_reducible apply mut_goB); exact rfl; exact rfl; left; exact rfl; right; dict_keeps
    | (with_reducible apply met_go); left; exact rfl; left; exact rfl; right
    | (with_reducible apply sl0_go); left; exact rfl; right
    | (with_reducible apply slL_go); left; left; exact rfl; exact rfl; right
    | (with_reducible apply slH_go); left; left; exact rfl; exact rfl; right
    | (with_reducible apply slLH_go); left; left; exact rfl; left; exact rfl; exact rfl; right
    | (with_reducible apply rep_go); left; left; exact rfl; exact ⟨by decide, sz_ok rfl⟩
    | (with_reducible apply lrg_go); left; exact rfl; decide
    | (with_reducible apply tB_go); left; exact rfl
    | (with_reducible apply tT_go); left; exact rfl; right
    | (with_reducible apply and_go); left; intro _; left
    | (with_reducible apply or_go); left; intro _; left
    | (with_reducible apply not_go); left
    | (with_reducible apply andE_go); left; exact rfl; intro _; left
    | (with_reducible apply orE_go); left; exact rfl; intro _; left
    | (with_reducible apply notE_go); left; exact rfl
    | (with_reducible apply ch_go); left; left; exact rfl; exact rfl; right; left; exact rfl; right)
local macro_rules
  | `(tactic| within_ways) => `(tactic| first
    | with_reducible assumption
    | with_reducible exact nx_go
    | (with_reducible apply seq_any); within_ways; (first | with_reducible exact seqO_rt | ((with_reducible apply seqO_nx); within_ways))
    | (with_reducible apply set_any); left; (first | with_reducible exact slotR_val | with_reducible exact slotR_own); dict_keeps
    | (with_reducible apply ret_go); left
    | (with_reducible apply drop_go); left
    | (with_reducible apply if_st); left; (first | (refine Or.inl ⟨?_, ?_⟩; infer_instance; within_ways) | (refine Or.inr ⟨?_, ?_⟩; infer_instance; within_ways))
    | (with_reducible apply unp_go'); left; exact rfl; exact rfl; dict_keeps
    | (with_reducible apply unl_go'); left; exact rfl; grows_one; exact rfl; dict_keeps
    | (with_reducible apply sto_go'); left; grows_one; exact ⟨_, rfl⟩; left; exact rfl; exact rfl; right; dict_keeps; dict_keeps
    | (with_reducible apply sto_goB); left; grows_one; exact rfl; left; exact rfl; exact rfl; right; dict_keeps; dict_keeps
    | (with_reducible apply par_go'); left; exact rfl; exact rfl; exact rfl; exact rfl; dict_keeps
    | (with_reducible apply aug_go'); exact rfl; left; exact rfl; dict_keeps
    | (with_reducible apply set_go); left; exact rfl)
local macro_rules
  | `(tactic| infer_instance) => `(tactic| first
    | with_reducible exact rfl
    | with_reducible assumption
    | (first
      | decide +kernel
      | (simp only [decide_eq_true_eq, decide_eq_false_iff_not, Bool.and_eq_true, Bool.or_eq_true, Bool.or_eq_false_iff, Bool.and_eq_false_iff, Bool.not_eq_true', Bool.not_eq_false', Bool.not_true, Bool.not_false, Bool.or_true, Bool.true_or, Bool.and_false, Bool.false_and, Bool.or_false, Bool.false_or, Bool.and_true, Bool.true_and, and_true, true_and]; first | done | assumption | omega)))
local macro_rules
  | `(tactic| right) => `(tactic| first
    | with_reducible assumption
    | with_reducible exact eq_sS _ _
    | with_reducible exact ne_sS _ _
    | with_reducible exact ix_t0
    | with_reducible exact ix_t1
    | with_reducible exact ix_t2
    | with_reducible exact ix_l0
    | with_reducible exact ix_l1
    | with_reducible exact ix_l2
    | with_reducible exact add_ii
    | with_reducible exact sub_ii
    | with_reducible exact appL_go rfl
    | with_reducible exact add_sN' rfl
    | with_reducible exact isn_n
    | with_reducible exact isn_i
    | with_reducible exact isn_s
    | with_reducible exact isn_l
    | with_reducible exact isn_t
    | with_reducible exact isnt_n
    | with_reducible exact isnt_i
    | with_reducible exact isnt_s
    | with_reducible exact isnt_l
    | with_reducible exact isnt_t
    | with_reducible exact truth_b
    | with_reducible exact list_go
    | with_reducible exact tuple_go
    | with_reducible exact tuplet_go
    | exact rfl)
theorem eq_closed {a b : PyData} (h1 : eqOk a b = true) (h2 : PyData.eqv a b = true) : gEq a b = some (.val (.bool true)) := by unfold gEq; rw [if_pos h1, h2]
theorem nf1 : G_normal_form [.own (.lst [.str "1>&-", .str "2>&1"])] = .ret (.val .none) [] := fqM_eq (by decide +kernel)
def nfO : List PyData := [oldD 0, newD 0, newD 0, oldD 3, oldD 4, oldD 5, oldD 6, oldD 7, oldD 8, oldD 9]
theorem nf2 : G_normal_form [.own (.lst [.str "1>f", .str "2>&1"])] = .ret (.val (.tuple [.tuple [], .tuple [.tuple [.str ">", .str "f"]], .tuple nfO])) [] := fqM_eq (by decide +kernel)
theorem nf3 : G_normal_form [.own (.lst [.str "3>&3"])] = .ret (.val (.tuple [.tuple [.int 3], .tuple [], .tuple olds])) [] := fqM_eq (by decide +kernel)
theorem nf4 : G_normal_form [.own (.lst [])] = .ret (.val (.tuple [.tuple [], .tuple [], .tuple olds])) [] := fqM_eq (by decide +kernel)
theorem nf5 : G__law_form [.own (.lst [])] = .ret (.val (.tuple [.tuple [], .tuple [], .tuple olds])) [] := fqM_eq (by decide +kernel)
theorem told1 : gEq (.list [.none, .tuple [.tuple [.str ">", .str "f"]], .tuple [.int 3]]) (.list [.none, .tuple [.tuple [.str ">", .str "f"]], .tuple [.int 3]]) = some (.val (.bool true)) := eq_closed (by decide +kernel) (by decide +kernel)
theorem told2 : gEq (.tuple [.tuple [], .tuple [], .tuple olds]) (.tuple [.tuple [], .tuple [], .tuple olds]) = some (.val (.bool true)) := eq_closed (by decide +kernel) (by decide +kernel)
theorem run_holds {most : Nat} {s : Sc} (h : s.Ok 1200) (hm : most ≤ 40) : G__law_holds [.own (.lst (scD s)), .val (.int (most : Int))] = .ret (.val (.bool true)) [] := by
  have lp : ∀ e0 : En, e0 = ⟨[some (.own (.lst (scD s))), some (.val (.int (most : Int))), none, none, none], []⟩ → ∃ s' y2 y3, P_law_holds_1 e0 = .nx ⟨[some (.own (.lst (scD s'))), some (.val (.int (most : Int))), y2, y3, none], []⟩ := by
    rintro _ rfl
    have lp := forS_rng (ρ := Unit) (n := 4) (e := kE (.int 4)) (tg := fun d r => some (put r 2 (.val d))) (bd := P_law_holds_1b) (s0 := ())
      (r := ⟨[some (.own (.lst (scD s))), some (.val (.int (most : Int))), none, none, none], []⟩)
      (fun i _ r => ∃ s' y2 y3, i ≤ 4 ∧ s'.Ok (300 * (4 - i)) ∧ r = ⟨[some (.own (.lst (scD s'))), some (.val (.int (most : Int))), y2, y3, none], []⟩) (fun _ _ _ => False) (fun _ _ => .ok ()) rfl (by decide) ⟨s, _, _, Nat.zero_le _, h, rfl⟩
      (fun _ r i ⟨s1, y2, y3, _, h1, e⟩ hi => by
        subst e
        refine ⟨⟨[some (.own (.lst (scD s1))), some (.val (.int (most : Int))), some (.val (.int (i : Int))), y3, none], []⟩, rfl, ?_⟩
        obtain ⟨s2, ws, h2, b⟩ := run_body (n := 300 * (4 - (i + 1))) (x2 := some (.val (.int (i : Int)))) (x3 := y3) (x4 := none) (h1.le (by omega)) hm
        exact EndX.nx b ⟨s2, _, _, hi, h2, rfl⟩)
    rw [foldX_ok] at lp
    obtain ⟨r', e1, s', y2, y3, _, _, e2⟩ := lp
    subst e2
    exact ⟨s', y2, y3, e1⟩
  obtain ⟨s', y2, y3, lp⟩ := lp _ rfl
  clear h hm
  have l1 := nf1
  have l2 := nf2
  have l3 := nf3
  have l4 := nf4
  have l5 := nf5
  have t1 := told1
  have t2 := told2
  refine run_go rfl (by dict_keeps) (by show seqS P_law_holds_1 (seqS P_law_holds_2 P_law_holds_3) _ = _; delta P_law_holds_2 P_law_holds_3; within_ways) rfl
end Lw

/-! K4.lean -/
set_option Elab.async false
set_option linter.all false
set_option maxRecDepth 100000
namespace Lw
open PySem L2 Mi
local macro_rules
  | `(tactic| grows_one) => `(tactic| first
    | with_reducible exact frz_v
    | with_reducible exact frz_o
    | (with_reducible apply frz_s); exact rfl; dict_keeps
    | (with_reducible apply frz_d); exact rfl
    | (with_reducible apply frz_b); exact rfl; dict_keeps
    | exact rfl)
local macro_rules
  | `(tactic| sizeOf_list_dec) => `(tactic| first
    | with_reducible exact ags_nil
    | (with_reducible apply ags_val); sizeOf_list_dec
    | (with_reducible apply ags_own); sizeOf_list_dec
    | (with_reducible apply ags_at); exact rfl; sizeOf_list_dec
    | (with_reducible apply ags_dead); exact rfl; sizeOf_list_dec)
local macro_rules
  | `(tactic| dict_keeps) => `(tactic| first | (simp only [Mi.put, entry, entVs, entOs, List.length_cons, List.length_nil, Nat.reduceAdd, Nat.reduceSub, List.replicate_succ, List.replicate_zero, List.cons_append, List.nil_append, List.set_cons_zero, List.set_cons_succ, setsV_nil, setsV_cons] <;> exact rfl) | exact rfl)
local macro_rules
  | `(tactic| left) => `(tactic| first
    | with_reducible assumption
    | with_reducible exact k_go
    | (with_reducible apply nm_val); exact rfl
    | (with_reducible apply nm_own); exact rfl
    | (with_reducible apply nm_bor); exact rfl
    | with_reducible exact nilL_go
    | with_reducible exact nilR_go
    | with_reducible exact yes_go
    | with_reducible exact dnew_go
    | (with_reducible apply bin_go'); left; left; exact rfl; exact rfl; right
    | (with_reducible apply un_go'); left; exact rfl; right
    | (with_reducible apply consL_go); left; grows_one; left
    | (with_reducible apply tup_go); left; exact sz_ok rfl
    | (with_reducible apply lst_go); left; exact sz_ok rfl
    | (with_reducible apply consR_go); left; left
    | (with_reducible apply call_go0); left; sizeOf_list_dec; right; exact rfl
    | (with_reducible apply call_go1); left; sizeOf_list_dec; right; dict_keeps
    | (with_reducible apply call_go2); left; sizeOf_list_dec; right; dict_keeps
    | (with_reducible apply call_go); left; sizeOf_list_dec; exact rfl; right; exact rfl
    | (with_reducible apply fz_go); left; grows_one
    | (with_reducible apply mut_go'); exact rfl; left; exact rfl; exact ⟨_, rfl⟩; right; dict_keeps
    | (with_reducible apply mut_goB); exact rfl; exact rfl; left; exact rfl; right; dict_keeps
    | (with_reducible apply met_go); left; exact rfl; left; exact rfl; right
    | (with_reducible apply sl0_go); left; exact rfl; right
    | (with_reducible apply slL_go); left; left; exact rfl; exact rfl; right
    | (with_reducible apply slH_go); left; left; exact rfl; exact rfl; right
    | (with_reducible apply slLH_go); left; left; exact rfl; left; exact rfl; exact rfl; right
    | (with_reducible apply rep_go); left; left; exact rfl; exact ⟨by decide, sz_ok rfl⟩
    | (with_reducible apply lrg_go); left; exact rfl; decide
    | (with_reducible apply tB_go); left; exact rfl
    | (with_reducible apply tT_go); left; exact rfl; right
    | (with_reducible apply and_go); left; intro _; left
    | (with_reducible apply or_go); left; intro _; left
    | (with_reducible apply not_go); left
    | (with_reducible apply andE_go); left; exact rfl; intro _; left
    | (with_reducible apply orE_go); left; exact rfl; intro _; left
    | (with_reducible apply notE_go); left; exact rfl
    | (with_reducible apply ch_go); left; left; exact rfl; exact rfl; right; left; exact rfl; right)
local macro_rules
  | `(tactic| within_ways) => `(tactic| first
    | with_reducible assumption
    | with_reducible exact nx_go
    | (with_reducible apply seq_any); within_ways; (first | with_reducible exact seqO_rt | ((with_reducible apply seqO_nx); within_ways))
    | (with_reducible apply set_any); left; (first | with_reducible exact slotR_val | with_reducible exact slotR_own); dict_keeps
    | (with_reducible apply ret_go); left
    | (with_reducible apply drop_go); left
    | (with_reducible apply if_st); left; (first | (refine Or.inl ⟨?_, ?_⟩; infer_instance; within_ways) | (refine Or.inr ⟨?_, ?_⟩; infer_instance; within_ways))
    | (with_reducible apply unp_go'); left; exact rfl; exact rfl; dict_keeps
    | (with_reducible apply unl_go'); left; exact rfl; grows_one; exact rfl; dict_keeps
    | (with_reducible apply sto_go'); left; grows_one; exact ⟨_, rfl⟩; left; exact rfl; exact rfl; right; dict_keeps; dict_keeps
    | (with_reducible apply sto_goB); left; grows_one; exact rfl; left; exact rfl; exact rfl; right; dict_keeps; dict_keeps
    | (with_reducible apply par_go'); left; exact rfl; exact rfl; exact rfl; exact rfl; dict_keeps
    | (with_reducible apply aug_go'); exact rfl; left; exact rfl; dict_keeps
    | (with_reducible apply set_go); left; exact rfl)
local macro_rules
  | `(tactic| infer_instance) => `(tactic| first
    | with_reducible exact rfl
    | with_reducible assumption
    | (first
      | decide +kernel
      | (simp only [decide_eq_true_eq, decide_eq_false_iff_not, Bool.and_eq_true, Bool.or_eq_true, Bool.or_eq_false_iff, Bool.and_eq_false_iff, Bool.not_eq_true', Bool.not_eq_false', Bool.not_true, Bool.not_false, Bool.or_true, Bool.true_or, Bool.and_false, Bool.false_and, Bool.or_false, Bool.false_or, Bool.and_true, Bool.true_and, and_true, true_and]; first | done | assumption | omega)))
local macro_rules
  | `(tactic| right) => `(tactic| first
    | with_reducible assumption
    | with_reducible exact eq_sS _ _
    | with_reducible exact ne_sS _ _
    | with_reducible exact ix_t0
    | with_reducible exact ix_t1
    | with_reducible exact ix_t2
    | with_reducible exact ix_l0
    | with_reducible exact ix_l1
    | with_reducible exact ix_l2
    | with_reducible exact add_ii
    | with_reducible exact sub_ii
    | with_reducible exact appL_go rfl
    | with_reducible exact add_sN' rfl
    | with_reducible exact isn_n
    | with_reducible exact isn_i
    | with_reducible exact isn_s
    | with_reducible exact isn_l
    | with_reducible exact isn_t
    | with_reducible exact isnt_n
    | with_reducible exact isnt_i
    | with_reducible exact isnt_s
    | with_reducible exact isnt_l
    | with_reducible exact isnt_t
    | with_reducible exact truth_b
    | with_reducible exact list_go
    | with_reducible exact tuple_go
    | with_reducible exact tuplet_go
    | exact rfl)
theorem ite_pos {t : M Bool} {f g : M Rv} {r r1 r2 : En} {x : Rv} (h : t r = .ok true r1) (h1 : f r1 = .ok x r2) : iteE t f g r = .ok x r2 := (bnd_ok h).trans h1
theorem ite_neg {t : M Bool} {f g : M Rv} {r r1 r2 : En} {x : Rv} (h : t r = .ok false r1) (h1 : g r1 = .ok x r2) : iteE t f g r = .ok x r2 := (bnd_ok h).trans h1
theorem iteK {t : M Bool} {f g : M Rv} {r r1 r2 : En} {x : Rv} {k : Bool} (h : t r = .ok k r1) (h1 : (bif k then f else g) r1 = .ok x r2) : iteE t f g r = .ok x r2 := by
  refine (bnd_ok h).trans ?_
  cases k <;> exact h1
theorem pure (ns : List Int) (h : ns.length ≤ 63) : runF 1 3 b_law [.val (pyInts ns)] = .ret (.val (.bool true)) [] := by
  show runF 1 3 b_law [.val (.list (ns.map PyData.int))] = _
  have hk : ∃ k : Nat, k ≤ ns.length + 1 ∧ k ≤ 10 ∧ gMax2 (.int 1) (.int (if (10 : Int) < (ns.length : Int) then 10 else (ns.length : Int))) = some (.val (.int (k : Int))) := by
    by_cases c : 10 < ns.length
    · refine ⟨10, by omega, by omega, ?_⟩
      rw [if_pos (by omega)]; rfl
    · rw [if_neg (by omega)]
      rcases Nat.eq_zero_or_pos ns.length with e | e
      · refine ⟨1, by omega, by omega, ?_⟩
        rw [e]; rfl
      · refine ⟨ns.length, by omega, by omega, ?_⟩
        show some (vI (if (ns.length : Int) > 1 then (ns.length : Int) else 1)) = _
        by_cases c1 : (ns.length : Int) > 1
        · rw [if_pos c1]
        · rw [if_neg c1, show ns.length = 1 by omega]; rfl
  obtain ⟨k, hk1, hk2, a4⟩ := hk
  have a1 : gAdd (.list (ns.map PyData.int)) (.list [.int 0]) = some (.own (.lst ((ns ++ [0]).map PyData.int))) := by
    rw [List.map_append]
    exact appL (by simp; omega)
  have a2 : gLen (.list (ns.map PyData.int)) = some (.val (.int (ns.length : Int))) := by
    show some (vI (((ns.map PyData.int).length : Nat) : Int)) = _
    rw [List.length_map]
  have a3 : gMin2 (.int (ns.length : Int)) (.int 10) = some (.val (.int (if (10 : Int) < (ns.length : Int) then 10 else (ns.length : Int)))) := rfl
  have a5 : gSl (.list ((ns ++ [0]).map PyData.int)) none (some (k : Int)) = some (.own (.lst (((ns ++ [0]).take k).map PyData.int))) := by
    rw [sl_take (by simp; omega), List.map_take]
  have he : slE (binE gAdd (nmE 0) (lstE (consL (kE (.int 0)) (nilL)))) none (some (binE gMax2 (kE (.int 1)) (binE gMin2 (unE gLen (nmE 0)) (kE (.int 10))))) ⟨[some (.val (.list (ns.map PyData.int))), none, none], []⟩ = .ok (.own (.lst (((ns ++ [0]).take k).map PyData.int))) ⟨[some (.val (.list (ns.map PyData.int))), none, none], []⟩ := by left
  have okl : OkD 1 (.list (ns.map PyData.int)) := .lst (.of fun d hd => by
    obtain ⟨z, _, rfl⟩ := List.mem_map.mp hd
    exact .int z)
  have okn : OkD 1 (.list []) := .lst .nil
  have a6 := eq_plain okl okn (by decide) (dqM_iff okl.plain)
  have lp : ∀ e0 : En, e0 = ⟨[some (.val (.list (ns.map PyData.int))), none, none], []⟩ → ∃ a b, forS (enuI (slE (binE gAdd (nmE 0) (lstE (consL (kE (.int 0)) (nilL)))) none (some (binE gMax2 (kE (.int 1)) (binE gMin2 (unE gLen (nmE 0)) (kE (.int 10))))))) (tgTup [1, 2]) (ifS (notB (tstT (callE G__law_holds (consR (callE G__law_source (consR (nmE 2) (consR (nmE 1) (nilR)))) (consR (iteE (tstB (binE gEq (nmE 0) (lstE (nilL)))) (kE (.int 4)) (kE (.int 40))) (nilR)))))) (retS (kE (.bool false))) (nxS)) e0 = .nx ⟨[some (.val (.list (ns.map PyData.int))), a, b], []⟩ := by
    rintro _ rfl
    have lp := forS_enu (ρ := Unit) (tg := tgTup [1, 2]) (bd := ifS (notB (tstT (callE G__law_holds (consR (callE G__law_source (consR (nmE 2) (consR (nmE 1) (nilR)))) (consR (iteE (tstB (binE gEq (nmE 0) (lstE (nilL)))) (kE (.int 4)) (kE (.int 40))) (nilR)))))) (retS (kE (.bool false))) (nxS)) ((ns ++ [0]).take k) PyData.int (s0 := ())
      (fun _ _ r => ∃ a b, r = ⟨[some (.val (.list (ns.map PyData.int))), a, b], []⟩) (fun _ _ _ => False) (fun _ _ => .ok ()) he rfl rfl ⟨_, _, rfl⟩ (fun _ _ r ⟨a, b, e⟩ => by rw [e]; rfl)
      (fun _ r i z ⟨a, b, e⟩ hz => by
        subst e
        have hi : i < 1000 := by
          have := (List.getElem?_eq_some_iff.mp hz).1
          rw [List.length_take] at this
          omega
        refine ⟨⟨[some (.val (.list (ns.map PyData.int))), some (.val (.int (i : Int))), some (.val (.int z))], []⟩, rfl, ?_⟩
        obtain ⟨s, hs, q1⟩ := run_source z hi
        have q2 : G__law_holds [.own (.lst (scD s)), .val (.int 4)] = .ret (.val (.bool true)) [] := run_holds (most := 4) (hs.le (by decide)) (by decide)
        have q3 : G__law_holds [.own (.lst (scD s)), .val (.int 40)] = .ret (.val (.bool true)) [] := run_holds (most := 40) (hs.le (by decide)) (by decide)
        clear hz hs he
        apply EndX.nx
        · cases hb : dqM (.list (ns.map PyData.int)) (.list []) with
          | true =>
            rw [hb] at a6
            have xi : iteE (tstB (binE gEq (nmE 0) (lstE (nilL)))) (kE (.int 4)) (kE (.int 40)) ⟨[some (.val (.list (ns.map PyData.int))), some (.val (.int (i : Int))), some (.val (.int z))], []⟩ = .ok (.val (.int 4)) ⟨[some (.val (.list (ns.map PyData.int))), some (.val (.int (i : Int))), some (.val (.int z))], []⟩ := ite_pos (by left) rfl
            have : ifS (notB (tstT (callE G__law_holds (consR (callE G__law_source (consR (nmE 2) (consR (nmE 1) (nilR)))) (consR (iteE (tstB (binE gEq (nmE 0) (lstE (nilL)))) (kE (.int 4)) (kE (.int 40))) (nilR)))))) (retS (kE (.bool false))) (nxS) ⟨[some (.val (.list (ns.map PyData.int))), some (.val (.int (i : Int))), some (.val (.int z))], []⟩ = .nx ⟨[some (.val (.list (ns.map PyData.int))), some (.val (.int (i : Int))), some (.val (.int z))], []⟩ := by within_ways
            exact this
          | false =>
            rw [hb] at a6
            have xi : iteE (tstB (binE gEq (nmE 0) (lstE (nilL)))) (kE (.int 4)) (kE (.int 40)) ⟨[some (.val (.list (ns.map PyData.int))), some (.val (.int (i : Int))), some (.val (.int z))], []⟩ = .ok (.val (.int 40)) ⟨[some (.val (.list (ns.map PyData.int))), some (.val (.int (i : Int))), some (.val (.int z))], []⟩ := ite_neg (by left) rfl
            have : ifS (notB (tstT (callE G__law_holds (consR (callE G__law_source (consR (nmE 2) (consR (nmE 1) (nilR)))) (consR (iteE (tstB (binE gEq (nmE 0) (lstE (nilL)))) (kE (.int 4)) (kE (.int 40))) (nilR)))))) (retS (kE (.bool false))) (nxS) ⟨[some (.val (.list (ns.map PyData.int))), some (.val (.int (i : Int))), some (.val (.int z))], []⟩ = .nx ⟨[some (.val (.list (ns.map PyData.int))), some (.val (.int (i : Int))), some (.val (.int z))], []⟩ := by within_ways
            exact this
        · exact ⟨_, _, rfl⟩)
    rw [foldX_ok] at lp
    obtain ⟨r', e1, a, b, e2⟩ := lp
    subst e2
    exact ⟨a, b, e1⟩
  obtain ⟨a, b, lp⟩ := lp _ rfl
  refine run_go rfl (by dict_keeps) (by delta b_law; within_ways) rfl
end Lw

/-! End10.lean -/
set_option Elab.async false
set_option linter.all false
set_option maxRecDepth 100000
set_option maxHeartbeats 0
namespace Lw
open PySem PySem.Spec PyProof.Rows L2 Mi
theorem all_mk {l : PySem.W.OpenLaw} {w : World} {K : PySem.W.Frag} {h : Heap} {mg : Str → Option Value} {fa : Addr} (X : K.In h) (G : h.Ns mainGlobals mg) (hfa : mg "law" = some (.ref fa))
    {f0 : Addr} {od0 an0 : Option Addr} {sl0 : Array (Option Value)} {oc0 kV0 dc0 pm0 cd0 ct0 : Value}
    (a0 : PySem.W.nsIn K mainGlobals "_law_draw" = some (some (.ref f0))) (l0 : K.lookup f0 = some ⟨oc0, od0, .func (PySem.W.fnOf "_law_draw" "_law_draw" (defArgs s__law_draw) (defBody s__law_draw) (defScope s__law_draw) .none kV0 dc0 pm0 an0 cd0 ct0), sl0⟩) (c0 : PySem.W.codeIn K cd0 "_law_draw" = true) (k0 : PySem.W.keepIn K (.ref f0) = true)
    {f1 : Addr} {od1 an1 : Option Addr} {sl1 : Array (Option Value)} {oc1 kV1 dc1 pm1 cd1 ct1 : Value}
    (a1 : PySem.W.nsIn K mainGlobals "_law_word_here" = some (some (.ref f1))) (l1 : K.lookup f1 = some ⟨oc1, od1, .func (PySem.W.fnOf "_law_word_here" "_law_word_here" (defArgs s__law_word_here) (defBody s__law_word_here) (defScope s__law_word_here) .none kV1 dc1 pm1 an1 cd1 ct1), sl1⟩) (c1 : PySem.W.codeIn K cd1 "_law_word_here" = true) (k1 : PySem.W.keepIn K (.ref f1) = true)
    {f2 : Addr} {od2 an2 : Option Addr} {sl2 : Array (Option Value)} {oc2 kV2 dc2 pm2 cd2 ct2 : Value}
    (a2 : PySem.W.nsIn K mainGlobals "_law_some_words" = some (some (.ref f2))) (l2 : K.lookup f2 = some ⟨oc2, od2, .func (PySem.W.fnOf "_law_some_words" "_law_some_words" (defArgs s__law_some_words) (defBody s__law_some_words) (defScope s__law_some_words) .none kV2 dc2 pm2 an2 cd2 ct2), sl2⟩) (c2 : PySem.W.codeIn K cd2 "_law_some_words" = true) (k2 : PySem.W.keepIn K (.ref f2) = true)
    {f3 : Addr} {od3 an3 : Option Addr} {sl3 : Array (Option Value)} {oc3 kV3 dc3 pm3 cd3 ct3 : Value}
    (a3 : PySem.W.nsIn K mainGlobals "is_list" = some (some (.ref f3))) (l3 : K.lookup f3 = some ⟨oc3, od3, .func (PySem.W.fnOf "is_list" "is_list" (defArgs s_is_list) (defBody s_is_list) (defScope s_is_list) .none kV3 dc3 pm3 an3 cd3 ct3), sl3⟩) (c3 : PySem.W.codeIn K cd3 "is_list" = true) (k3 : PySem.W.keepIn K (.ref f3) = true)
    {f4 : Addr} {od4 an4 : Option Addr} {sl4 : Array (Option Value)} {oc4 kV4 dc4 pm4 cd4 ct4 : Value}
    (a4 : PySem.W.nsIn K mainGlobals "is_name" = some (some (.ref f4))) (l4 : K.lookup f4 = some ⟨oc4, od4, .func (PySem.W.fnOf "is_name" "is_name" (defArgs s_is_name) (defBody s_is_name) (defScope s_is_name) .none kV4 dc4 pm4 an4 cd4 ct4), sl4⟩) (c4 : PySem.W.codeIn K cd4 "is_name" = true) (k4 : PySem.W.keepIn K (.ref f4) = true)
    {f5 : Addr} {od5 an5 : Option Addr} {sl5 : Array (Option Value)} {oc5 kV5 dc5 pm5 cd5 ct5 : Value}
    (a5 : PySem.W.nsIn K mainGlobals "redirection_step" = some (some (.ref f5))) (l5 : K.lookup f5 = some ⟨oc5, od5, .func (PySem.W.fnOf "redirection_step" "redirection_step" (defArgs s_redirection_step) (defBody s_redirection_step) (defScope s_redirection_step) .none kV5 dc5 pm5 an5 cd5 ct5), sl5⟩) (c5 : PySem.W.codeIn K cd5 "redirection_step" = true) (k5 : PySem.W.keepIn K (.ref f5) = true)
    {f6 : Addr} {od6 an6 : Option Addr} {sl6 : Array (Option Value)} {oc6 kV6 dc6 pm6 cd6 ct6 : Value}
    (a6 : PySem.W.nsIn K mainGlobals "check_words" = some (some (.ref f6))) (l6 : K.lookup f6 = some ⟨oc6, od6, .func (PySem.W.fnOf "check_words" "check_words" (defArgs s_check_words) (defBody s_check_words) (defScope s_check_words) .none kV6 dc6 pm6 an6 cd6 ct6), sl6⟩) (c6 : PySem.W.codeIn K cd6 "check_words" = true) (k6 : PySem.W.keepIn K (.ref f6) = true)
    {f7 : Addr} {od7 an7 : Option Addr} {sl7 : Array (Option Value)} {oc7 kV7 dc7 pm7 cd7 ct7 : Value}
    (a7 : PySem.W.nsIn K mainGlobals "table_behind" = some (some (.ref f7))) (l7 : K.lookup f7 = some ⟨oc7, od7, .func (PySem.W.fnOf "table_behind" "table_behind" (defArgs s_table_behind) (defBody s_table_behind) (defScope s_table_behind) .none kV7 dc7 pm7 an7 cd7 ct7), sl7⟩) (c7 : PySem.W.codeIn K cd7 "table_behind" = true) (k7 : PySem.W.keepIn K (.ref f7) = true)
    {f8 : Addr} {od8 an8 : Option Addr} {sl8 : Array (Option Value)} {oc8 kV8 dc8 pm8 cd8 ct8 : Value}
    (a8 : PySem.W.nsIn K mainGlobals "run_words" = some (some (.ref f8))) (l8 : K.lookup f8 = some ⟨oc8, od8, .func (PySem.W.fnOf "run_words" "run_words" (defArgs s_run_words) (defBody s_run_words) (defScope s_run_words) .none kV8 dc8 pm8 an8 cd8 ct8), sl8⟩) (c8 : PySem.W.codeIn K cd8 "run_words" = true) (k8 : PySem.W.keepIn K (.ref f8) = true)
    {f9 : Addr} {od9 an9 : Option Addr} {sl9 : Array (Option Value)} {oc9 kV9 dc9 pm9 cd9 ct9 : Value}
    (a9 : PySem.W.nsIn K mainGlobals "form_of" = some (some (.ref f9))) (l9 : K.lookup f9 = some ⟨oc9, od9, .func (PySem.W.fnOf "form_of" "form_of" (defArgs s_form_of) (defBody s_form_of) (defScope s_form_of) .none kV9 dc9 pm9 an9 cd9 ct9), sl9⟩) (c9 : PySem.W.codeIn K cd9 "form_of" = true) (k9 : PySem.W.keepIn K (.ref f9) = true)
    {f10 : Addr} {od10 an10 : Option Addr} {sl10 : Array (Option Value)} {oc10 kV10 dc10 pm10 cd10 ct10 : Value}
    (a10 : PySem.W.nsIn K mainGlobals "normal_form" = some (some (.ref f10))) (l10 : K.lookup f10 = some ⟨oc10, od10, .func (PySem.W.fnOf "normal_form" "normal_form" (defArgs s_normal_form) (defBody s_normal_form) (defScope s_normal_form) .none kV10 dc10 pm10 an10 cd10 ct10), sl10⟩) (c10 : PySem.W.codeIn K cd10 "normal_form" = true) (k10 : PySem.W.keepIn K (.ref f10) = true)
    {f11 : Addr} {od11 an11 : Option Addr} {sl11 : Array (Option Value)} {oc11 kV11 dc11 pm11 cd11 ct11 : Value}
    (a11 : PySem.W.nsIn K mainGlobals "_law_played" = some (some (.ref f11))) (l11 : K.lookup f11 = some ⟨oc11, od11, .func (PySem.W.fnOf "_law_played" "_law_played" (defArgs s__law_played) (defBody s__law_played) (defScope s__law_played) .none kV11 dc11 pm11 an11 cd11 ct11), sl11⟩) (c11 : PySem.W.codeIn K cd11 "_law_played" = true) (k11 : PySem.W.keepIn K (.ref f11) = true)
    {f12 : Addr} {od12 an12 : Option Addr} {sl12 : Array (Option Value)} {oc12 kV12 dc12 pm12 cd12 ct12 : Value}
    (a12 : PySem.W.nsIn K mainGlobals "_law_form" = some (some (.ref f12))) (l12 : K.lookup f12 = some ⟨oc12, od12, .func (PySem.W.fnOf "_law_form" "_law_form" (defArgs s__law_form) (defBody s__law_form) (defScope s__law_form) .none kV12 dc12 pm12 an12 cd12 ct12), sl12⟩) (c12 : PySem.W.codeIn K cd12 "_law_form" = true) (k12 : PySem.W.keepIn K (.ref f12) = true)
    {f13 : Addr} {od13 an13 : Option Addr} {sl13 : Array (Option Value)} {oc13 kV13 dc13 pm13 cd13 ct13 : Value}
    (a13 : PySem.W.nsIn K mainGlobals "_law_right" = some (some (.ref f13))) (l13 : K.lookup f13 = some ⟨oc13, od13, .func (PySem.W.fnOf "_law_right" "_law_right" (defArgs s__law_right) (defBody s__law_right) (defScope s__law_right) .none kV13 dc13 pm13 an13 cd13 ct13), sl13⟩) (c13 : PySem.W.codeIn K cd13 "_law_right" = true) (k13 : PySem.W.keepIn K (.ref f13) = true)
    {f14 : Addr} {od14 an14 : Option Addr} {sl14 : Array (Option Value)} {oc14 kV14 dc14 pm14 cd14 ct14 : Value}
    (a14 : PySem.W.nsIn K mainGlobals "_law_holds" = some (some (.ref f14))) (l14 : K.lookup f14 = some ⟨oc14, od14, .func (PySem.W.fnOf "_law_holds" "_law_holds" (defArgs s__law_holds) (defBody s__law_holds) (defScope s__law_holds) .none kV14 dc14 pm14 an14 cd14 ct14), sl14⟩) (c14 : PySem.W.codeIn K cd14 "_law_holds" = true) (k14 : PySem.W.keepIn K (.ref f14) = true)
    {f15 : Addr} {od15 an15 : Option Addr} {sl15 : Array (Option Value)} {oc15 kV15 dc15 pm15 cd15 ct15 : Value}
    (a15 : PySem.W.nsIn K mainGlobals "_law_source" = some (some (.ref f15))) (l15 : K.lookup f15 = some ⟨oc15, od15, .func (PySem.W.fnOf "_law_source" "_law_source" (defArgs s__law_source) (defBody s__law_source) (defScope s__law_source) .none kV15 dc15 pm15 an15 cd15 ct15), sl15⟩) (c15 : PySem.W.codeIn K cd15 "_law_source" = true) (k15 : PySem.W.keepIn K (.ref f15) = true)
    {f16 : Addr} {od16 an16 : Option Addr} {sl16 : Array (Option Value)} {oc16 kV16 dc16 pm16 cd16 ct16 : Value}
    (a16 : PySem.W.nsIn K mainGlobals "law" = some (some (.ref f16))) (l16 : K.lookup f16 = some ⟨oc16, od16, .func (PySem.W.fnOf "law" "law" (defArgs s_law) (defBody s_law) (defScope s_law) .none kV16 dc16 pm16 an16 cd16 ct16), sl16⟩) (c16 : PySem.W.codeIn K cd16 "law" = true) (k16 : PySem.W.keepIn K (.ref f16) = true)
    (z_len : PySem.W.nsIn K mainGlobals "len" = some none)
    (z_list : PySem.W.nsIn K mainGlobals "list" = some none)
    (z_tuple : PySem.W.nsIn K mainGlobals "tuple" = some none)
    (z_range : PySem.W.nsIn K mainGlobals "range" = some none)
    (z_enumerate : PySem.W.nsIn K mainGlobals "enumerate" = some none)
    (z_int : PySem.W.nsIn K mainGlobals "int" = some none)
    (z_str : PySem.W.nsIn K mainGlobals "str" = some none)
    (z_max : PySem.W.nsIn K mainGlobals "max" = some none)
    (z_min : PySem.W.nsIn K mainGlobals "min" = some none)
    (z_all : PySem.W.nsIn K mainGlobals "all" = some none)
    (z_sorted : PySem.W.nsIn K mainGlobals "sorted" = some none)
    (z_repr : PySem.W.nsIn K mainGlobals "repr" = some none)
    (z_isinstance : PySem.W.nsIn K mainGlobals "isinstance" = some none)
    (z_type : PySem.W.nsIn K mainGlobals "type" = some none)
    {t_DESCRIPTORS} (y_DESCRIPTORS : PySem.W.nsIn K mainGlobals "DESCRIPTORS" = some (some (.int 10 t_DESCRIPTORS)))
    {t_DIGITS} (y_DIGITS : PySem.W.nsIn K mainGlobals "DIGITS" = some (some (.str "0123456789" t_DIGITS)))
    {t_MOST_LETTERS} (y_MOST_LETTERS : PySem.W.nsIn K mainGlobals "MOST_LETTERS" = some (some (.int 8 t_MOST_LETTERS)))
    {t_MOST_WORDS} (y_MOST_WORDS : PySem.W.nsIn K mainGlobals "MOST_WORDS" = some (some (.int 40 t_MOST_WORDS)))
    : ∃ fd : FuncData, (∀ (s : Shared) (v : Value), BindsTo s fd ⟨[v], []⟩ [("script", v)]) ∧ ∀ base : Heap, K.In base → base.Ns mainGlobals mg → FnG l.prog w K mg base 8 fa fd ["script"] (spF K 1 3 b_law) := by
  have e := hfa.symm.trans (PySem.W.mg_of X G a16)
  cases e
  have N : Nm mg := ⟨PySem.W.mg_none_of X G z_len, PySem.W.mg_none_of X G z_list, PySem.W.mg_none_of X G z_tuple, PySem.W.mg_none_of X G z_range, PySem.W.mg_none_of X G z_enumerate, PySem.W.mg_none_of X G z_int, PySem.W.mg_none_of X G z_str, PySem.W.mg_none_of X G z_max, PySem.W.mg_none_of X G z_min, PySem.W.mg_none_of X G z_all, PySem.W.mg_none_of X G z_sorted, PySem.W.mg_none_of X G z_repr, PySem.W.mg_none_of X G z_isinstance, PySem.W.mg_none_of X G z_type, ⟨_, PySem.W.mg_of X G y_DESCRIPTORS⟩, ⟨_, PySem.W.mg_of X G y_DIGITS⟩, ⟨_, PySem.W.mg_of X G y_MOST_LETTERS⟩, ⟨_, PySem.W.mg_of X G y_MOST_WORDS⟩⟩
  refine ⟨PySem.W.fnOf "law" "law" (defArgs s_law) (defBody s_law) (defScope s_law) .none kV16 dc16 pm16 an16 cd16 ct16, fun s v => .of_eq rfl, fun base _ _ => ?_⟩
  have F0 := fun_mk (st := s__law_draw) l0 c0 k0
  have D__law_draw : Def l.prog w K mg base "_law_draw" 1 2 4 b__law_draw := ⟨f0, _, ["source", "span"], PySem.W.mg_of X G a0, k0, F0.binds (ps := ["source", "span"]) (fun _ _ _ _ _ _ us hl => match us, hl with | [_, _], _ => rfl), rfl, k__law_draw F0 N ⟩
  have F1 := fun_mk (st := s__law_word_here) l1 c1 k1
  have D__law_word_here : Def l.prog w K mg base "_law_word_here" 2 2 8 b__law_word_here := ⟨f1, _, ["source", "size"], PySem.W.mg_of X G a1, k1, F1.binds (ps := ["source", "size"]) (fun _ _ _ _ _ _ us hl => match us, hl with | [_, _], _ => rfl), rfl, k__law_word_here F1 N D__law_draw⟩
  have F2 := fun_mk (st := s__law_some_words) l2 c2 k2
  have D__law_some_words : Def l.prog w K mg base "_law_some_words" 3 2 4 b__law_some_words := ⟨f2, _, ["source", "most"], PySem.W.mg_of X G a2, k2, F2.binds (ps := ["source", "most"]) (fun _ _ _ _ _ _ us hl => match us, hl with | [_, _], _ => rfl), rfl, k__law_some_words F2 N D__law_draw D__law_word_here⟩
  have F3 := fun_mk (st := s_is_list) l3 c3 k3
  have D_is_list : Def l.prog w K mg base "is_list" 1 1 1 b_is_list := ⟨f3, _, ["value"], PySem.W.mg_of X G a3, k3, F3.binds (ps := ["value"]) (fun _ _ _ _ _ _ us hl => match us, hl with | [_], _ => rfl), rfl, k_is_list F3 N ⟩
  have F4 := fun_mk (st := s_is_name) l4 c4 k4
  have D_is_name : Def l.prog w K mg base "is_name" 1 1 2 b_is_name := ⟨f4, _, ["value"], PySem.W.mg_of X G a4, k4, F4.binds (ps := ["value"]) (fun _ _ _ _ _ _ us hl => match us, hl with | [_], _ => rfl), rfl, k_is_name F4 N ⟩
  have F5 := fun_mk (st := s_redirection_step) l5 c5 k5
  have D_redirection_step : Def l.prog w K mg base "redirection_step" 2 1 4 b_redirection_step := ⟨f5, _, ["value"], PySem.W.mg_of X G a5, k5, F5.binds (ps := ["value"]) (fun _ _ _ _ _ _ us hl => match us, hl with | [_], _ => rfl), rfl, k_redirection_step F5 N D_is_name⟩
  have F6 := fun_mk (st := s_check_words) l6 c6 k6
  have D_check_words : Def l.prog w K mg base "check_words" 3 1 3 b_check_words := ⟨f6, _, ["value"], PySem.W.mg_of X G a6, k6, F6.binds (ps := ["value"]) (fun _ _ _ _ _ _ us hl => match us, hl with | [_], _ => rfl), rfl, k_check_words F6 N D_is_list D_redirection_step⟩
  have F7 := fun_mk (st := s_table_behind) l7 c7 k7
  have D_table_behind : Def l.prog w K mg base "table_behind" 1 3 5 b_table_behind := ⟨f7, _, ["table", "step", "fresh"], PySem.W.mg_of X G a7, k7, F7.binds (ps := ["table", "step", "fresh"]) (fun _ _ _ _ _ _ us hl => match us, hl with | [_, _, _], _ => rfl), rfl, k_table_behind F7 N ⟩
  have F8 := fun_mk (st := s_run_words) l8 c8 k8
  have D_run_words : Def l.prog w K mg base "run_words" 3 2 8 b_run_words := ⟨f8, _, ["words", "table"], PySem.W.mg_of X G a8, k8, F8.binds (ps := ["words", "table"]) (fun _ _ _ _ _ _ us hl => match us, hl with | [_, _], _ => rfl), rfl, k_run_words F8 N D_redirection_step D_table_behind⟩
  have F9 := fun_mk (st := s_form_of) l9 c9 k9
  have D_form_of : Def l.prog w K mg base "form_of" 4 1 9 b_form_of := ⟨f9, _, ["words"], PySem.W.mg_of X G a9, k9, F9.binds (ps := ["words"]) (fun _ _ _ _ _ _ us hl => match us, hl with | [_], _ => rfl), rfl, k_form_of F9 N D_run_words⟩
  have F10 := fun_mk (st := s_normal_form) l10 c10 k10
  have D_normal_form : Def l.prog w K mg base "normal_form" 5 1 1 b_normal_form := ⟨f10, _, ["words"], PySem.W.mg_of X G a10, k10, F10.binds (ps := ["words"]) (fun _ _ _ _ _ _ us hl => match us, hl with | [_], _ => rfl), rfl, k_normal_form F10 N D_check_words D_form_of⟩
  have DK_normal_form_words : DefK l.prog w K mg base "normal_form" 5 1 1 b_normal_form ["words"] [0] := ⟨f10, _, ["words"], PySem.W.mg_of X G a10, k10, Mi.Fun.kws F10 (ps := ["words"]) (ks := ["words"]) (pm := [0]) (fun _ _ _ _ _ _ ws hl => match ws, hl with | [_], _ => rfl), rfl, k_normal_form F10 N D_check_words D_form_of⟩
  have F11 := fun_mk (st := s__law_played) l11 c11 k11
  have D__law_played : Def l.prog w K mg base "_law_played" 1 2 7 b__law_played := ⟨f11, _, ["words_here", "first"], PySem.W.mg_of X G a11, k11, F11.binds (ps := ["words_here", "first"]) (fun _ _ _ _ _ _ us hl => match us, hl with | [_, _], _ => rfl), rfl, k__law_played F11 N ⟩
  have F12 := fun_mk (st := s__law_form) l12 c12 k12
  have D__law_form : Def l.prog w K mg base "_law_form" 2 1 7 b__law_form := ⟨f12, _, ["words_here"], PySem.W.mg_of X G a12, k12, F12.binds (ps := ["words_here"]) (fun _ _ _ _ _ _ us hl => match us, hl with | [_], _ => rfl), rfl, k__law_form F12 N D__law_played⟩
  have F13 := fun_mk (st := s__law_right) l13 c13 k13
  have D__law_right : Def l.prog w K mg base "_law_right" 6 1 3 b__law_right := ⟨f13, _, ["row"], PySem.W.mg_of X G a13, k13, F13.binds (ps := ["row"]) (fun _ _ _ _ _ _ us hl => match us, hl with | [_], _ => rfl), rfl, k__law_right F13 N D__law_form D_normal_form DK_normal_form_words⟩
  have F14 := fun_mk (st := s__law_holds) l14 c14 k14
  have D__law_holds : Def l.prog w K mg base "_law_holds" 7 2 5 b__law_holds := ⟨f14, _, ["source", "most"], PySem.W.mg_of X G a14, k14, F14.binds (ps := ["source", "most"]) (fun _ _ _ _ _ _ us hl => match us, hl with | [_, _], _ => rfl), rfl, k__law_holds F14 N D__law_some_words D_normal_form D__law_right D__law_form⟩
  have F15 := fun_mk (st := s__law_source) l15 c15 k15
  have D__law_source : Def l.prog w K mg base "_law_source" 1 2 2 b__law_source := ⟨f15, _, ["cell", "k"], PySem.W.mg_of X G a15, k15, F15.binds (ps := ["cell", "k"]) (fun _ _ _ _ _ _ us hl => match us, hl with | [_, _], _ => rfl), rfl, k__law_source F15 N ⟩
  have F16 := fun_mk (st := s_law) l16 c16 k16
  exact k_law F16 N D__law_holds D__law_source
end Lw
open PySem PySem.W PyProof.Rows
set_option maxHeartbeats 0 in
theorem PySem.Challenge.cw_fdwires_k10_normal_forms_holds : PySem.Challenge.rw_fdwires_k10_normal_forms.Holds := by
  w_on; o_law; k_head; (case hw => w_witness2)
  k_fill
  refine Mi.law_end (l := PySem.Challenge.rw_fdwires_k10_normal_forms) (n := 3) (k := 8) (x := "script") (bd := Lw.b_law) rfl rfl ⟨rfl, by decide, by decide⟩ (fun w h Y => PySem.W.kIn_of Y) ?F (by decide) fun ns h _ => Lw.pure ns h
  case F =>
    intro w mg fa h KX G hmg
    refine' Lw.all_mk KX G hmg ?a0 ?l0 ?c0 ?k0 ?a1 ?l1 ?c1 ?k1 ?a2 ?l2 ?c2 ?k2 ?a3 ?l3 ?c3 ?k3 ?a4 ?l4 ?c4 ?k4 ?a5 ?l5 ?c5 ?k5 ?a6 ?l6 ?c6 ?k6 ?a7 ?l7 ?c7 ?k7 ?a8 ?l8 ?c8 ?k8 ?a9 ?l9 ?c9 ?k9 ?a10 ?l10 ?c10 ?k10 ?a11 ?l11 ?c11 ?k11 ?a12 ?l12 ?c12 ?k12 ?a13 ?l13 ?c13 ?k13 ?a14 ?l14 ?c14 ?k14 ?a15 ?l15 ?c15 ?k15 ?a16 ?l16 ?c16 ?k16 ?z_len ?z_list ?z_tuple ?z_range ?z_enumerate ?z_int ?z_str ?z_max ?z_min ?z_all ?z_sorted ?z_repr ?z_isinstance ?z_type ?y_DESCRIPTORS ?y_DIGITS ?y_MOST_LETTERS ?y_MOST_WORDS
    (case a0 => k_is); (case l0 => k_is); (case c0 => k_is); (case k0 => k_is); (case a1 => k_is); (case l1 => k_is); (case c1 => k_is); (case k1 => k_is); (case a2 => k_is); (case l2 => k_is); (case c2 => k_is); (case k2 => k_is); (case a3 => k_is); (case l3 => k_is); (case c3 => k_is); (case k3 => k_is); (case a4 => k_is); (case l4 => k_is); (case c4 => k_is); (case k4 => k_is); (case a5 => k_is); (case l5 => k_is); (case c5 => k_is); (case k5 => k_is); (case a6 => k_is); (case l6 => k_is); (case c6 => k_is); (case k6 => k_is); (case a7 => k_is); (case l7 => k_is); (case c7 => k_is); (case k7 => k_is); (case a8 => k_is); (case l8 => k_is); (case c8 => k_is); (case k8 => k_is); (case a9 => k_is); (case l9 => k_is); (case c9 => k_is); (case k9 => k_is); (case a10 => k_is); (case l10 => k_is); (case c10 => k_is); (case k10 => k_is); (case a11 => k_is); (case l11 => k_is); (case c11 => k_is); (case k11 => k_is); (case a12 => k_is); (case l12 => k_is); (case c12 => k_is); (case k12 => k_is); (case a13 => k_is); (case l13 => k_is); (case c13 => k_is); (case k13 => k_is); (case a14 => k_is); (case l14 => k_is); (case c14 => k_is); (case k14 => k_is); (case a15 => k_is); (case l15 => k_is); (case c15 => k_is); (case k15 => k_is); (case a16 => k_is); (case l16 => k_is); (case c16 => k_is); (case k16 => k_is); (case z_len => k_is); (case z_list => k_is); (case z_tuple => k_is); (case z_range => k_is); (case z_enumerate => k_is); (case z_int => k_is); (case z_str => k_is); (case z_max => k_is); (case z_min => k_is); (case z_all => k_is); (case z_sorted => k_is); (case z_repr => k_is); (case z_isinstance => k_is); (case z_type => k_is); (case y_DESCRIPTORS => k_is); (case y_DIGITS => k_is); (case y_MOST_LETTERS => k_is); (case y_MOST_WORDS => k_is)
