import PyProof.Rows.All
import Wide.All
import OpenK.AllK
import Wide.FinOn
import HandS.ForMost
import HandS.ForExc
import HandS.Wide
import HandS.Gcd
import HandS.Deep
import HandS.Rev
import HandS.Style
import HandS.TupAny
import HandS.More
import HandS.Text
import HandS.IsInst
import HandS.Iter
import KE.KDictPairs
import HandS.Flow
import HandS.FStr
import HandS.StrMore
import HandS.SetTxt0
import HandS.SetBool
import PySem.Challenge.RW_linpapers_k06_values_and_points
set_option Elab.async false
set_option linter.all false
set_option maxRecDepth 100000
set_option maxHeartbeats 4000000
/-! A layer of my own over the hand layer: pure defs over plain data. A def's body is read as a function over data environments; the heap stays below. -/
namespace L2
open PySem PySem.Spec PyProof.Rows
/-! ### data, its tuples objects without a dict of their own -/
def SqN (K : PySem.W.Frag) (H : Hp) (a : Addr) (xs : List V) : Prop :=
  (∃ o : Obj, o.dict = none ∧ H a = some (.frz o (.tup xs))) ∨
    ∃ (o : Obj) (its : Array Value) (n : Nat), o.dict = none ∧ K.lookup a = some o ∧ o.cls = .type "tuple" ∧ o.data = .seq its n ∧ its.size ≤ sizeLine ∧ Vals xs its.toList
theorem SqN.t {K : PySem.W.Frag} {H : Hp} {a : Addr} {xs : List V} (h : SqN K H a xs) : SqT K H a xs := by
  rcases h with ⟨o, _, h⟩ | ⟨o, its, n, _, h⟩
  · exact .inl (.inr ⟨o, h⟩)
  · exact .inr ⟨o, its, n, h⟩
theorem SqN.of {K : PySem.W.Frag} {H : Hp} {a : Addr} {xs : List V} {o : Obj} (hd : o.dict = none) (h : H a = some (.frz o (.tup xs))) : SqN K H a xs := .inl ⟨o, hd, h⟩
theorem SqN.same {K : PySem.W.Frag} {H H' : Hp} {a : Addr} {xs : List V} (e : Same H H') (h : SqN K H a xs) : SqN K H' a xs := by
  rcases h with ⟨o, hd, h⟩ | h
  · exact .inl ⟨o, hd, e _ _ h⟩
  · exact .inr h
mutual
inductive Dq (K : PySem.W.Frag) (H : Hp) : V → PyData → Prop
  | non : Dq K H .non .none
  | bl (b : Bool) : Dq K H (.bl b) (.bool b)
  | int (i : Int) : Dq K H (.int i) (.int i)
  | str (x : Str) : Dq K H (.str x) (.str x)
  | lst {a : Addr} {xs : List V} {ds : List PyData} : SqL K H a xs → DqAll K H xs ds → Dq K H (.ref a) (.list ds)
  | tup {a : Addr} {xs : List V} {ds : List PyData} : SqN K H a xs → DqAll K H xs ds → Dq K H (.ref a) (.tuple ds)
inductive DqAll (K : PySem.W.Frag) (H : Hp) : List V → List PyData → Prop
  | nil : DqAll K H [] []
  | cons {v : V} {vs : List V} {d : PyData} {ds : List PyData} : Dq K H v d → DqAll K H vs ds → DqAll K H (v :: vs) (d :: ds)
end
mutual
theorem Dq.p {K : PySem.W.Frag} {H : Hp} : ∀ {d : PyData} {v : V}, Dq K H v d → Dp K H v d
  | .none, _, h => by cases h; exact .non
  | .bool b, _, h => by cases h; exact .bl b
  | .int i, _, h => by cases h; exact .int i
  | .str x, _, h => by cases h; exact .str x
  | .list ds, _, h => by
    cases h with
    | lst hs ha => exact .lst hs ha.p
  | .tuple ds, _, h => by
    cases h with
    | tup hs ha => exact .tup hs.t ha.p
  | .dict _, _, h => by cases h
theorem DqAll.p {K : PySem.W.Frag} {H : Hp} : ∀ {ds : List PyData} {vs : List V}, DqAll K H vs ds → DpAll K H vs ds
  | [], _, h => by cases h; exact .nil
  | d :: ds, _, h => by
    cases h with
    | cons h1 h2 => exact .cons h1.p h2.p
end
end L2
namespace DL
open PySem PySem.Spec PyProof.Rows L2

/-! ### what a slot holds -/
/-- nothing known; data that nobody changes; a list of this frame's own, nowhere else -/
inductive Ent where
  | un
  | d (x : PyData)
  | own (xs : List PyData)
  /-- a dict of this frame's own, nowhere else; a dict that is merely read here -/
  | dct (kvs : List (Key × PyData))
  | rdd (kvs : List (Key × PyData))
abbrev Rho := List Ent
structure Exn where
  nm : Str
  fs : List (Str × PyData)
inductive Res (α : Type) where
  | ok (a : α) (ρ : Rho)
  | ex (e : Exn) (ρ : Rho)
  | bad
def Res.bind {α β : Type} : Res α → (α → Rho → Res β) → Res β
  | .ok a ρ, f => f a ρ
  | .ex e ρ, _ => .ex e ρ
  | .bad, _ => .bad
inductive Out where
  | nx (ρ : Rho)
  | rt (d : PyData)
  | bk (ρ : Rho)
  | ct (ρ : Rho)
  | ex (e : Exn) (ρ : Rho)
  | bad
def Out.bind : Out → (Rho → Out) → Out
  | .nx ρ, f => f ρ
  | o, _ => o
def Res.out {α : Type} : Res α → (α → Rho → Out) → Out
  | .ok a ρ, f => f a ρ
  | .ex e ρ, _ => .ex e ρ
  | .bad, _ => .bad
/-- what a def hands back -/
inductive FR where
  | ok (d : PyData)
  | ex (e : Exn)
  | bad
abbrev Fn := List PyData → FR

structure KM where
  K : PySem.W.Frag
  mg : Str → Option Value
abbrev _root_.PySem.Cx' := L2.Cx
abbrev km (X : L2.Cx) : KM := ⟨X.K, X.mg⟩

/-! ### data is kept where the heap grows -/
theorem seqT_same {K : PySem.W.Frag} {H H' : Hp} {a : Addr} {xs : List V} (e : Same H H') (h : SqN K H a xs) : SqT K H' a xs := (h.same e).t
mutual
theorem dp_same {K : PySem.W.Frag} {H H' : Hp} (e : Same H H') : ∀ (d : PyData) (v : V), Dq K H v d → Dq K H' v d
  | .none, _, h => by cases h; exact .non
  | .bool b, _, h => by cases h; exact .bl b
  | .int i, _, h => by cases h; exact .int i
  | .str x, _, h => by cases h; exact .str x
  | .list ds, _, h => by
    cases h with
    | lst hs ha => exact .lst (e.seq hs) (dpAll_same e ds _ ha)
  | .tuple ds, _, h => by
    cases h with
    | tup hs ha => exact .tup (hs.same e) (dpAll_same e ds _ ha)
  | .dict _, _, h => by cases h
theorem dpAll_same {K : PySem.W.Frag} {H H' : Hp} (e : Same H H') : ∀ (ds : List PyData) (vs : List V), DqAll K H vs ds → DqAll K H' vs ds
  | [], _, h => by cases h; exact .nil
  | d :: ds, _, h => by
    cases h with
    | cons h1 h2 => exact .cons (dp_same e d _ h1) (dpAll_same e ds _ h2)
end
end DL
namespace L2
open PySem PySem.Spec PyProof.Rows
theorem DqAll.len {K : PySem.W.Frag} {H : Hp} : ∀ {ds : List PyData} {vs : List V}, DqAll K H vs ds → vs.length = ds.length
  | [], _, h => by cases h; rfl
  | d :: ds, _, h => by
    cases h with
    | cons h1 h2 => simp [DqAll.len h2]
theorem DqAll.get {K : PySem.W.Frag} {H : Hp} : ∀ {ds : List PyData} {vs : List V} {i : Nat} {d : PyData}, DqAll K H vs ds → ds[i]? = some d → ∃ v, vs[i]? = some v ∧ Dq K H v d
  | [], _, _, _, _, e => by simp at e
  | d :: ds, _, 0, _, h, e => by
    cases h with
    | cons h1 h2 => simp at e; subst e; exact ⟨_, rfl, h1⟩
  | d :: ds, _, i + 1, _, h, e => by
    cases h with
    | cons h1 h2 => exact DqAll.get (i := i) h2 (by simpa using e)
theorem DqAll.append {K : PySem.W.Frag} {H : Hp} : ∀ {ds es : List PyData} {vs us : List V}, DqAll K H vs ds → DqAll K H us es → DqAll K H (vs ++ us) (ds ++ es)
  | [], _, _, _, h, q => by cases h; exact q
  | d :: ds, _, _, _, h, q => by
    cases h with
    | cons h1 h2 => exact .cons h1 (DqAll.append h2 q)
theorem DqAll.drop {K : PySem.W.Frag} {H : Hp} : ∀ {ds : List PyData} {vs : List V} (n : Nat), DqAll K H vs ds → DqAll K H (vs.drop n) (ds.drop n)
  | _, _, 0, h => h
  | [], _, _ + 1, h => by cases h; exact .nil
  | d :: ds, _, n + 1, h => by
    cases h with
    | cons h1 h2 => exact DqAll.drop n h2
theorem DqAll.take {K : PySem.W.Frag} {H : Hp} : ∀ {ds : List PyData} {vs : List V} (n : Nat), DqAll K H vs ds → DqAll K H (vs.take n) (ds.take n)
  | _, _, 0, h => .nil
  | [], _, _ + 1, h => by cases h; exact .nil
  | d :: ds, _, n + 1, h => by
    cases h with
    | cons h1 h2 => exact .cons h1 (DqAll.take n h2)
theorem DqAll.reverse {K : PySem.W.Frag} {H : Hp} : ∀ {ds : List PyData} {vs : List V}, DqAll K H vs ds → DqAll K H vs.reverse ds.reverse
  | [], _, h => by cases h; exact .nil
  | d :: ds, _, h => by
    cases h with
    | cons h1 h2 =>
      rw [List.reverse_cons, List.reverse_cons]
      exact DqAll.append (DqAll.reverse h2) (.cons h1 .nil)
theorem DqAll.set {K : PySem.W.Frag} {H : Hp} {v : V} {d : PyData} (q : Dq K H v d) : ∀ {ds : List PyData} {vs : List V} (n : Nat), DqAll K H vs ds → DqAll K H (vs.set n v) (ds.set n d)
  | [], _, _, h => by cases h; exact .nil
  | _ :: ds, _, 0, h => by
    cases h with
    | cons h1 h2 => exact .cons q h2
  | _ :: ds, _, n + 1, h => by
    cases h with
    | cons h1 h2 => exact .cons h1 (DqAll.set q n h2)
/-- a dict's pairs -/
abbrev DK (K : PySem.W.Frag) (H : Hp) : List (Key × V) → List (Key × PyData) → Prop := Paired fun p q => p.1 = q.1 ∧ Dq K H p.2 q.2
theorem DqAll.ints {K : PySem.W.Frag} {H : Hp} : ∀ ns : List Int, DqAll K H (ns.map V.int) (ns.map PyData.int)
  | [] => .nil
  | n :: ns => .cons (.int n) (DqAll.ints ns)

end L2
namespace DL
open PySem PySem.Spec PyProof.Rows L2
/-! ### the frozen part G of the heap H grows; what was not in it stays out of it -/
structure Ext (G H G' H' : Hp) : Prop where
  g : Same G G'
  h : Same H H'
  gh : Same G' H'
  cap : ∀ b, H b ≠ none → G b = none → G' b = none
theorem Ext.refl {G H : Hp} (gh : Same G H) : Ext G H G H := ⟨Same.refl _, Same.refl _, gh, fun _ _ h => h⟩
theorem Ext.trans {G H G1 H1 G2 H2 : Hp} (a : Ext G H G1 H1) (b : Ext G1 H1 G2 H2) : Ext G H G2 H2 :=
  ⟨a.g.trans b.g, a.h.trans b.h, b.gh, fun x h1 h2 => b.cap x (fun z => h1 (a.h.free z)) (a.cap x h1 h2)⟩
theorem dk_same {K : PySem.W.Frag} {H H' : Hp} (e : Same H H') : ∀ {vs : List (Key × V)} {kvs : List (Key × PyData)}, DK K H vs kvs → DK K H' vs kvs
  | _, _, .nil => .nil
  | _, _, .cons h t => .cons ⟨h.1, dp_same e _ _ h.2⟩ (dk_same e t)
theorem upd_same_of {H : Hp} {p : Addr} {o : HO} (h : H p = none) : Same H (upd H p o) := fun b x e => by
  rw [upd_ne (ne_of_none e h)]
  exact e
/-- a new frozen object -/
theorem Ext.new {G H : Hp} {p : Addr} {o : HO} (gh : Same G H) (hp : H p = none) : Ext G H (upd G p o) (upd H p o) := by
  refine ⟨upd_same_of (gh.free hp), upd_same_of hp, fun b x e => ?_, fun b h1 h2 => ?_⟩
  · by_cases hb : b = p
    · subst hb; rw [upd_same] at e ⊢; exact e
    · rw [upd_ne hb] at e ⊢; exact gh _ _ e
  · rw [upd_ne (fun z => h1 (by rw [z]; exact hp))]; exact h2
/-- a new object, not frozen -/
theorem Ext.newOwn {G H : Hp} {p : Addr} {o : HO} (gh : Same G H) (hp : H p = none) : Ext G H G (upd H p o) :=
  ⟨Same.refl _, upd_same_of hp, gh.trans (upd_same_of hp), fun _ _ h => h⟩

structure Bx where
  G : Hp
  H : Hp

inductive EntOk (K : PySem.W.Frag) (B : Bx) (G H : Hp) : Option (Option V) → Ent → Prop
  | un {o : Option (Option V)} : EntOk K B G H o .un
  | d {v : V} {x : PyData} : Dq K G v x → EntOk K B G H (some (some v)) (.d x)
  | own {a : Addr} {vs : List V} {xs : List PyData} : H a = some (.lst vs) → G a = none → B.H a = none → DqAll K G vs xs → EntOk K B G H (some (some (.ref a))) (.own xs)
  | dct {a : Addr} {vs : List (Key × V)} {kvs : List (Key × PyData)} : H a = some (.dK vs) → G a = none → B.H a = none → DK K G vs kvs → EntOk K B G H (some (some (.ref a))) (.dct kvs)
  | rdd {a : Addr} {vs : List (Key × V)} {kvs : List (Key × PyData)} : H a = some (.dK vs) → DK K G vs kvs → EntOk K B G H (some (some (.ref a))) (.rdd kvs)
def dE : Ent → Bool
  | .dct _ => true
  | .rdd _ => true
  | _ => false
def DisD (σ : L2.St) (ρ : Rho) : Prop := ∀ (i j : Nat) (a : Addr) (kvs : List (Key × PyData)) (f : Ent), ρ[i]? = some (.dct kvs) → ρ[j]? = some f → dE f = true → σ[i]? = some (some (.ref a)) → σ[j]? = some (some (.ref a)) → i = j
theorem DisD.set0 {σ σ' : L2.St} {ρ : Rho} {i : Nat} {e0 : Ent} (h : DisD σ ρ) (h0 : dE e0 = false) (hs : ∀ j, j ≠ i → σ'[j]? = σ[j]?) : DisD σ' (ρ.set i e0) := by
  have ne : ∀ (j : Nat) (f : Ent), (ρ.set i e0)[j]? = some f → dE f = true → j ≠ i := fun j f hj hf z => by
    subst z
    rw [List.getElem?_set] at hj
    split at hj
    · split at hj
      · cases hj; rw [h0] at hf; cases hf
      · cases hj
    · rename_i z; exact z rfl
  intro j k a kvs f hj hk hf s1 s2
  have n1 := ne j _ hj rfl
  have n2 := ne k f hk hf
  rw [List.getElem?_set_ne (fun z => n1 z.symm)] at hj
  rw [List.getElem?_set_ne (fun z => n2 z.symm)] at hk
  rw [hs j n1] at s1
  rw [hs k n2] at s2
  exact h j k a kvs f hj hk hf s1 s2

/-- the state of a frame: B its entry -/
structure DEnv (m : KM) (B : Bx) (G H : Hp) (σ : L2.St) (ρ : Rho) : Prop where
  base : Ext B.G B.H G H
  len : ρ.length = σ.length
  ent : ∀ (i : Nat) (e : Ent), ρ[i]? = some e → EntOk m.K B G H σ[i]? e
  dis : ∀ (i j : Nat) (a : Addr) (xs ys : List PyData), ρ[i]? = some (.own xs) → ρ[j]? = some (.own ys) → σ[i]? = some (some (.ref a)) → σ[j]? = some (some (.ref a)) → i = j
  disD : DisD σ ρ

section
variable {m : KM} {B : Bx} {G H G' H' : Hp} {σ : L2.St} {ρ : Rho}
theorem EntOk.ext {o : Option (Option V)} {e : Ent} (q : EntOk m.K B G H o e) (x : Ext G H G' H') : EntOk m.K B G' H' o e := by
  cases q with
  | un => exact .un
  | d h => exact .d (dp_same x.g _ _ h)
  | own h1 h2 h3 h4 => exact .own (x.h _ _ h1) (x.cap _ (by rw [h1]; exact fun z => nomatch z) h2) h3 (dpAll_same x.g _ _ h4)
  | dct h1 h2 h3 h4 => exact .dct (x.h _ _ h1) (x.cap _ (by rw [h1]; exact fun z => nomatch z) h2) h3 (dk_same x.g h4)
  | rdd h1 h4 => exact .rdd (x.h _ _ h1) (dk_same x.g h4)
theorem DEnv.ext (E : DEnv m B G H σ ρ) (x : Ext G H G' H') : DEnv m B G' H' σ ρ :=
  ⟨E.base.trans x, E.len, fun i e h => (E.ent i e h).ext x, E.dis, E.disD⟩
/-- an own list is frozen -/
theorem DEnv.freeze (E : DEnv m B G H σ ρ) {i : Nat} {xs : List PyData} (h : ρ[i]? = some (.own xs)) :
    ∃ a vs, σ[i]? = some (some (.ref a)) ∧ H a = some (.lst vs) ∧ G a = none ∧ DqAll m.K G vs xs ∧ Same G (upd G a (.lst vs)) ∧ Dq m.K (upd G a (.lst vs)) (.ref a) (.list xs) ∧ DEnv m B (upd G a (.lst vs)) H σ (ρ.set i (.d (.list xs))) := by
  have q := E.ent i _ h
  generalize hs : σ[i]? = o at q
  cases q with
  | own h1 h2 h3 h4 =>
    rename_i a vs
    have sg : Same G (upd G a (.lst vs)) := upd_same_of h2
    have dp : Dq m.K (upd G a (.lst vs)) (.ref a) (.list xs) := .lst (SqL.of upd_same) (dpAll_same sg _ _ h4)
    have hi : i < ρ.length := (List.getElem?_eq_some_iff.mp h).1
    refine ⟨a, vs, rfl, h1, h2, h4, sg, dp, ⟨⟨E.base.g.trans sg, E.base.h, fun b x e => ?_, fun b n1 n2 => ?_⟩, by simpa using E.len, fun j e hj => ?_, fun j k b ys zs hj hk s1 s2 => ?_, E.disD.set0 rfl fun _ _ => rfl⟩⟩
    · by_cases hb : b = a
      · subst hb; rw [upd_same] at e; cases e; exact h1
      · rw [upd_ne hb] at e; exact E.base.gh _ _ e
    · rw [upd_ne (fun z => n1 (by rw [z]; exact h3))]; exact E.base.cap b n1 n2
    · by_cases hji : j = i
      · subst hji
        rw [List.getElem?_set_self hi] at hj
        cases hj
        rw [hs]
        exact .d dp
      · rw [List.getElem?_set_ne (fun z => hji z.symm)] at hj
        have q := E.ent j e hj
        generalize hs2 : σ[j]? = o2 at q
        cases q with
        | un => exact .un
        | d z => exact .d (dp_same sg _ _ z)
        | own z1 z2 z3 z4 =>
          rename_i b us ys
          refine .own z1 ?_ z3 (dpAll_same sg _ _ z4)
          rw [upd_ne (fun (z : b = a) => hji (E.dis j i a ys xs hj h (by rw [hs2, z]) hs))]
          exact z2
        | dct z1 z2 z3 z4 =>
          rename_i b us ys
          refine .dct z1 ?_ z3 (dk_same sg z4)
          rw [upd_ne (fun (z : b = a) => by rw [z, h1] at z1; cases z1)]
          exact z2
        | rdd z1 z4 => exact .rdd z1 (dk_same sg z4)
    · have hji : j ≠ i := fun z => by subst z; rw [List.getElem?_set_self hi] at hj; cases hj
      have hki : k ≠ i := fun z => by subst z; rw [List.getElem?_set_self hi] at hk; cases hk
      rw [List.getElem?_set_ne (fun z => hji z.symm)] at hj
      rw [List.getElem?_set_ne (fun z => hki z.symm)] at hk
      exact E.dis j k b ys zs hj hk s1 s2
/-- a slot is stored: data -/
theorem DEnv.put (E : DEnv m B G H σ ρ) {i : Nat} {v : V} {x : PyData} (hi : i < ρ.length) (dp : Dq m.K G v x) : DEnv m B G H (σ.set i (some v)) (ρ.set i (.d x)) := by
  have his : i < σ.length := by rw [← E.len]; exact hi
  refine ⟨E.base, by simpa using E.len, fun j e hj => ?_, fun j k b ys zs hj hk s1 s2 => ?_, E.disD.set0 rfl fun j hj => List.getElem?_set_ne fun z => hj z.symm⟩
  · by_cases hji : j = i
    · subst hji
      rw [List.getElem?_set_self hi] at hj
      cases hj
      rw [List.getElem?_set_self his]
      exact .d dp
    · rw [List.getElem?_set_ne (fun z => hji z.symm)] at hj ⊢
      exact E.ent j e hj
  · have hji : j ≠ i := fun z => by subst z; rw [List.getElem?_set_self hi] at hj; cases hj
    have hki : k ≠ i := fun z => by subst z; rw [List.getElem?_set_self hi] at hk; cases hk
    rw [List.getElem?_set_ne (fun z => hji z.symm)] at hj s1
    rw [List.getElem?_set_ne (fun z => hki z.symm)] at hk s2
    exact E.dis j k b ys zs hj hk s1 s2
/-- .. a new list of the frame's own -/
theorem DEnv.putOwn (E : DEnv m B G H σ ρ) {i : Nat} {p : Addr} {vs : List V} {xs : List PyData} (hi : i < ρ.length) (hp : H p = none) (dp : DqAll m.K G vs xs) :
    DEnv m B G (upd H p (.lst vs)) (σ.set i (some (.ref p))) (ρ.set i (.own xs)) := by
  have his : i < σ.length := by rw [← E.len]; exact hi
  have x : Ext G H G (upd H p (.lst vs)) := Ext.newOwn E.base.gh hp
  refine ⟨E.base.trans x, by simpa using E.len, fun j e hj => ?_, fun j k b ys zs hj hk s1 s2 => ?_, E.disD.set0 rfl fun j hj => List.getElem?_set_ne fun z => hj z.symm⟩
  · by_cases hji : j = i
    · subst hji
      rw [List.getElem?_set_self hi] at hj
      cases hj
      rw [List.getElem?_set_self his]
      exact .own upd_same (E.base.gh.free hp) (E.base.h.free hp) dp
    · rw [List.getElem?_set_ne (fun z => hji z.symm)] at hj ⊢
      exact (E.ent j e hj).ext x
  · have ne : ∀ (j : Nat) (ys : List PyData), ρ[j]? = some (.own ys) → ∀ b : Addr, σ[j]? = some (some (.ref b)) → b ≠ p := fun j ys hj b hb z => by
      have q := E.ent j _ hj
      rw [hb] at q
      cases q with
      | own h1 _ _ _ => rw [z, hp] at h1; cases h1
    by_cases hji : j = i
    · subst hji
      by_cases hki : k = j
      · exact hki.symm
      · rw [List.getElem?_set_self his] at s1
        cases s1
        rw [List.getElem?_set_ne (fun z => hki z.symm)] at hk s2
        exact absurd rfl (ne k zs hk _ s2)
    · rw [List.getElem?_set_ne (fun z => hji z.symm)] at hj s1
      by_cases hki : k = i
      · subst hki
        rw [List.getElem?_set_self his] at s2
        cases s2
        exact absurd rfl (ne j ys hj _ s1)
      · rw [List.getElem?_set_ne (fun z => hki z.symm)] at hk s2
        exact E.dis j k b ys zs hj hk s1 s2
/-- .. an own list is changed in its place -/
theorem DEnv.change (E : DEnv m B G H σ ρ) {i : Nat} {a : Addr} {vs : List V} {xs ys : List PyData} (h : ρ[i]? = some (.own xs)) (hs : σ[i]? = some (some (.ref a))) (dp : DqAll m.K G vs ys) :
    DEnv m B G (upd H a (.lst vs)) σ (ρ.set i (.own ys)) := by
  have q := E.ent i _ h
  rw [hs] at q
  have hi : i < ρ.length := (List.getElem?_eq_some_iff.mp h).1
  cases q with
  | own h1 h2 h3 h4 =>
    refine ⟨⟨E.base.g, fun b x e => ?_, fun b x e => ?_, E.base.cap⟩, by simpa using E.len, fun j e hj => ?_, fun j k b us zs hj hk s1 s2 => ?_, E.disD.set0 rfl fun _ _ => rfl⟩
    · rw [upd_ne (ne_of_none e h3)]; exact E.base.h _ _ e
    · rw [upd_ne (ne_of_none e h2)]; exact E.base.gh _ _ e
    · by_cases hji : j = i
      · subst hji
        rw [List.getElem?_set_self hi] at hj
        cases hj
        rw [hs]
        exact .own upd_same h2 h3 dp
      · rw [List.getElem?_set_ne (fun z => hji z.symm)] at hj
        have q := E.ent j e hj
        generalize hs2 : σ[j]? = o2 at q
        cases q with
        | un => exact .un
        | d z => exact .d z
        | own z1 z2 z3 z4 =>
          rename_i b us zs
          refine .own ?_ z2 z3 z4
          rw [upd_ne (fun (z : b = a) => hji (E.dis j i a zs xs hj h (by rw [hs2, z]) hs))]
          exact z1
        | dct z1 z2 z3 z4 =>
          refine .dct ?_ z2 z3 z4
          rw [upd_ne (ne_of z1 h1 fun z => nomatch z)]
          exact z1
        | rdd z1 z4 =>
          refine .rdd ?_ z4
          rw [upd_ne (ne_of z1 h1 fun z => nomatch z)]
          exact z1
    · have cv : ∀ (k : Nat) (zs : List PyData), (ρ.set i (.own ys))[k]? = some (.own zs) → ∃ zs', ρ[k]? = some (.own zs') := fun k zs hk => by
        by_cases hki : k = i
        · subst hki; exact ⟨xs, h⟩
        · rw [List.getElem?_set_ne (fun z => hki z.symm)] at hk; exact ⟨zs, hk⟩
      obtain ⟨_, h1'⟩ := cv j us hj
      obtain ⟨_, h2'⟩ := cv k zs hk
      exact E.dis j k b _ _ h1' h2' s1 s2
/-- .. a new dict of the frame's own -/
theorem DEnv.putDct (E : DEnv m B G H σ ρ) {i : Nat} {p : Addr} {vs : List (Key × V)} {kvs : List (Key × PyData)} (hi : i < ρ.length) (hp : H p = none) (dp : DK m.K G vs kvs) :
    DEnv m B G (upd H p (.dK vs)) (σ.set i (some (.ref p))) (ρ.set i (.dct kvs)) := by
  have his : i < σ.length := by rw [← E.len]; exact hi
  have x : Ext G H G (upd H p (.dK vs)) := Ext.newOwn E.base.gh hp
  have ne : ∀ (j : Nat) (f : Ent), ρ[j]? = some f → dE f = true → ∀ b : Addr, σ[j]? = some (some (.ref b)) → b ≠ p := fun j f hj hf b hb z => by
    have q := E.ent j _ hj
    rw [hb] at q
    cases q with
    | dct h1 _ _ _ => rw [z, hp] at h1; cases h1
    | rdd h1 _ => rw [z, hp] at h1; cases h1
    | _ => cases hf
  refine ⟨E.base.trans x, by simpa using E.len, fun j e hj => ?_, fun j k b ys zs hj hk s1 s2 => ?_, fun j k b ks f hj hk hf s1 s2 => ?_⟩
  · by_cases hji : j = i
    · subst hji
      rw [List.getElem?_set_self hi] at hj
      cases hj
      rw [List.getElem?_set_self his]
      exact .dct upd_same (E.base.gh.free hp) (E.base.h.free hp) dp
    · rw [List.getElem?_set_ne (fun z => hji z.symm)] at hj ⊢
      exact (E.ent j e hj).ext x
  · have hji : j ≠ i := fun z => by subst z; rw [List.getElem?_set_self hi] at hj; cases hj
    have hki : k ≠ i := fun z => by subst z; rw [List.getElem?_set_self hi] at hk; cases hk
    rw [List.getElem?_set_ne (fun z => hji z.symm)] at hj s1
    rw [List.getElem?_set_ne (fun z => hki z.symm)] at hk s2
    exact E.dis j k b ys zs hj hk s1 s2
  · by_cases hji : j = i
    · by_cases hki : k = i
      · rw [hji, hki]
      · rw [hji, List.getElem?_set_self his] at s1
        cases s1
        rw [List.getElem?_set_ne (fun z => hki z.symm)] at hk s2
        exact absurd rfl (ne k f hk hf _ s2)
    · rw [List.getElem?_set_ne (fun z => hji z.symm)] at hj s1
      by_cases hki : k = i
      · rw [hki, List.getElem?_set_self his] at s2
        cases s2
        exact absurd rfl (ne j _ hj rfl _ s1)
      · rw [List.getElem?_set_ne (fun z => hki z.symm)] at hk s2
        exact E.disD j k b ks f hj hk hf s1 s2
/-- .. an own dict is changed in its place -/
theorem DEnv.changeD (E : DEnv m B G H σ ρ) {i : Nat} {a : Addr} {vs : List (Key × V)} {xs ys : List (Key × PyData)} (h : ρ[i]? = some (.dct xs)) (hs : σ[i]? = some (some (.ref a))) (dp : DK m.K G vs ys) :
    DEnv m B G (upd H a (.dK vs)) σ (ρ.set i (.dct ys)) := by
  have q := E.ent i _ h
  rw [hs] at q
  have hi : i < ρ.length := (List.getElem?_eq_some_iff.mp h).1
  cases q with
  | dct h1 h2 h3 h4 =>
    have cv : ∀ (k : Nat) (f : Ent), (ρ.set i (.dct ys))[k]? = some f → dE f = true → ∃ f', ρ[k]? = some f' ∧ dE f' = true := fun k f hk hf => by
      by_cases hki : k = i
      · subst hki; exact ⟨_, h, rfl⟩
      · rw [List.getElem?_set_ne (fun z => hki z.symm)] at hk; exact ⟨f, hk, hf⟩
    refine ⟨⟨E.base.g, fun b x e => ?_, fun b x e => ?_, E.base.cap⟩, by simpa using E.len, fun j e hj => ?_, fun j k b us zs hj hk s1 s2 => ?_, fun j k b ks f hj hk hf s1 s2 => ?_⟩
    · rw [upd_ne (ne_of_none e h3)]; exact E.base.h _ _ e
    · rw [upd_ne (ne_of_none e h2)]; exact E.base.gh _ _ e
    · by_cases hji : j = i
      · subst hji
        rw [List.getElem?_set_self hi] at hj
        cases hj
        rw [hs]
        exact .dct upd_same h2 h3 dp
      · rw [List.getElem?_set_ne (fun z => hji z.symm)] at hj
        have q := E.ent j e hj
        generalize hs2 : σ[j]? = o2 at q
        cases q with
        | un => exact .un
        | d z => exact .d z
        | own z1 z2 z3 z4 =>
          refine .own ?_ z2 z3 z4
          rw [upd_ne (ne_of z1 h1 fun z => nomatch z)]
          exact z1
        | dct z1 z2 z3 z4 =>
          rename_i b us zs
          refine .dct ?_ z2 z3 z4
          rw [upd_ne (fun (z : b = a) => hji (E.disD i j a xs _ h hj rfl hs (by rw [hs2, z])).symm)]
          exact z1
        | rdd z1 z4 =>
          rename_i b us zs
          refine .rdd ?_ z4
          rw [upd_ne (fun (z : b = a) => hji (E.disD i j a xs _ h hj rfl hs (by rw [hs2, z])).symm)]
          exact z1
    · have hji : j ≠ i := fun z => by subst z; rw [List.getElem?_set_self hi] at hj; cases hj
      have hki : k ≠ i := fun z => by subst z; rw [List.getElem?_set_self hi] at hk; cases hk
      rw [List.getElem?_set_ne (fun z => hji z.symm)] at hj
      rw [List.getElem?_set_ne (fun z => hki z.symm)] at hk
      exact E.dis j k b us zs hj hk s1 s2
    · obtain ⟨f1, hk', hf'⟩ := cv k f hk hf
      by_cases hji : j = i
      · subst hji
        exact E.disD j k b xs f1 h hk' hf' s1 s2
      · rw [List.getElem?_set_ne (fun z => hji z.symm)] at hj
        exact E.disD j k b ks f1 hj hk' hf' s1 s2
/-- .. what a slot holds is forgotten -/
theorem DEnv.drop (E : DEnv m B G H σ ρ) {i : Nat} {o : Option V} (hi : i < ρ.length) : DEnv m B G H (σ.set i o) (ρ.set i .un) := by
  have his : i < σ.length := by rw [← E.len]; exact hi
  refine ⟨E.base, by simpa using E.len, fun j e hj => ?_, fun j k b ys zs hj hk s1 s2 => ?_, E.disD.set0 rfl fun j hj => List.getElem?_set_ne fun z => hj z.symm⟩
  · by_cases hji : j = i
    · subst hji
      rw [List.getElem?_set_self hi] at hj
      cases hj
      exact .un
    · rw [List.getElem?_set_ne (fun z => hji z.symm)] at hj ⊢
      exact E.ent j e hj
  · have hji : j ≠ i := fun z => by subst z; rw [List.getElem?_set_self hi] at hj; cases hj
    have hki : k ≠ i := fun z => by subst z; rw [List.getElem?_set_self hi] at hk; cases hk
    rw [List.getElem?_set_ne (fun z => hji z.symm)] at hj s1
    rw [List.getElem?_set_ne (fun z => hki z.symm)] at hk s2
    exact E.dis j k b ys zs hj hk s1 s2
end

/-! ### exceptions -/
def ExOk (m : KM) (G' H' : Hp) (e : Exn) (cls : Value) (d : Option Addr) : Prop :=
  (∃ C, m.mg e.nm = some (.ref C) ∧ cls = .ref C) ∧ ((e.fs = [] ∧ d = none) ∨ ∃ a fs, d = some a ∧ H' a = some (.xd fs) ∧ G' a = none ∧ ∀ f x, e.fs.lookup f = some x → ∃ v, fs.lookup f = some v ∧ Dq m.K G' v x)

/-! ### the readings -/
def Sat {α : Type} (m : KM) (B : Bx) (W : WX) (G0 : Hp) (σ : L2.St) : Res α → (α → Rho → Prop) → Prop
  | .ok a ρ, P => P a ρ
  | .ex e ρ, _ => ∀ cls dd G' H', DEnv m B G' H' σ ρ → Same G0 G' → ExOk m G' H' e cls dd → W cls dd σ H'
  | .bad, _ => False
theorem Sat.imp {α : Type} {m : KM} {B : Bx} {W : WX} {G0 : Hp} {σ : L2.St} {r : Res α} {P Q : α → Rho → Prop} (h : Sat m B W G0 σ r P) (i : ∀ a ρ, P a ρ → Q a ρ) : Sat m B W G0 σ r Q := by
  cases r with
  | ok a ρ => exact i _ _ h
  | ex e ρ => exact h
  | bad => exact h
theorem Sat.up {α : Type} {m : KM} {B : Bx} {W : WX} {G0 G1 : Hp} {σ : L2.St} {r : Res α} {P : α → Rho → Prop} (h : Sat m B W G0 σ r P) (g : Same G0 G1) : Sat m B W G1 σ r P := by
  cases r with
  | ok a ρ => exact h
  | ex e ρ => exact fun cls dd G H E s => h cls dd G H E (g.trans s)
  | bad => exact h
theorem Sat.bind {α β : Type} {m : KM} {B : Bx} {W : WX} {G0 : Hp} {σ : L2.St} {r : Res α} {f : α → Rho → Res β} {P : β → Rho → Prop} (h : Sat m B W G0 σ (r.bind f) P) : Sat m B W G0 σ r fun a ρ => Sat m B W G0 σ (f a ρ) P := by
  cases r with
  | ok a ρ => exact h
  | ex e ρ => exact h
  | bad => exact h
def tD (m : KM) (B : Bx) (W : WX) (F : Rho → Res PyData) : TE := fun σ H Q => ∃ G ρ, DEnv m B G H σ ρ ∧ Sat m B W G σ (F ρ) fun d ρ' => ∀ v G' H', DEnv m B G' H' σ ρ' → Same G G' → Dq m.K G' v d → Q v H'
def tDT (m : KM) (B : Bx) (W : WX) (F : Rho → Res Bool) : TT := fun σ H Q => ∃ G ρ, DEnv m B G H σ ρ ∧ Sat m B W G σ (F ρ) fun b ρ' => ∀ G' H', DEnv m B G' H' σ ρ' → Same G G' → Q b H'
def tDA (m : KM) (B : Bx) (W : WX) (F : Rho → Res (List PyData)) : TA := fun σ H Q => ∃ G ρ, DEnv m B G H σ ρ ∧ Sat m B W G σ (F ρ) fun ds ρ' => ∀ vs G' H', DEnv m B G' H' σ ρ' → Same G G' → DqAll m.K G' vs ds → Q vs H'
def SatS (m : KM) (B : Bx) (W : WX) (G0 : Hp) (D : Ends) : Out → Prop
  | .nx ρ => ∀ σ G H, DEnv m B G H σ ρ → Same G0 G → D.nx σ H
  | .rt d => ∀ v G H, Ext B.G B.H G H → Dq m.K G v d → D.rt v H
  | .bk ρ => ∀ σ G H, DEnv m B G H σ ρ → Same G0 G → D.bk σ H
  | .ct ρ => ∀ σ G H, DEnv m B G H σ ρ → Same G0 G → D.ct σ H
  | .ex e ρ => ∀ cls dd σ G H, DEnv m B G H σ ρ → Same G0 G → ExOk m G H e cls dd → W cls dd σ H
  | .bad => False
def tDS (m : KM) (B : Bx) (W : WX) (S : Rho → Out) : TS := fun D σ H => ∃ G ρ, DEnv m B G H σ ρ ∧ SatS m B W G D (S ρ)
theorem SatS.up {m : KM} {B : Bx} {W : WX} {G0 G1 : Hp} {D : Ends} {o : Out} (h : SatS m B W G0 D o) (g : Same G0 G1) : SatS m B W G1 D o := by
  cases o with
  | nx ρ => exact fun σ G H E s => h σ G H E (g.trans s)
  | rt d => exact h
  | bk ρ => exact fun σ G H E s => h σ G H E (g.trans s)
  | ct ρ => exact fun σ G H E s => h σ G H E (g.trans s)
  | ex e ρ => exact fun cls dd σ G H E s => h cls dd σ G H E (g.trans s)
  | bad => exact h

/-- weaken a reading -/
theorem _root_.L2.PE.of {X : L2.Cx} {e : Expr} {t t' : TE} (h : PE X e t) (i : ∀ σ H Q, t' σ H Q → t σ H Q) : PE X e t' := ⟨fun pins s σ H Q I q => h.run pins s σ H Q I (i _ _ _ q)⟩
theorem _root_.L2.PT.of {X : L2.Cx} {e : Expr} {t t' : TT} (h : PT X e t) (i : ∀ σ H Q, t' σ H Q → t σ H Q) : PT X e t' := ⟨fun pins s σ H Q I q => h.run pins s σ H Q I (i _ _ _ q)⟩
theorem _root_.L2.PA.of {X : L2.Cx} {e : List Expr} {t t' : TA} (h : PA X e t) (i : ∀ σ H Q, t' σ H Q → t σ H Q) : PA X e t' := ⟨fun pos pins s σ H Q I q => h.run pos pins s σ H Q I (i _ _ _ q)⟩
theorem _root_.L2.PS.of {X : L2.Cx} {e : Stmt} {t t' : TS} (h : PS X e t) (i : ∀ D σ H, t' D σ H → t D σ H) : PS X e t' := ⟨fun pins s σ H D I q => h.run pins s σ H D I (i _ _ _ q)⟩
theorem _root_.L2.PSs.of {X : L2.Cx} {e : List Stmt} {t t' : TS} (h : PSs X e t) (i : ∀ D σ H, t' D σ H → t D σ H) : PSs X e t' := ⟨fun pins s σ H D I q => h.run pins s σ H D I (i _ _ _ q)⟩
end DL

namespace DL
open PySem PySem.Spec PyProof.Rows L2
/-! ### the words of the data semantics -/
def optR {α : Type} : Option α → Rho → Res α
  | some a, ρ => .ok a ρ
  | none, _ => .bad
def varF (i : Nat) : Rho → Res PyData := fun ρ => match ρ[i]? with
  | some (.d x) => .ok x ρ
  | some (.own xs) => .ok (.list xs) (ρ.set i (.d (.list xs)))
  | _ => .bad
def cF (d : PyData) : Rho → Res PyData := fun ρ => .ok d ρ
def binF (g : PyData → PyData → Option PyData) (F1 F2 : Rho → Res PyData) : Rho → Res PyData := fun ρ => (F1 ρ).bind fun d ρ => (F2 ρ).bind fun e ρ => optR (g d e) ρ
def unF (g : PyData → Option PyData) (F : Rho → Res PyData) : Rho → Res PyData := fun ρ => (F ρ).bind fun d ρ => optR (g d) ρ
def isB : PyData → Option Bool
  | .bool b => some b
  | _ => none
def testF (F : Rho → Res PyData) : Rho → Res Bool := fun ρ => (F ρ).bind fun d ρ => optR (isB d) ρ
def andT (F1 F2 : Rho → Res Bool) : Rho → Res Bool := fun ρ => (F1 ρ).bind fun b ρ => if b = true then F2 ρ else .ok false ρ
def orT (F1 F2 : Rho → Res Bool) : Rho → Res Bool := fun ρ => (F1 ρ).bind fun b ρ => if b = true then .ok true ρ else F2 ρ
def notT (F : Rho → Res Bool) : Rho → Res Bool := fun ρ => (F ρ).bind fun b ρ => .ok (!b) ρ
def andV (F1 F2 : Rho → Res PyData) : Rho → Res PyData := fun ρ => (testF F1 ρ).bind fun b ρ => if b = true then F2 ρ else .ok (.bool false) ρ
def orV (F1 F2 : Rho → Res PyData) : Rho → Res PyData := fun ρ => (testF F1 ρ).bind fun b ρ => if b = true then .ok (.bool true) ρ else F2 ρ
def notV (F : Rho → Res PyData) : Rho → Res PyData := fun ρ => (testF F ρ).bind fun b ρ => .ok (.bool (!b)) ρ
def ifF {α : Type} (T : Rho → Res Bool) (F1 F2 : Rho → Res α) : Rho → Res α := fun ρ => (T ρ).bind fun b ρ => if b = true then F1 ρ else F2 ρ
def nilA : Rho → Res (List PyData) := fun ρ => .ok [] ρ
def consA (F : Rho → Res PyData) (A : Rho → Res (List PyData)) : Rho → Res (List PyData) := fun ρ => (F ρ).bind fun d ρ => (A ρ).bind fun ds ρ => .ok (d :: ds) ρ
def tupF (A : Rho → Res (List PyData)) : Rho → Res PyData := fun ρ => (A ρ).bind fun ds ρ => if ds.length ≤ sizeLine then .ok (.tuple ds) ρ else .bad
def lstF (A : Rho → Res (List PyData)) : Rho → Res PyData := fun ρ => (A ρ).bind fun ds ρ => if ds.length ≤ sizeLine then .ok (.list ds) ρ else .bad
def appF (f : List PyData → Option PyData) (A : Rho → Res (List PyData)) : Rho → Res PyData := fun ρ => (A ρ).bind fun ds ρ => optR (f ds) ρ
def callF (f : Fn) (A : Rho → Res (List PyData)) : Rho → Res PyData := fun ρ => (A ρ).bind fun ds ρ => match f ds with
  | .ok d => .ok d ρ
  | .ex e => .ex e ρ
  | .bad => .bad

/-! ### operators by data -/
def dAdd : PyData → PyData → Option PyData
  | .int i, .int j => some (.int (i + j))
  | .str x, .str y => if x.length + y.length ≤ sizeLine then some (.str (x ++ y)) else none
  | .tuple xs, .tuple ys => if xs.length + ys.length ≤ sizeLine then some (.tuple (xs ++ ys)) else none
  | .list xs, .list ys => if xs.length + ys.length ≤ sizeLine then some (.list (xs ++ ys)) else none
  | _, _ => none
def dSub : PyData → PyData → Option PyData
  | .int i, .int j => some (.int (i - j))
  | _, _ => none
/-- a choice that nothing reckons out -/
noncomputable def iteC {α : Type} (c : Prop) (a b : α) : α := @ite α c (Classical.propDecidable c) a b
theorem iteC_pos {α : Type} {c : Prop} {a b : α} (h : c) : iteC c a b = a := by unfold iteC; exact if_pos h
theorem iteC_neg {α : Type} {c : Prop} {a b : α} (h : ¬ c) : iteC c a b = b := by unfold iteC; exact if_neg h
theorem of_iteC {α : Type} {c : Prop} {a z : α} (h : iteC c (some a) none = some z) : c ∧ a = z := by
  by_cases hc : c
  · rw [iteC_pos hc] at h; exact ⟨hc, Option.some.inj h⟩
  · rw [iteC_neg hc] at h; cases h
noncomputable def dMul : PyData → PyData → Option PyData
  | .int i, .int j => iteC (i.natAbs.log2 + j.natAbs.log2 < 1000000) (some (.int (i * j))) none
  | _, _ => none
noncomputable def dDiv : PyData → PyData → Option PyData
  | .int i, .int j => iteC (j ≠ 0 ∧ j.natAbs.log2 < 9000) (some (.int (i.fdiv j))) none
  | _, _ => none
def dMod : PyData → PyData → Option PyData
  | .int i, .int j => if j ≠ 0 then some (.int (i.fmod j)) else none
  | _, _ => none
noncomputable def dPow : PyData → PyData → Option PyData
  | .int i, .int j => iteC (0 ≤ j ∧ j ≤ 1000000 ∧ i.natAbs < 2 ^ 64) (some (.int (i ^ j.toNat))) none
  | _, _ => none
def dNeg : PyData → Option PyData
  | .int i => some (.int (-i))
  | _ => none
def dLt : PyData → PyData → Option PyData
  | .int i, .int j => some (.bool (decide (i < j)))
  | .str i, .str j => some (.bool (decide (i.cps.toList < j.cps.toList)))
  | _, _ => none
def dLe : PyData → PyData → Option PyData
  | .int i, .int j => some (.bool (decide (i ≤ j)))
  | _, _ => none
def dGt : PyData → PyData → Option PyData
  | .int i, .int j => some (.bool (decide (j < i)))
  | _, _ => none
def dGe : PyData → PyData → Option PyData
  | .int i, .int j => some (.bool (decide (j ≤ i)))
  | _, _ => none
def dEq (d e : PyData) : Option PyData := if SeqAt.shaped d = true ∧ SeqAt.shaped e = true then some (.bool (PyData.eqv d e)) else none
def dNe (d e : PyData) : Option PyData := if SeqAt.shaped d = true ∧ SeqAt.shaped e = true then some (.bool (!PyData.eqv d e)) else none
def isNone : PyData → Bool
  | .none => true
  | _ => false
def dIsN (d : PyData) : Option PyData := some (.bool (isNone d))
def dNotN (d : PyData) : Option PyData := some (.bool (!isNone d))
def dIx : PyData → PyData → Option PyData
  | .list xs, .int i => atI xs i
  | .tuple xs, .int i => atI xs i
  | .str z, .int i => if z.length ≤ sizeLine then (atI z.cps.toList i).map fun c => .str ⟨#[c]⟩ else none
  | _, _ => none
def dRev : PyData → Option PyData
  | .list xs => some (.list xs.reverse)
  | _ => none

/-! ### the rules' readings -/
section
variable {X : L2.Cx} {B : Bx} {W : WX}
/-- a rule by values answers an operator by data -/
def RD (K : PySem.W.Frag) (r : R2) (g : PyData → PyData → Option PyData) : Prop :=
  ∀ (G H : Hp) (x y : V) (d e z : PyData) (Q : VK), Same G H → Dq K G x d → Dq K G y e → g d e = some z → (∀ v G' H', Ext G H G' H' → Dq K G' v z → Q v H') → r x y H Q
def RD1 (K : PySem.W.Frag) (r : V → Hp → VK → Prop) (g : PyData → Option PyData) : Prop :=
  ∀ (G H : Hp) (x : V) (d z : PyData) (Q : VK), Same G H → Dq K G x d → g d = some z → (∀ v G' H', Ext G H G' H' → Dq K G' v z → Q v H') → r x H Q
def RDs (K : PySem.W.Frag) (r : List V → Hp → VK → Prop) (g : List PyData → Option PyData) : Prop :=
  ∀ (G H : Hp) (xs : List V) (ds : List PyData) (z : PyData) (Q : VK), Same G H → DqAll K G xs ds → g ds = some z → (∀ v G' H', Ext G H G' H' → Dq K G' v z → Q v H') → r xs H Q
theorem sat_opt {α : Type} {m : KM} {G0 : Hp} {σ : L2.St} {o : Option α} {ρ : Rho} {P : α → Rho → Prop} (h : Sat m B W G0 σ (optR o ρ) P) : ∃ a, o = some a ∧ P a ρ := by
  cases o with
  | none => exact h.elim
  | some a => exact ⟨a, rfl, h⟩
theorem t_bin {r : R2} {g : PyData → PyData → Option PyData} (hr : RD X.K r g) {F1 F2 : Rho → Res PyData} : ∀ σ H Q, tD (km X) B W (binF g F1 F2) σ H Q → tOp r (tD (km X) B W F1) (tD (km X) B W F2) σ H Q := by
  rintro σ H Q ⟨G, ρ, E, S⟩
  refine ⟨G, ρ, E, (Sat.bind S).imp fun d ρ1 s1 v G1 H1 E1 g1 dp1 => ⟨G1, ρ1, E1, ((Sat.bind s1).up g1).imp fun e ρ2 s2 u G2 H2 E2 g2 dp2 => ?_⟩⟩
  obtain ⟨z, hz, q⟩ := sat_opt s2
  exact hr G2 H2 v u d e z Q E2.base.gh (dp_same g2 _ _ dp1) dp2 hz fun x G3 H3 ext dp3 => q x G3 H3 (E2.ext ext) (g1.trans (g2.trans ext.g)) dp3
theorem t_un {r : V → Hp → VK → Prop} {g : PyData → Option PyData} (hr : RD1 X.K r g) {F : Rho → Res PyData} : ∀ σ H Q, tD (km X) B W (unF g F) σ H Q → tUn r (tD (km X) B W F) σ H Q := by
  rintro σ H Q ⟨G, ρ, E, S⟩
  refine ⟨G, ρ, E, (Sat.bind S).imp fun d ρ1 s1 v G1 H1 E1 g1 dp1 => ?_⟩
  obtain ⟨z, hz, q⟩ := sat_opt s1
  exact hr G1 H1 v d z Q E1.base.gh dp1 hz fun x G3 H3 ext dp3 => q x G3 H3 (E1.ext ext) (g1.trans ext.g) dp3
theorem t_app {r : List V → Hp → VK → Prop} {g : List PyData → Option PyData} (hr : RDs X.K r g) {A : Rho → Res (List PyData)} : ∀ σ H Q, tD (km X) B W (appF g A) σ H Q → tCB r (tDA (km X) B W A) σ H Q := by
  rintro σ H Q ⟨G, ρ, E, S⟩
  refine ⟨G, ρ, E, (Sat.bind S).imp fun ds ρ1 s1 vs G1 H1 E1 g1 dp1 => ?_⟩
  obtain ⟨z, hz, q⟩ := sat_opt s1
  exact hr G1 H1 vs ds z Q E1.base.gh dp1 hz fun x G3 H3 ext dp3 => q x G3 H3 (E1.ext ext) (g1.trans ext.g) dp3
theorem t_test {F : Rho → Res PyData} : ∀ σ H Q, tDT (km X) B W (testF F) σ H Q → tD (km X) B W F σ H fun x H' => ∃ k, x = .bl k ∧ Q k H' := by
  rintro σ H Q ⟨G, ρ, E, S⟩
  refine ⟨G, ρ, E, (Sat.bind S).imp fun d ρ1 s1 v G1 H1 E1 g1 dp1 => ?_⟩
  obtain ⟨b, hb, q⟩ := sat_opt s1
  cases d <;> first | (cases hb; done) | skip
  cases hb
  cases dp1
  exact ⟨_, rfl, q _ _ E1 g1⟩

variable {a b : Expr} {pos : Pos} {F1 F2 : Rho → Res PyData}
/-! names, constants -/
theorem pd_var (i : Nat) {x : Str} {pos : Pos} (hN : X.N[i]? = some x := by rfl) (hv : Vis X.env.scope x := by first | exact Or.inl rfl | exact Or.inr (Or.inl rfl) | exact Or.inr (Or.inr rfl)) (hd : (x == ("__debug__" : Str)) = false := by decide)
    (hcd : (x == ("__classdict__" : Str)) = false := by decide) : PE X (.Name x pos) (tD (km X) B W (varF i)) := by
  refine (pe_var hN hv hd hcd).of ?_
  rintro σ H Q ⟨G, ρ, E, S⟩
  unfold varF at S
  cases e : ρ[i]? with
  | none => rw [e] at S; exact S.elim
  | some z =>
    rw [e] at S
    cases z with
    | un => exact S.elim
    | d x =>
      have q := E.ent i _ e
      generalize hs : σ[i]? = o at q
      cases q with
      | d dp => exact ⟨_, hs, S _ G H E (Same.refl _) dp⟩
    | dct _ => exact S.elim
    | rdd _ => exact S.elim
    | own xs =>
      obtain ⟨p, vs, h1, h2, h3, h4, h5, h6, h7⟩ := E.freeze e
      exact ⟨_, h1, S _ _ H h7 h5 h6⟩
theorem t_c {v : V} {d : PyData} (h : ∀ G : Hp, Dq X.K G v d) : ∀ σ H Q, tD (km X) B W (cF d) σ H Q → tC v σ H Q := by
  rintro σ H Q ⟨G, ρ, E, S⟩
  exact S v G H E (Same.refl _) (h G)
theorem pd_int {i j pos} : PE X (.Constant (.int i) j pos) (tD (km X) B W (cF (.int i))) := pe_int.of (t_c fun _ => .int i)
theorem pd_bl {b j pos} : PE X (.Constant (.bool b) j pos) (tD (km X) B W (cF (.bool b))) := pe_bl.of (t_c fun _ => .bl b)
theorem pd_non {j pos} : PE X (.Constant .none j pos) (tD (km X) B W (cF .none)) := pe_non.of (t_c fun _ => .non)
theorem pd_str {x j pos} : PE X (.Constant (.str x) j pos) (tD (km X) B W (cF (.str x))) := pe_str.of (t_c fun _ => .str x)

/-! operators -/
theorem opD {f : Value → Value → Sem Value} {C : Int → Int → Prop} [∀ i j, Decidable (C i j)] {g : Int → Int → Int} {r : PyData → PyData → Option PyData} (hr : ∀ i j, r (.int i) (.int j) = if C i j then some (.int (g i j)) else none)
    (hn : ∀ d e z, r d e = some z → ∃ i j, d = .int i ∧ e = .int j) : RD X.K (rI C fun i j => .int (g i j)) r := by
  intro G H x y d e z Q gh hx hy hz q
  obtain ⟨i, j, rfl, rfl⟩ := hn d e z hz
  rw [hr] at hz
  cases hx
  cases hy
  by_cases hc : C i j
  · rw [if_pos hc] at hz
    cases hz
    exact ⟨i, j, rfl, rfl, hc, q _ _ _ (Ext.refl gh) (.int _)⟩
  · rw [if_neg hc] at hz
    cases hz
theorem pd_op {op : Operator} {r : R2} {g : PyData → PyData → Option PyData} (ho : OpR X (binaryOp op) r) (hr : RD X.K r g) (ha : PE X a (tD (km X) B W F1)) (hb : PE X b (tD (km X) B W F2)) : PE X (.BinOp a op b pos) (tD (km X) B W (binF g F1 F2)) :=
  (pe_op ho ha hb).of (t_bin hr)
theorem rd_or {r r' : R2} {g : PyData → PyData → Option PyData} (h : ∀ (G H : Hp) (x y : V) (d e z : PyData) (Q : VK), Same G H → Dq X.K G x d → Dq X.K G y e → g d e = some z → (∀ v G' H', Ext G H G' H' → Dq X.K G' v z → Q v H') → r x y H Q ∨ r' x y H Q) : RD X.K (fun x y H Q => r x y H Q ∨ r' x y H Q) g := h
theorem of_if {α : Type} {c : Prop} [Decidable c] {a z : α} (h : (if c then some a else none) = some z) : c ∧ a = z := by
  by_cases hc : c
  · rw [if_pos hc] at h; exact ⟨hc, Option.some.inj h⟩
  · rw [if_neg hc] at h; cases h
/-- xs + ys, any two lists -/
def rCatS (K : PySem.W.Frag) : R2 := fun x y H Q => ∃ l b xs zs, x = .ref l ∧ y = .ref b ∧ SqL K H l xs ∧ SqL K H b zs ∧ xs.length + zs.length ≤ sizeLine ∧ ∀ p, H p = none → Q (.ref p) (upd H p (.lst (xs ++ zs)))
theorem op_catS : OpR X (binaryOp .Add) (rCatS X.K) := by
  intro pins s σ H x y v u Q I rx ry h
  obtain ⟨l, b, xs, zs, rfl, rfl, hH, hB, hz, q⟩ := h
  cases rx
  cases ry
  obtain ⟨its, r, ⟨⟨cls, dd, data, sl⟩, n, ho, hc, hd, hs⟩, z1⟩ := I.list hH
  obtain ⟨its2, r2, ⟨⟨cls2, dd2, data2, sl2⟩, n2, ho2, hc2, hd2, hs2⟩, z2⟩ := I.list hB
  simp only at hc hd hs hc2 hd2 hs2
  subst hc hd hs hc2 hd2 hs2
  have l1 := r.length
  have l2 := r2.length
  refine concat_meets ⟨_, ho, rfl⟩ ⟨_, ho2, rfl⟩ noFill_list_add seq_list_add PySem.F.slot_list_add PySem.F.entry_list_add (PySem.F.args_list_add_2 _ _) (list_addW l b its.toArray its2.toArray n n2 none none sl sl2 (by simp only [List.size_toArray]; omega)) ⟨ho, ho2, ?_⟩
  have ea : its.toArray ++ its2.toArray = (its ++ its2).toArray := by simp
  rw [ea]
  exact ⟨.ref _, _, I.lnew (t' := s.toks) (r.append r2) (by rw [List.length_append]; omega), rfl, q _ I.fresh⟩
/-- t + u; a new tuple has no dict of its own -/
def rCatN (K : PySem.W.Frag) : R2 := fun x y H Q => ∃ a b xs ys, x = .ref a ∧ y = .ref b ∧ SqT K H a xs ∧ SqT K H b ys ∧ xs.length + ys.length ≤ sizeLine ∧
  (xs = [] → Q (.ref b) H) ∧ (xs ≠ [] → ys = [] → Q (.ref a) H) ∧ (xs ≠ [] → ys ≠ [] → ∀ (p : Addr) (o : Obj), H p = none → o.dict = none → Q (.ref p) (upd H p (.frz o (.tup (xs ++ ys)))))
theorem op_catN : OpR X (binaryOp .Add) (rCatN X.K) := by
  intro pins s σ H x y v u Q I rx ry h
  obtain ⟨a, b, xs, ys, rfl, rfl, ha, hb, hz, q0, q1, q2⟩ := h
  by_cases hx : xs = []
  · exact op_catA pins s σ H _ _ v u Q I rx ry ⟨a, b, xs, ys, rfl, rfl, ha, hb, hz, q0, q1, fun z => absurd hx z⟩
  · by_cases hy : ys = []
    · exact op_catA pins s σ H _ _ v u Q I rx ry ⟨a, b, xs, ys, rfl, rfl, ha, hb, hz, q0, q1, fun _ z => absurd hy z⟩
    · cases rx
      cases ry
      obtain ⟨its, r1, p1, _⟩ := I.tuple ha
      obtain ⟨its2, r2, p2, _⟩ := I.tuple hb
      refine HT.cat_tup p1 p2 (fun z => hx (r1.nil_iff.mp z)) (fun z => absurd (r2.nil_iff.mp z) hy) (fun z => ?_) (by rw [← r1.length, ← r2.length]; exact hz)
      exact ⟨.ref s.heap.objs.size, _, I.laid (t' := s.toks) (o := .frz _ (.tup (xs ++ ys))) (fun b ob q => Heap.get?_push_of_some _ q) (Nat.le_refl _) ⟨Heap.get?_push_size _ rfl, by rw [List.length_append]; exact hz, _, r1.append r2, IsTup.new _ _⟩, rfl, q2 hx hy _ _ (I.hok.fresh (Nat.le_refl _)) rfl⟩
theorem pd_add (ha : PE X a (tD (km X) B W F1)) (hb : PE X b (tD (km X) B W F2)) : PE X (.BinOp a .Add b pos) (tD (km X) B W (binF dAdd F1 F2)) := by
  refine pd_op (op_add.or (op_add_str.or (op_catN.or op_catS))) ?_ ha hb
  intro G H x y d e z Q gh hx hy hz q
  cases d <;> cases e <;> first | (cases hz; done) | skip
  · cases hx; cases hy; cases hz
    exact .inl ⟨_, _, rfl, rfl, q _ _ _ (Ext.refl gh) (.int _)⟩
  · cases hx; cases hy
    obtain ⟨hl, rfl⟩ := of_if hz
    exact .inr (.inl ⟨_, _, rfl, rfl, hl, q _ _ _ (Ext.refl gh) (.str _)⟩)
  · rename_i xs ys
    obtain ⟨hl, rfl⟩ := of_if hz
    cases hx with
    | lst h1 h2 =>
      cases hy with
      | lst h3 h4 =>
        have l1 := h2.len
        have l2 := h4.len
        exact .inr (.inr (.inr ⟨_, _, _, _, rfl, rfl, gh.seq h1, gh.seq h3, by omega, fun p hp => q _ _ _ (Ext.new gh hp) (.lst (SqL.of upd_same) (dpAll_same (Ext.new gh hp).g _ _ (h2.append h4)))⟩))
  · rename_i xs ys
    obtain ⟨hl, rfl⟩ := of_if hz
    cases hx with
    | tup h1 h2 =>
      cases hy with
      | tup h3 h4 =>
        have l1 := h2.len
        have l2 := h4.len
        refine .inr (.inr (.inl ⟨_, _, _, _, rfl, rfl, seqT_same gh h1, seqT_same gh h3, by omega, fun e => ?_, fun _ e => ?_, fun _ _ p o hp ho => ?_⟩))
        · subst e
          cases h2
          exact q _ _ _ (Ext.refl gh) (.tup h3 h4)
        · subst e
          cases h4
          rw [List.append_nil] at q
          exact q _ _ _ (Ext.refl gh) (.tup h1 h2)
        · exact q _ _ _ (Ext.new gh hp) (.tup (SqN.of ho upd_same) (dpAll_same (Ext.new gh hp).g _ _ (h2.append h4)))
theorem pd_sub (ha : PE X a (tD (km X) B W F1)) (hb : PE X b (tD (km X) B W F2)) : PE X (.BinOp a .Sub b pos) (tD (km X) B W (binF dSub F1 F2)) := by
  refine pd_op op_sub ?_ ha hb
  intro G H x y d e z Q gh hx hy hz q
  cases d <;> cases e <;> first | (cases hz; done) | skip
  cases hx; cases hy; cases hz
  exact ⟨_, _, rfl, rfl, q _ _ _ (Ext.refl gh) (.int _)⟩
theorem pd_mul (ha : PE X a (tD (km X) B W F1)) (hb : PE X b (tD (km X) B W F2)) : PE X (.BinOp a .Mult b pos) (tD (km X) B W (binF dMul F1 F2)) := by
  refine pd_op op_mulW ?_ ha hb
  intro G H x y d e z Q gh hx hy hz q
  cases d <;> cases e <;> first | (cases hz; done) | skip
  cases hx; cases hy
  obtain ⟨hl, rfl⟩ := of_iteC hz
  exact ⟨_, _, rfl, rfl, hl, q _ _ _ (Ext.refl gh) (.int _)⟩
def CDivD (_ j : Int) : Prop := j ≠ 0 ∧ j.natAbs.log2 < 9000
theorem op_fdivD : OpR X (binaryOp .FloorDiv) (rI CDivD fun i j => .int (i.fdiv j)) := opI fun i j _ _ _ _ _ hc q => floordiv_int hc.1 q (.inl (PyProof.noPylong_of_log2 hc.2))
theorem pd_div (ha : PE X a (tD (km X) B W F1)) (hb : PE X b (tD (km X) B W F2)) : PE X (.BinOp a .FloorDiv b pos) (tD (km X) B W (binF dDiv F1 F2)) := by
  refine pd_op op_fdivD ?_ ha hb
  intro G H x y d e z Q gh hx hy hz q
  cases d <;> cases e <;> first | (cases hz; done) | skip
  cases hx; cases hy
  obtain ⟨hl, rfl⟩ := of_iteC hz
  exact ⟨_, _, rfl, rfl, hl, q _ _ _ (Ext.refl gh) (.int _)⟩
theorem pd_mod (ha : PE X a (tD (km X) B W F1)) (hb : PE X b (tD (km X) B W F2)) : PE X (.BinOp a .Mod b pos) (tD (km X) B W (binF dMod F1 F2)) := by
  refine pd_op op_modN ?_ ha hb
  intro G H x y d e z Q gh hx hy hz q
  cases d <;> cases e <;> first | (cases hz; done) | skip
  cases hx; cases hy
  obtain ⟨hl, rfl⟩ := of_if hz
  exact ⟨_, _, rfl, rfl, hl, q _ _ _ (Ext.refl gh) (.int _)⟩
theorem pd_pow (ha : PE X a (tD (km X) B W F1)) (hb : PE X b (tD (km X) B W F2)) : PE X (.BinOp a .Pow b pos) (tD (km X) B W (binF dPow F1 F2)) := by
  refine pd_op op_pow ?_ ha hb
  intro G H x y d e z Q gh hx hy hz q
  cases d <;> cases e <;> first | (cases hz; done) | skip
  cases hx; cases hy
  obtain ⟨hl, rfl⟩ := of_iteC hz
  exact ⟨_, _, rfl, rfl, hl, q _ _ _ (Ext.refl gh) (.int _)⟩
theorem pd_neg (ha : PE X a (tD (km X) B W F1)) : PE X (.UnaryOp .USub a pos) (tD (km X) B W (unF dNeg F1)) := by
  refine (pe_un un_neg ha).of (t_un ?_)
  intro G H x d z Q gh hx hz q
  cases d <;> first | (cases hz; done) | skip
  cases hx; cases hz
  exact ⟨_, rfl, q _ _ _ (Ext.refl gh) (.int _)⟩

/-! comparisons: as values, as tests -/
theorem pd_cmp {op : CmpOp} {r : R2} {g : PyData → PyData → Option PyData} (ho : OpR X (compareOp op) r) (hr : RD X.K r g) (hm : behindInMarks op b = false) (ha : PE X a (tD (km X) B W F1)) (hb : PE X b (tD (km X) B W F2)) : PE X (.Compare a [op] [b] pos) (tD (km X) B W (binF g F1 F2)) :=
  (pe_cmpR ho ha hb hm).of (t_bin hr)
theorem pt_cmp' {op : CmpOp} {r : R2} {g : PyData → PyData → Option PyData} (ho : OpR X (compareOp op) r) (hr : RD X.K r g) (hm : behindInMarks op b = false) (ha : PE X a (tD (km X) B W F1)) (hb : PE X b (tD (km X) B W F2)) : PT X (.Compare a [op] [b] pos) (tDT (km X) B W (testF (binF g F1 F2))) :=
  (pt_cmpR ho ha hb hm).of fun σ H Q h => t_bin hr σ H _ (t_test σ H Q h)
theorem rd_lt : RD X.K (fun x y H Q => rI0 (fun i j => .bl (decide (i < j))) x y H Q ∨ ∃ i j, x = .str i ∧ y = .str j ∧ Q (.bl (decide (i.cps.toList < j.cps.toList))) H) dLt := by
  intro G H x y d e z Q gh hx hy hz q
  cases d <;> cases e <;> first | (cases hz; done) | skip
  · cases hx; cases hy; cases hz
    exact .inl ⟨_, _, rfl, rfl, q _ _ _ (Ext.refl gh) (.bl _)⟩
  · cases hx; cases hy; cases hz
    exact .inr ⟨_, _, rfl, rfl, q _ _ _ (Ext.refl gh) (.bl _)⟩
theorem rd_le : RD X.K (rI0 fun i j => .bl (decide (i ≤ j))) dLe := by
  intro G H x y d e z Q gh hx hy hz q
  cases d <;> cases e <;> first | (cases hz; done) | skip
  cases hx; cases hy; cases hz
  exact ⟨_, _, rfl, rfl, q _ _ _ (Ext.refl gh) (.bl _)⟩
theorem rd_gt : RD X.K (rI0 fun i j => .bl (decide (j < i))) dGt := by
  intro G H x y d e z Q gh hx hy hz q
  cases d <;> cases e <;> first | (cases hz; done) | skip
  cases hx; cases hy; cases hz
  exact ⟨_, _, rfl, rfl, q _ _ _ (Ext.refl gh) (.bl _)⟩
theorem rd_ge : RD X.K (rI0 fun i j => .bl (decide (j ≤ i))) dGe := by
  intro G H x y d e z Q gh hx hy hz q
  cases d <;> cases e <;> first | (cases hz; done) | skip
  cases hx; cases hy; cases hz
  exact ⟨_, _, rfl, rfl, q _ _ _ (Ext.refl gh) (.bl _)⟩
theorem rd_eq : RD X.K (rEqD X.K) dEq := by
  intro G H x y d e z Q gh hx hy hz q
  obtain ⟨⟨h1, h2⟩, rfl⟩ := of_if hz
  exact ⟨d, e, (dp_same gh _ _ hx).p, (dp_same gh _ _ hy).p, h1, h2, q _ _ _ (Ext.refl gh) (.bl _)⟩
theorem rd_ne : RD X.K (rNeD X.K) dNe := by
  intro G H x y d e z Q gh hx hy hz q
  obtain ⟨⟨h1, h2⟩, rfl⟩ := of_if hz
  exact ⟨d, e, (dp_same gh _ _ hx).p, (dp_same gh _ _ hy).p, h1, h2, q _ _ _ (Ext.refl gh) (.bl _)⟩
theorem dp_none {K : PySem.W.Frag} {G : Hp} {x : V} {d : PyData} (h : Dq K G x d) : decide (x = .non) = isNone d := by
  cases h <;> rfl
def dIsN2 (d e : PyData) : Option PyData := match e with
  | .none => dIsN d
  | _ => none
def dNotN2 (d e : PyData) : Option PyData := match e with
  | .none => dNotN d
  | _ => none
theorem rd_isN : RD X.K (fun x y H Q => y = .non ∧ Q (.bl (decide (x = .non))) H) dIsN2 := by
  intro G H x y d e z Q gh hx hy hz q
  cases e <;> first | (cases hz; done) | skip
  cases hy; cases hz
  rw [dp_none hx]
  exact ⟨rfl, q _ _ _ (Ext.refl gh) (.bl _)⟩
theorem rd_notN : RD X.K (fun x y H Q => y = .non ∧ Q (.bl (!decide (x = .non))) H) dNotN2 := by
  intro G H x y d e z Q gh hx hy hz q
  cases e <;> first | (cases hz; done) | skip
  cases hy; cases hz
  rw [dp_none hx]
  exact ⟨rfl, q _ _ _ (Ext.refl gh) (.bl _)⟩

/-! and, or, not, if -/
variable {T1 T2 : Rho → Res Bool} {rest : List Expr}
theorem pd_val {e : Expr} {F : Rho → Res PyData} (h : PE X e (tD (km X) B W F)) (he : ∀ whole, isTrue e X.env whole = (do let v ← whole; standAt e.pos; holding [v] (truthy v)) := by intro _; rfl) : PT X e (tDT (km X) B W (testF F)) :=
  (pt_val h he).of t_test
theorem t_and : ∀ σ H Q, tDT (km X) B W (andT T1 T2) σ H Q → tAnd (tDT (km X) B W T1) (tDT (km X) B W T2) σ H Q := by
  rintro σ H Q ⟨G, ρ, E, S⟩
  refine ⟨G, ρ, E, (Sat.bind S).imp fun c ρ1 s1 G1 H1 E1 g1 => ?_⟩
  cases c with
  | true =>
    rw [if_pos rfl] at s1 ⊢
    exact ⟨G1, ρ1, E1, (s1.up g1).imp fun c2 ρ2 s2 G2 H2 E2 g2 => s2 G2 H2 E2 (g1.trans g2)⟩
  | false =>
    rw [if_neg (by decide)] at s1 ⊢
    exact s1 G1 H1 E1 g1
theorem t_or : ∀ σ H Q, tDT (km X) B W (orT T1 T2) σ H Q → tOr (tDT (km X) B W T1) (tDT (km X) B W T2) σ H Q := by
  rintro σ H Q ⟨G, ρ, E, S⟩
  refine ⟨G, ρ, E, (Sat.bind S).imp fun c ρ1 s1 G1 H1 E1 g1 => ?_⟩
  cases c with
  | true =>
    rw [if_pos rfl] at s1 ⊢
    exact s1 G1 H1 E1 g1
  | false =>
    rw [if_neg (by decide)] at s1 ⊢
    exact ⟨G1, ρ1, E1, (s1.up g1).imp fun c2 ρ2 s2 G2 H2 E2 g2 => s2 G2 H2 E2 (g1.trans g2)⟩
theorem pw_andD (ha : PT X a (tDT (km X) B W T1)) (hb : PW X (.BoolOp .And (b :: rest) pos) (tDT (km X) B W T2)) : PW X (.BoolOp .And (a :: b :: rest) pos) (tDT (km X) B W (andT T1 T2)) :=
  ⟨fun wh pins s σ H Q I h => (pw_and ha hb).run wh pins s σ H Q I (t_and σ H Q h)⟩
theorem pw_orD (ha : PT X a (tDT (km X) B W T1)) (hb : PW X (.BoolOp .Or (b :: rest) pos) (tDT (km X) B W T2)) : PW X (.BoolOp .Or (a :: b :: rest) pos) (tDT (km X) B W (orT T1 T2)) :=
  ⟨fun wh pins s σ H Q I h => (pw_or ha hb).run wh pins s σ H Q I (t_or σ H Q h)⟩
theorem pt_notD (ha : PT X a (tDT (km X) B W T1)) : PT X (.UnaryOp .Not a pos) (tDT (km X) B W (notT T1)) := by
  refine (pt_not ha).of ?_
  rintro σ H Q ⟨G, ρ, E, S⟩
  exact ⟨G, ρ, E, (Sat.bind S).imp fun c ρ1 s1 G1 H1 E1 g1 => s1 G1 H1 E1 g1⟩
theorem t_boolv {F : Rho → Res PyData} {R : Bool → Rho → Prop} {G0 : Hp} {σ : L2.St} {ρ : Rho} (S : Sat (km X) B W G0 σ (testF F ρ) R) : Sat (km X) B W G0 σ (F ρ) fun d ρ1 => ∃ b, d = .bool b ∧ R b ρ1 := (Sat.bind S).imp fun d ρ1 s1 => by
  obtain ⟨b, hb, q⟩ := sat_opt s1
  cases d <;> first | (cases hb; done) | skip
  cases hb
  exact ⟨_, rfl, q⟩
theorem pd_and (ha : PE X a (tD (km X) B W F1)) (hb : PE X (.BoolOp .And (b :: rest) pos) (tD (km X) B W F2)) : PE X (.BoolOp .And (a :: b :: rest) pos) (tD (km X) B W (andV F1 F2)) := by
  refine (pe_and ha hb).of ?_
  rintro σ H Q ⟨G, ρ, E, S⟩
  refine ⟨G, ρ, E, (t_boolv (Sat.bind S)).imp fun d ρ1 s1 v G1 H1 E1 g1 dp1 => ?_⟩
  obtain ⟨c, rfl, s1⟩ := s1
  cases dp1
  refine ⟨c, rfl, ?_⟩
  cases c with
  | true =>
    rw [if_pos rfl] at s1 ⊢
    exact ⟨G1, ρ1, E1, (s1.up g1).imp fun c2 ρ2 s2 v G2 H2 E2 g2 => s2 v G2 H2 E2 (g1.trans g2)⟩
  | false =>
    rw [if_neg (by decide)] at s1 ⊢
    exact s1 _ G1 H1 E1 g1 (.bl _)
theorem pd_or (ha : PE X a (tD (km X) B W F1)) (hb : PE X (.BoolOp .Or (b :: rest) pos) (tD (km X) B W F2)) : PE X (.BoolOp .Or (a :: b :: rest) pos) (tD (km X) B W (orV F1 F2)) := by
  refine (pe_or ha hb).of ?_
  rintro σ H Q ⟨G, ρ, E, S⟩
  refine ⟨G, ρ, E, (t_boolv (Sat.bind S)).imp fun d ρ1 s1 v G1 H1 E1 g1 dp1 => ?_⟩
  obtain ⟨c, rfl, s1⟩ := s1
  cases dp1
  refine ⟨c, rfl, ?_⟩
  cases c with
  | true =>
    rw [if_pos rfl] at s1 ⊢
    exact s1 _ G1 H1 E1 g1 (.bl _)
  | false =>
    rw [if_neg (by decide)] at s1 ⊢
    exact ⟨G1, ρ1, E1, (s1.up g1).imp fun c2 ρ2 s2 v G2 H2 E2 g2 => s2 v G2 H2 E2 (g1.trans g2)⟩
theorem pd_not (ha : PE X a (tD (km X) B W F1)) : PE X (.UnaryOp .Not a pos) (tD (km X) B W (notV F1)) := by
  refine (pe_not ha).of ?_
  rintro σ H Q ⟨G, ρ, E, S⟩
  refine ⟨G, ρ, E, (t_boolv (Sat.bind S)).imp fun d ρ1 s1 v G1 H1 E1 g1 dp1 => ?_⟩
  obtain ⟨c, rfl, s1⟩ := s1
  cases dp1
  exact ⟨c, rfl, s1 _ G1 H1 E1 g1 (.bl _)⟩
theorem pd_ifExp {c : Expr} (hc : PT X c (tDT (km X) B W T1)) (ha : PE X a (tD (km X) B W F1)) (hb : PE X b (tD (km X) B W F2)) : PE X (.IfExp c a b pos) (tD (km X) B W (ifF T1 F1 F2)) := by
  refine (pe_ifExp hc ha hb).of ?_
  rintro σ H Q ⟨G, ρ, E, S⟩
  refine ⟨G, ρ, E, (Sat.bind S).imp fun c ρ1 s1 G1 H1 E1 g1 => ?_⟩
  cases c with
  | true =>
    rw [if_pos rfl] at s1 ⊢
    exact ⟨G1, ρ1, E1, (s1.up g1).imp fun c2 ρ2 s2 v G2 H2 E2 g2 => s2 v G2 H2 E2 (g1.trans g2)⟩
  | false =>
    rw [if_neg (by decide)] at s1 ⊢
    exact ⟨G1, ρ1, E1, (s1.up g1).imp fun c2 ρ2 s2 v G2 H2 E2 g2 => s2 v G2 H2 E2 (g1.trans g2)⟩

/-! arguments, displays, calls of built-ins -/
variable {e : Expr} {es : List Expr} {A : Rho → Res (List PyData)}
theorem pda_nil : PA X [] (tDA (km X) B W nilA) := by
  refine pa_nil.of ?_
  rintro σ H Q ⟨G, ρ, E, S⟩
  exact S [] G H E (Same.refl _) .nil
theorem pda_cons (ha : PE X e (tD (km X) B W F1)) (hr : PA X es (tDA (km X) B W A)) (hs : starEach (e :: es) X.env = (false, eval e X.env) :: starEach es X.env := by rfl) : PA X (e :: es) (tDA (km X) B W (consA F1 A)) := by
  refine (pa_cons ha hr hs).of ?_
  rintro σ H Q ⟨G, ρ, E, S⟩
  refine ⟨G, ρ, E, (Sat.bind S).imp fun d ρ1 s1 v G1 H1 E1 g1 dp1 => ⟨G1, ρ1, E1, ((Sat.bind s1).up g1).imp fun ds ρ2 s2 vs G2 H2 E2 g2 dp2 => ?_⟩⟩
  exact s2 (v :: vs) G2 H2 E2 (g1.trans g2) (.cons (dp_same g2 _ _ dp1) dp2)
def tTupN (t : TA) : TE := fun σ H Q => t σ H fun xs H1 => xs.length ≤ sizeLine ∧ ∀ (p : Addr) (o : Obj), H1 p = none → o.dict = none → Q (.ref p) (upd H1 p (.frz o (.tup xs)))
theorem pe_tupN {k : Nat} {t : TA} (h : PA X es t) : PE X (.Tuple es k pos) (tTupN t) := by
  refine ⟨fun pins s σ H Q I hq => ?_⟩
  refine wpAny_Tuple_spliced (thn (h.run pos pins s σ H _ I hq) fun us s1 ⟨xs, H1, I1, r, z, q⟩ => ⟨by rw [← r.length]; exact z, ?_⟩)
  have hf : H1 s1.heap.objs.size = none := I1.hok.fresh (Nat.le_refl _)
  exact ⟨.ref s1.heap.objs.size, _, I1.laid (t' := s1.toks) (o := .frz _ (.tup xs)) (fun b u e => Heap.get?_push_of_some _ e) (Nat.le_refl _) ⟨Heap.get?_push_size _ rfl, z, us, r, ⟨_, Heap.get?_push_size _ rfl, rfl, _, rfl⟩⟩, rfl, q _ _ hf rfl⟩
theorem pd_tup {k : Nat} (h : PA X es (tDA (km X) B W A)) : PE X (.Tuple es k pos) (tD (km X) B W (tupF A)) := by
  refine (pe_tupN h).of ?_
  rintro σ H Q ⟨G, ρ, E, S⟩
  refine ⟨G, ρ, E, (Sat.bind S).imp fun ds ρ1 s1 vs G1 H1 E1 g1 dp1 => ?_⟩
  by_cases hl : ds.length ≤ sizeLine
  · rw [if_pos hl] at s1
    refine ⟨by rw [dp1.len]; exact hl, fun p o hp ho => ?_⟩
    have ex := Ext.new (o := .frz o (.tup vs)) E1.base.gh hp
    exact s1 _ _ _ (E1.ext ex) (g1.trans ex.g) (.tup (SqN.of ho upd_same) (dpAll_same ex.g _ _ dp1))
  · rw [if_neg hl] at s1
    exact s1.elim
theorem pd_lst (h : PA X es (tDA (km X) B W A)) : PE X (.List es pos) (tD (km X) B W (lstF A)) := by
  refine (pe_lst h).of ?_
  rintro σ H Q ⟨G, ρ, E, S⟩
  refine ⟨G, ρ, E, (Sat.bind S).imp fun ds ρ1 s1 vs G1 H1 E1 g1 dp1 => ?_⟩
  by_cases hl : ds.length ≤ sizeLine
  · rw [if_pos hl] at s1
    refine ⟨by rw [dp1.len]; exact hl, fun p hp => ?_⟩
    have ex := Ext.new (o := .lst vs) E1.base.gh hp
    exact s1 _ _ _ (E1.ext ex) (g1.trans ex.g) (.lst (SqL.of upd_same) (dpAll_same ex.g _ _ dp1))
  · rw [if_neg hl] at s1
    exact s1.elim
theorem of_ifo {α : Type} {c : Prop} [Decidable c] {o : Option α} {z : α} (h : (if c then o else none) = some z) : c ∧ o = some z := by
  by_cases hc : c
  · rw [if_pos hc] at h; exact ⟨hc, h⟩
  · rw [if_neg hc] at h; cases h
/-- a subscript -/
theorem dpAll_ix {K : PySem.W.Frag} {G : Hp} {vs : List V} {ds : List PyData} {i : Int} {z : PyData} (h : DqAll K G vs ds) (e : atI ds i = some z) : ∃ v, atI vs i = some v ∧ Dq K G v z := by
  unfold atI at e ⊢
  rw [h.len]
  cases q : ixN ds.length i with
  | none => rw [q] at e; cases e
  | some j =>
    rw [q] at e
    exact h.get e
theorem rd_ix : RD X.K (rIx X.K) dIx := by
  intro G H x y d e z Q gh hx hy hz q
  cases e <;> first | (cases d <;> cases hz; done) | skip
  cases hy
  cases d <;> first | (cases hz; done) | skip
  · cases hx
    rename_i i zs
    obtain ⟨hl, hz⟩ := of_ifo hz
    cases he : atI zs.cps.toList i with
    | none => rw [he] at hz; cases hz
    | some c =>
      rw [he] at hz
      cases hz
      exact .inr (.inr ⟨_, _, c, rfl, rfl, hl, he, q _ _ _ (Ext.refl gh) (.str _)⟩)
  · cases hx with
    | lst h1 h2 =>
      obtain ⟨v, hv, dp⟩ := dpAll_ix h2 (show atI _ _ = some z from hz)
      exact .inl ⟨_, _, _, v, rfl, rfl, gh.seq h1, hv, q _ _ _ (Ext.refl gh) dp⟩
  · cases hx with
    | tup h1 h2 =>
      obtain ⟨v, hv, dp⟩ := dpAll_ix h2 (show atI _ _ = some z from hz)
      exact .inr (.inl ⟨_, _, _, v, rfl, rfl, seqT_same gh h1, hv, q _ _ _ (Ext.refl gh) dp⟩)
theorem pd_ix (ha : PE X a (tD (km X) B W F1)) (hb : PE X b (tD (km X) B W F2)) (hs : PlainIx b := by exact fun _ _ => rfl) : PE X (.Subscript a b pos) (tD (km X) B W (binF dIx F1 F2)) :=
  (pe_ix ix_seq ha hb hs).of (t_bin rd_ix)
/-- xs[::-1] -/
theorem pd_rev {k : Nat} {p1 p2 p3 : Pos} (ha : PE X a (tD (km X) B W F1)) : PE X (.Subscript a (.Slice none none (some (.UnaryOp .USub (.Constant (.int 1) k p1) p2)) p3) pos) (tD (km X) B W (unF dRev F1)) := by
  refine (pe_revL ha).of ?_
  rintro σ H Q ⟨G, ρ, E, S⟩
  refine ⟨G, ρ, E, (Sat.bind S).imp fun d ρ1 s1 v G1 H1 E1 g1 dp1 => ?_⟩
  obtain ⟨z, hz, q⟩ := sat_opt s1
  cases d <;> first | (cases hz; done) | skip
  cases hz
  cases dp1 with
  | lst h1 h2 =>
    refine ⟨_, _, rfl, E1.base.gh.seq h1, fun p hp => ?_⟩
    exact q _ _ _ (E1.ext (Ext.new E1.base.gh hp)) (g1.trans (Ext.new E1.base.gh hp).g) (.lst (SqL.of upd_same) (dpAll_same (Ext.new E1.base.gh hp).g _ _ h2.reverse))
/-- calls of built-in functions -/
def app1 (g : PyData → Option PyData) : List PyData → Option PyData
  | [d] => g d
  | _ => none
def app2 (g : PyData → PyData → Option PyData) : List PyData → Option PyData
  | [d, e] => g d e
  | _ => none
theorem rds1 {r : List V → Hp → VK → Prop} {g : PyData → Option PyData} (h : ∀ (G H : Hp) (x : V) (d z : PyData) (Q : VK), Same G H → Dq X.K G x d → g d = some z → (∀ v G' H', Ext G H G' H' → Dq X.K G' v z → Q v H') → r [x] H Q) : RDs X.K r (app1 g) := by
  intro G H xs ds z Q gh hx hz q
  match ds, hz with
  | [d], hz =>
    cases hx with
    | cons h1 h2 =>
      cases h2
      exact h G H _ d z Q gh h1 hz q
theorem rds2 {r : List V → Hp → VK → Prop} {g : PyData → PyData → Option PyData} (h : ∀ (G H : Hp) (x y : V) (d e z : PyData) (Q : VK), Same G H → Dq X.K G x d → Dq X.K G y e → g d e = some z → (∀ v G' H', Ext G H G' H' → Dq X.K G' v z → Q v H') → r [x, y] H Q) : RDs X.K r (app2 g) := by
  intro G H xs ds z Q gh hx hz q
  match ds, hz with
  | [d, e], hz =>
    cases hx with
    | cons h1 h2 =>
      cases h2 with
      | cons h2 h3 =>
        cases h3
        exact h G H _ _ d e z Q gh h1 h2 hz q
def bLen : PyData → Option PyData
  | .list xs => some (.int xs.length)
  | .tuple xs => some (.int xs.length)
  | .str x => if x.length ≤ sizeLine then some (.int x.length) else none
  | _ => none
def bMax : PyData → PyData → Option PyData
  | .int i, .int j => some (.int (if j > i then j else i))
  | _, _ => none
def bMin : PyData → PyData → Option PyData
  | .int i, .int j => some (.int (if j < i then j else i))
  | _, _ => none
def bAbs : PyData → Option PyData
  | .int i => some (.int (if i < 0 then -i else i))
  | _ => none
def bInt : PyData → Option PyData
  | .int i => some (.int i)
  | .bool k => some (.int (if k then 1 else 0))
  | .str a => if a.length ≤ 640 then (PySem.intText? a).map PyData.int else none
  | _ => none
def bGcd : PyData → PyData → Option PyData
  | .int a, .int b => some (.int ((Nat.gcd a.natAbs b.natAbs : Nat) : Int))
  | _, _ => none
theorem rd_len : RDs X.K (fun xs H Q => ∃ x n, xs = [x] ∧ LenV X.K x H n ∧ Q (.int n) H) (app1 bLen) := by
  refine rds1 fun G H x d z Q gh h1 hz q => ?_
  cases d <;> first | (cases hz; done) | skip
  · cases h1
    obtain ⟨hl, rfl⟩ := of_if hz
    exact ⟨_, _, rfl, ⟨hl, rfl⟩, q _ _ _ (Ext.refl gh) (.int _)⟩
  · cases hz
    cases h1 with
    | lst a1 a2 => exact ⟨_, _, rfl, .inl ⟨_, gh.seq a1, rfl⟩, by rw [a2.len]; exact q _ _ _ (Ext.refl gh) (.int _)⟩
  · cases hz
    cases h1 with
    | tup a1 a2 => exact ⟨_, _, rfl, .inr ⟨_, seqT_same gh a1, rfl⟩, by rw [a2.len]; exact q _ _ _ (Ext.refl gh) (.int _)⟩
theorem rd_max : RDs X.K (fun xs H Q => ∃ i j, xs = [.int i, .int j] ∧ Q (.int (if j > i then j else i)) H) (app2 bMax) := by
  refine rds2 fun G H x y d e z Q gh h1 h2 hz q => ?_
  cases d <;> cases e <;> first | (cases hz; done) | skip
  cases h1; cases h2; cases hz
  exact ⟨_, _, rfl, q _ _ _ (Ext.refl gh) (.int _)⟩
theorem rd_min : RDs X.K (fun xs H Q => ∃ i j, xs = [.int i, .int j] ∧ Q (.int (if j < i then j else i)) H) (app2 bMin) := by
  refine rds2 fun G H x y d e z Q gh h1 h2 hz q => ?_
  cases d <;> cases e <;> first | (cases hz; done) | skip
  cases h1; cases h2; cases hz
  exact ⟨_, _, rfl, q _ _ _ (Ext.refl gh) (.int _)⟩
theorem rd_abs : RDs X.K (fun xs H Q => ∃ i, xs = [.int i] ∧ Q (.int (if i < 0 then -i else i)) H) (app1 bAbs) := by
  refine rds1 fun G H x d z Q gh h1 hz q => ?_
  cases d <;> first | (cases hz; done) | skip
  cases h1; cases hz
  exact ⟨_, rfl, q _ _ _ (Ext.refl gh) (.int _)⟩
theorem callR_or {v : Value} {r r' : List V → Hp → VK → Prop} (h : CallR X v r) (h' : CallR X v r') : CallR X v (fun xs H Q => r xs H Q ∨ r' xs H Q) := by
  intro pins s σ H xs us Q I rx q
  rcases q with q | q
  · exact h pins s σ H xs us Q I rx q
  · exact h' pins s σ H xs us Q I rx q
theorem rd_int : RDs X.K (fun xs H Q => ((∃ i, xs = [.int i] ∧ Q (.int i) H) ∨ ∃ k, xs = [.bl k] ∧ Q (.int (if k then 1 else 0)) H) ∨ ∃ a n, xs = [.str a] ∧ PySem.intText? a = some n ∧ a.length ≤ 640 ∧ Q (.int n) H) (app1 bInt) := by
  refine rds1 fun G H x d z Q gh h1 hz q => ?_
  cases d <;> first | (cases hz; done) | skip
  · cases h1; cases hz
    exact .inl (.inr ⟨_, rfl, q _ _ _ (Ext.refl gh) (.int _)⟩)
  · cases h1; cases hz
    exact .inl (.inl ⟨_, rfl, q _ _ _ (Ext.refl gh) (.int _)⟩)
  · rename_i a
    obtain ⟨hl, hz⟩ := of_ifo hz
    cases e : PySem.intText? a with
    | none => rw [e] at hz; cases hz
    | some n =>
      rw [e] at hz
      cases hz
      cases h1
      exact .inr ⟨_, n, rfl, e, hl, q _ _ _ (Ext.refl gh) (.int _)⟩
theorem rd_gcd : RDs X.K rGcd (app2 bGcd) := by
  refine rds2 fun G H x y d e z Q gh h1 h2 hz q => ?_
  cases d <;> cases e <;> first | (cases hz; done) | skip
  cases h1; cases h2; cases hz
  exact ⟨_, _, rfl, q _ _ _ (Ext.refl gh) (.int _)⟩
/-- f(..), f a built-in function, type, or a module's name for one -/
theorem pd_callB {x : Str} {p : Pos} {id : String} {r : List V → Hp → VK → Prop} {g : List PyData → Option PyData} (hc : CallR X (.builtin id) r) (hr : RDs X.K r g) (hm : X.mg x = none) (hv : bootBuiltins x = some (.builtin id)) (ha : PA X (e :: es) (tDA (km X) B W A))
    (hg : Gl X x := by rfl) (hn : x ≠ "__name__" := by decide) (hdb : (x == ("__debug__" : Str)) = false := by decide) (he : starEach (e :: es) X.env = (false, eval e X.env) :: starEach es X.env := by rfl) (hpl : (backTo pos (starEach es X.env)).any (·.1) = false := by rfl) :
    PE X (.Call (.Name x p) (e :: es) [] pos) (tD (km X) B W (appF g A)) := (pe_callB hc hg hm hv ha hn hdb he hpl).of (t_app hr)
theorem pd_callTy {x : Str} {p : Pos} {T : String} {r : List V → Hp → VK → Prop} {g : List PyData → Option PyData} (hc : CallR X (.type T) r) (hr : RDs X.K r g) (hm : X.mg x = none) (hv : bootBuiltins x = some (.type T)) (ha : PA X (e :: es) (tDA (km X) B W A))
    (hg : Gl X x := by rfl) (hn : x ≠ "__name__" := by decide) (hdb : (x == ("__debug__" : Str)) = false := by decide) (he : starEach (e :: es) X.env = (false, eval e X.env) :: starEach es X.env := by rfl) (hpl : (backTo pos (starEach es X.env)).any (·.1) = false := by rfl) :
    PE X (.Call (.Name x p) (e :: es) [] pos) (tD (km X) B W (appF g A)) := (pe_callTy hc hg hm hv ha hn hdb he hpl).of (t_app hr)
theorem pd_callM {x : Str} {p : Pos} {id : String} {r : List V → Hp → VK → Prop} {g : List PyData → Option PyData} (hc : CallR X (.builtin id) r) (hr : RDs X.K r g) (hm : X.mg x = some (.builtin id)) (ha : PA X (e :: es) (tDA (km X) B W A))
    (hg : Gl X x := by rfl) (hdb : (x == ("__debug__" : Str)) = false := by decide) (he : starEach (e :: es) X.env = (false, eval e X.env) :: starEach es X.env := by rfl) (hpl : (backTo pos (starEach es X.env)).any (·.1) = false := by rfl) :
    PE X (.Call (.Name x p) (e :: es) [] pos) (tD (km X) B W (appF g A)) := (pe_callBfun hc hg hm ha hdb he hpl).of (t_app hr)
/-- a module's constant that the top wrote -/
theorem pd_glob {x : Str} {v : V} {u : Value} {d : PyData} {pos : Pos} (hm : X.mg x = some u) (r : RelV v u) (h : ∀ G : Hp, Dq X.K G v d) (hg : Gl X x := by rfl) (hd : (x == ("__debug__" : Str)) = false := by decide) : PE X (.Name x pos) (tD (km X) B W (cF d)) :=
  (pe_glob hg hm r hd).of (t_c h)

/-! ### what a def promises, by data -/
def spD (m : KM) (f : Fn) : Sp := fun vs H Q E => ∃ G ds, Same G H ∧ DqAll m.K G vs ds ∧ match f ds with
  | .ok d => ∀ v G' H', Ext G H G' H' → Dq m.K G' v d → Q v H'
  | .ex e => ∀ cls dd G' H', Ext G H G' H' → ExOk m G' H' e cls dd → E cls dd H'
  | .bad => False
/-- a call of an own def -/
theorem pd_call1 {CX : CXT} {k : Nat} {f : Addr} {fd : FuncData} {ps : List Str} {fn : Fn} {x : Str} {p : Pos} (F : FnOk X.prog X.w X.K X.mg X.base CX k f fd ps (spD (km X) fn)) (hr : Room k X.A) (hm : X.mg x = some (.ref f)) (hk : PySem.W.keepIn X.K (.ref f) = true) (hb : Binds X.K fd ps []) (hx : ∀ σ, PassesAt CX X σ (WE W σ))
    (ha : PA X (e :: es) (tDA (km X) B W A)) (hg : Gl X x := by rfl) (hdb : (x == ("__debug__" : Str)) = false := by decide) (he : starEach (e :: es) X.env = (false, eval e X.env) :: starEach es X.env := by rfl) (hpl : (backTo pos (starEach es X.env)).any (·.1) = false := by rfl) : PE X (.Call (.Name x p) (e :: es) [] pos) (tD (km X) B W (callF fn A)) := by
  refine (pe_callS F hr hg hm hk hb hx ha hdb he hpl).of ?_
  rintro σ H Q ⟨G, ρ, E, S⟩
  refine ⟨G, ρ, E, (Sat.bind S).imp fun ds ρ1 s1 vs G1 H1 E1 g1 dp1 => ?_⟩
  refine ⟨G1, ds, E1.base.gh, dp1, ?_⟩
  cases q : fn ds with
  | ok d =>
    rw [q] at s1
    exact fun v G' H' ext dp => s1 v G' H' (E1.ext ext) (g1.trans ext.g) dp
  | ex x =>
    rw [q] at s1
    exact fun cls dd G' H' ext ok => s1 cls dd G' H' (E1.ext ext) (g1.trans ext.g) ok
  | bad =>
    rw [q] at s1
    exact s1
end
end DL

namespace DL
open PySem PySem.Spec PyProof.Rows L2
/-! ### targets -/
abbrev Tg := PyData → Rho → Option Rho
abbrev Tgs := List PyData → Rho → Option Rho
def nameT (i : Nat) : Tg := fun d ρ => if i < ρ.length then some (ρ.set i (.d d)) else none
def nilTs : Tgs := fun ds ρ => match ds with
  | [] => some ρ
  | _ => none
def consTs (T : Tg) (U : Tgs) : Tgs := fun ds ρ => match ds with
  | d :: r => (T d ρ).bind fun ρ => U r ρ
  | _ => none
def tupT (n : Nat) (U : Tgs) : Tg := fun d ρ => match d with
  | .tuple ds => if ds.length = n then U ds ρ else none
  | _ => none
def gD (m : KM) (B : Bx) (T : Tg) : TG := fun v σ H Q => ∃ G ρ d ρ', DEnv m B G H σ ρ ∧ Dq m.K G v d ∧ T d ρ = some ρ' ∧ ∀ σ', DEnv m B G H σ' ρ' → Q σ' H
def gDs (m : KM) (B : Bx) (U : Tgs) : TGs := fun vs σ H Q => ∃ G ρ ds ρ', DEnv m B G H σ ρ ∧ DqAll m.K G vs ds ∧ U ds ρ = some ρ' ∧ ∀ σ', DEnv m B G H σ' ρ' → Q σ' H
theorem _root_.L2.PG.of {X : L2.Cx} {e : Expr} {t t' : TG} (h : PG X e t) (i : ∀ v σ H Q, t' v σ H Q → t v σ H Q) : PG X e t' := ⟨fun pins s σ H v u Q I r q => h.run pins s σ H v u Q I r (i _ _ _ _ q)⟩
theorem _root_.L2.PGs.of {X : L2.Cx} {e : List Expr} {t t' : TGs} (h : PGs X e t) (i : ∀ v σ H Q, t' v σ H Q → t v σ H Q) : PGs X e t' := ⟨fun pins s σ H v u Q I r q => h.run pins s σ H v u Q I r (i _ _ _ _ q)⟩
section
variable {X : L2.Cx} {B : Bx} {W : WX} {pos : Pos}
theorem pgd_name (i : Nat) {x : Str} (hN : X.N.Nodup) (hi : X.N[i]? = some x := by rfl) (hx : Loc X.env.scope x := by first | exact Or.inl rfl | exact Or.inr rfl) (hf : X.fn x = true ∨ X.env.scope.names.lookup x = some .local := by first | exact .inl rfl | exact .inr rfl | assumption) : PG X (.Name x pos) (gD (km X) B (nameT i)) := by
  refine (pg_name hN hi hx hf).of ?_
  rintro v σ H Q ⟨G, ρ, d, ρ', E, dp, hT, q⟩
  obtain ⟨hl, rfl⟩ := of_if hT
  exact q _ (E.put hl dp)
theorem pgds_nil : PGs X [] (gDs (km X) B nilTs) := by
  refine pgs_nil.of ?_
  rintro vs σ H Q ⟨G, ρ, ds, ρ', E, dp, hT, q⟩
  cases dp with
  | nil => cases hT; exact ⟨rfl, q _ E⟩
  | cons _ _ => cases hT
theorem pgds_cons {e : Expr} {es : List Expr} {T : Tg} {U : Tgs} (h1 : PG X e (gD (km X) B T)) (h2 : PGs X es (gDs (km X) B U))
    (hs : (assignEach (e :: es) X.env).map (·.2) = assign e X.env :: (assignEach es X.env).map (·.2) := by rfl) : PGs X (e :: es) (gDs (km X) B (consTs T U)) := by
  refine (pgs_cons h1 h2 hs).of ?_
  rintro vs σ H Q ⟨G, ρ, ds, ρ', E, dp, hT, q⟩
  cases dp with
  | nil => cases hT
  | cons d1 d2 =>
    rename_i v vs d ds
    cases e1 : T d ρ with
    | none => unfold consTs at hT; dsimp only at hT; rw [e1] at hT; cases hT
    | some ρ1 =>
      unfold consTs at hT; dsimp only at hT; rw [e1] at hT
      exact ⟨v, vs, rfl, G, ρ, d, ρ1, E, d1, e1, fun σ1 E1 => ⟨G, ρ1, ds, ρ', E1, d2, hT, q⟩⟩
theorem pgd_tup {es : List Expr} {k n : Nat} {U : Tgs} (hc : X.calm = true) (h : PGs X es (gDs (km X) B U))
    (hn : (assignEach es X.env).length = n := by rfl) (hst : (assignEach es X.env).findIdx? (·.1) = none := by rfl) : PG X (.Tuple es k pos) (gD (km X) B (tupT n U)) := by
  refine (pg_tup hc h hn hst).of ?_
  rintro v σ H Q ⟨G, ρ, d, ρ', E, dp, hT, q⟩
  cases d <;> first | (cases hT; done) | skip
  obtain ⟨hl, hT⟩ := of_ifo hT
  cases dp with
  | tup h1 h2 => exact ⟨_, _, rfl, seqT_same E.base.gh h1, by rw [h2.len]; exact hl, G, ρ, _, ρ', E, h2, hT, q⟩

/-! ### statements -/
def seqS (S1 S2 : Rho → Out) : Rho → Out := fun ρ => (S1 ρ).bind S2
def nxS : Rho → Out := .nx
def optS : Option Rho → Out
  | some ρ => .nx ρ
  | none => .bad
def asgS (F : Rho → Res PyData) (T : Tg) : Rho → Out := fun ρ => (F ρ).out fun d ρ => optS (T d ρ)
def ownS (A : Rho → Res (List PyData)) (i : Nat) : Rho → Out := fun ρ => (A ρ).out fun ds ρ => if ds.length ≤ sizeLine ∧ i < ρ.length then .nx (ρ.set i (.own ds)) else .bad
def parS (A : Rho → Res (List PyData)) (i j : Nat) : Rho → Out := fun ρ => (A ρ).out fun ds ρ => match ds with
  | [d, e] => if i < ρ.length ∧ j < ρ.length then .nx ((ρ.set i (.d d)).set j (.d e)) else .bad
  | _ => .bad
def retS (F : Rho → Res PyData) : Rho → Out := fun ρ => (F ρ).out fun d _ => .rt d
def dropS (F : Rho → Res PyData) : Rho → Out := fun ρ => (F ρ).out fun _ ρ => .nx ρ
def ifS (T : Rho → Res Bool) (S1 S2 : Rho → Out) : Rho → Out := fun ρ => (T ρ).out fun b ρ => if b = true then S1 ρ else S2 ρ
def isOwn : Option Ent → Bool
  | some (.own _) => true
  | _ => false
def appendS (i : Nat) (F : Rho → Res PyData) : Rho → Out := fun ρ => if isOwn ρ[i]? = true then (F ρ).out fun d ρ => match ρ[i]? with
  | some (.own xs) => if xs.length < sizeLine then .nx (ρ.set i (.own (xs ++ [d]))) else .bad
  | _ => .bad
  else .bad
def raiseS (nm : Str) : Rho → Out := fun ρ => .ex ⟨nm, []⟩ ρ
def tryS (ct : Str → Option Bool) (S1 S2 : Rho → Out) : Rho → Out := fun ρ => match S1 ρ with
  | .ex e ρ => match ct e.nm with
    | some true => match S2 ρ with
      | .ex _ _ => .bad
      | o => o
    | some false => .ex e ρ
    | none => .bad
  | o => o
def loopS (T : Tg) (S : Rho → Out) : List PyData → Rho → Out
  | [], ρ => .nx ρ
  | d :: ds, ρ => match T d ρ with
    | none => .bad
    | some ρ1 => match S ρ1 with
      | .nx ρ2 => loopS T S ds ρ2
      | .ct ρ2 => loopS T S ds ρ2
      | .bk ρ2 => .nx ρ2
      | o => o
def forS (F : Rho → Res (List PyData)) (T : Tg) (S : Rho → Out) : Rho → Out := fun ρ => (F ρ).out fun ds ρ => loopS T S ds ρ
def whileN (T : Rho → Res Bool) (S : Rho → Out) : Nat → Rho → Out
  | 0, _ => .bad
  | n + 1, ρ => (T ρ).out fun b ρ => if b = true then (match S ρ with
      | .nx ρ2 => whileN T S n ρ2
      | .ct ρ2 => whileN T S n ρ2
      | .bk ρ2 => .nx ρ2
      | o => o) else .nx ρ
open Classical in
noncomputable def whileS (T : Rho → Res Bool) (S : Rho → Out) : Rho → Out := fun ρ => if h : ∃ n, whileN T S n ρ ≠ .bad then whileN T S (Classical.choose h) ρ else .bad

variable {e : Expr} {es : List Expr} {st : Stmt} {rest : List Stmt} {S1 S2 : Rho → Out} {F : Rho → Res PyData} {A : Rho → Res (List PyData)} {T : Tg} {Tb : Rho → Res Bool} {D : Ends} {σ : L2.St}
theorem SatS.out {α : Type} {r : Res α} {f : α → Rho → Out} {G0 : Hp} (h : SatS (km X) B W G0 D (r.out f)) : Sat (km X) B W G0 σ r fun a ρ => SatS (km X) B W G0 D (f a ρ) := by
  cases r with
  | ok a ρ => exact h
  | ex x ρ => exact fun cls dd G H E g ok => h cls dd σ G H E g ok
  | bad => exact h
theorem pds_nil : PSs X [] (tDS (km X) B W nxS) := by
  refine pss_nil.of ?_
  rintro D σ H ⟨G, ρ, E, S⟩
  exact S σ G H E (Same.refl _)
theorem t_seq : ∀ D σ H, tDS (km X) B W (seqS S1 S2) D σ H → tSeq (tDS (km X) B W S1) (tDS (km X) B W S2) D σ H := by
  rintro D σ H ⟨G, ρ, E, S⟩
  refine ⟨G, ρ, E, ?_⟩
  unfold seqS at S
  cases h : S1 ρ with
  | nx ρ1 =>
    rw [h] at S
    exact fun σ G H E g => ⟨G, ρ1, E, S.up g⟩
  | rt d => rw [h] at S; exact S
  | bk ρ1 => rw [h] at S; exact S
  | ct ρ1 => rw [h] at S; exact S
  | ex x ρ1 => rw [h] at S; exact S
  | bad => rw [h] at S; exact S
theorem pds_cons (h1 : PS X st (tDS (km X) B W S1)) (h2 : PSs X rest (tDS (km X) B W S2)) : PSs X (st :: rest) (tDS (km X) B W (seqS S1 S2)) := (pss_cons h1 h2).of t_seq
theorem pds_one (h1 : PS X st (tDS (km X) B W S1)) : PSs X [st] (tDS (km X) B W S1) := pss_one h1
theorem pd_pass : PS X (.Pass pos) (tDS (km X) B W nxS) := by
  refine ps_pass.of ?_
  rintro D σ H ⟨G, ρ, E, S⟩
  exact S σ G H E (Same.refl _)
theorem pd_break : PS X (.Break pos) (tDS (km X) B W .bk) := by
  refine ps_break.of ?_
  rintro D σ H ⟨G, ρ, E, S⟩
  exact S σ G H E (Same.refl _)
theorem pd_cont : PS X (.Continue pos) (tDS (km X) B W .ct) := by
  refine ps_continue.of ?_
  rintro D σ H ⟨G, ρ, E, S⟩
  exact S σ G H E (Same.refl _)
theorem pd_doc {x j pos'} : PS X (.Expr (.Constant (.str x) j pos) pos') (tDS (km X) B W nxS) := by
  refine ps_doc.of ?_
  rintro D σ H ⟨G, ρ, E, S⟩
  exact S σ G H E (Same.refl _)
theorem pd_expr (he : PE X e (tD (km X) B W F)) (hs : swapsWith e none pos.line X.env = pure false := by rfl) : PS X (.Expr e pos) (tDS (km X) B W (dropS F)) := by
  refine (ps_expr he hs).of ?_
  rintro D σ H ⟨G, ρ, E, S⟩
  exact ⟨G, ρ, E, S.out.imp fun d ρ1 s1 v G1 H1 E1 g1 dp1 => s1 σ G1 H1 E1 g1⟩
theorem pd_ret (he : PE X e (tD (km X) B W F)) : PS X (.Return (some e) pos) (tDS (km X) B W (retS F)) := by
  refine (ps_ret he).of ?_
  rintro D σ H ⟨G, ρ, E, S⟩
  exact ⟨G, ρ, E, S.out.imp fun d ρ1 s1 v G1 H1 E1 g1 dp1 => s1 v G1 H1 E1.base dp1⟩
theorem pd_retN : PS X (.Return none pos) (tDS (km X) B W fun _ => .rt .none) := by
  refine ps_retN.of ?_
  rintro D σ H ⟨G, ρ, E, S⟩
  exact S _ G H E.base .non
theorem pd_if {c : Expr} {a b : List Stmt} (hc : PT X c (tDT (km X) B W Tb)) (ha : PSs X a (tDS (km X) B W S1)) (hb : PSs X b (tDS (km X) B W S2)) : PS X (.If c a b pos) (tDS (km X) B W (ifS Tb S1 S2)) := by
  refine (ps_if hc ha hb).of ?_
  rintro D σ H ⟨G, ρ, E, S⟩
  refine ⟨G, ρ, E, S.out.imp fun c ρ1 s1 G1 H1 E1 g1 => ?_⟩
  cases c with
  | true =>
    rw [if_pos rfl] at s1 ⊢
    exact ⟨G1, ρ1, E1, s1.up g1⟩
  | false =>
    rw [if_neg (by decide)] at s1 ⊢
    exact ⟨G1, ρ1, E1, s1.up g1⟩
theorem sat_optS {o : Option Rho} {G0 : Hp} (h : SatS (km X) B W G0 D (optS o)) : ∃ ρ, o = some ρ ∧ ∀ σ G H, DEnv (km X) B G H σ ρ → Same G0 G → D.nx σ H := by
  cases o with
  | none => exact h.elim
  | some ρ => exact ⟨ρ, rfl, h⟩
theorem pd_asg {tg : Expr} (he : PE X e (tD (km X) B W F)) (hg : PG X tg (gD (km X) B T)) (hs : swapsWithSole [tg] e pos.line X.env = pure false := by rfl) (hw : swappedStores [tg] e X.env = pure none := by rfl)
    (h1 : (assignEach [tg] X.env).map (·.2) = [assign tg X.env] := by rfl) : PS X (.Assign [tg] e pos) (tDS (km X) B W (asgS F T)) := by
  refine (ps_asg he hg hs hw h1).of ?_
  rintro D σ H ⟨G, ρ, E, S⟩
  refine ⟨G, ρ, E, S.out.imp fun d ρ1 s1 v G1 H1 E1 g1 dp1 => ?_⟩
  obtain ⟨ρ2, h2, q⟩ := sat_optS s1
  exact ⟨G1, ρ1, d, ρ2, E1, dp1, h2, fun σ' E' => q σ' G1 H1 E' g1⟩
theorem pd_set (i : Nat) {x : Str} {pos' : Pos} (hN : X.N.Nodup) (he : PE X e (tD (km X) B W F)) (hi : X.N[i]? = some x := by rfl) (hx : Loc X.env.scope x := by first | exact Or.inl rfl | exact Or.inr rfl) (hs : swapsWith e (some (.Name x pos')) pos.line X.env = pure false := by rfl) (hf : X.fn x = true ∨ X.env.scope.names.lookup x = some .local := by first | exact .inl rfl | exact .inr rfl | assumption) :
    PS X (.Assign [.Name x pos'] e pos) (tDS (km X) B W (asgS F (nameT i))) := by
  refine (ps_set hN hi hx he hs hf).of ?_
  rintro D σ H ⟨G, ρ, E, S⟩
  refine ⟨G, ρ, E, S.out.imp fun d ρ1 s1 v G1 H1 E1 g1 dp1 => ?_⟩
  obtain ⟨ρ2, h2, q⟩ := sat_optS s1
  obtain ⟨hl, rfl⟩ := of_if h2
  exact q _ _ _ (E1.put hl dp1) g1
theorem pd_setOwn (i : Nat) {x : Str} {pos' p2 : Pos} (hN : X.N.Nodup) (ha : PA X es (tDA (km X) B W A)) (hi : X.N[i]? = some x := by rfl) (hx : Loc X.env.scope x := by first | exact Or.inl rfl | exact Or.inr rfl) (hs : swapsWith (.List es p2) (some (.Name x pos')) pos.line X.env = pure false := by rfl) (hf : X.fn x = true ∨ X.env.scope.names.lookup x = some .local := by first | exact .inl rfl | exact .inr rfl | assumption) :
    PS X (.Assign [.Name x pos'] (.List es p2) pos) (tDS (km X) B W (ownS A i)) := by
  refine (ps_set hN hi hx (pe_lst ha) hs hf).of ?_
  rintro D σ H ⟨G, ρ, E, S⟩
  refine ⟨G, ρ, E, S.out.imp fun ds ρ1 s1 vs G1 H1 E1 g1 dp1 => ?_⟩
  by_cases hl : ds.length ≤ sizeLine ∧ i < ρ1.length
  · rw [if_pos hl] at s1
    exact ⟨by rw [dp1.len]; exact hl.1, fun p hp => s1 _ _ _ (E1.putOwn hl.2 hp dp1) g1⟩
  · rw [if_neg hl] at s1
    exact s1.elim
theorem pd_par (i j : Nat) {x y : Str} {a b : Expr} {px py pt : Pos} {kt k2 pt2} (hc : X.calm = true) (hN : X.N.Nodup) (ha : PA X [a, b] (tDA (km X) B W A)) (hi : X.N[i]? = some x := by rfl) (hj : X.N[j]? = some y := by rfl) (hij : i ≠ j := by decide)
    (hx : X.env.scope.names.lookup x = some .local := by rfl) (hy : X.env.scope.names.lookup y = some .local := by rfl)
    (hw : swappedStores [.Tuple [.Name x px, .Name y py] kt pt] (.Tuple [a, b] k2 pt2) X.env = pure (some [x, y]) := by rfl)
    (hs : swapsWithSole [.Tuple [.Name x px, .Name y py] kt pt] (.Tuple [a, b] k2 pt2) pos.line X.env = pure false := by rfl) :
    PS X (.Assign [.Tuple [.Name x px, .Name y py] kt pt] (.Tuple [a, b] k2 pt2) pos) (tDS (km X) B W (parS A i j)) := by
  refine (ps_par hc hN hi hj hij hx hy ha hw hs).of ?_
  rintro D σ H ⟨G, ρ, E, S⟩
  refine ⟨G, ρ, E, S.out.imp fun ds ρ1 s1 vs G1 H1 E1 g1 dp1 => ?_⟩
  match ds, s1 with
  | [d, e], s1 =>
    cases dp1 with
    | cons d1 d2 =>
      cases d2 with
      | cons d2 d3 =>
        cases d3
        by_cases hl : i < ρ1.length ∧ j < ρ1.length
        · have s2 : SatS (km X) B W G D (if i < ρ1.length ∧ j < ρ1.length then .nx ((ρ1.set i (.d d)).set j (.d e)) else .bad) := s1
          rw [if_pos hl] at s2
          exact ⟨_, _, rfl, s2 _ _ _ ((E1.put hl.1 d1).put (by simpa using hl.2) d2) g1⟩
        · have s2 : SatS (km X) B W G D (if i < ρ1.length ∧ j < ρ1.length then .nx ((ρ1.set i (.d d)).set j (.d e)) else .bad) := s1
          rw [if_neg hl] at s2
          exact s2.elim
/-- xs.append(e), xs a list of the frame's own -/
theorem pd_append (i : Nat) {x : Str} {px apos cpos : Pos} (he : PE X e (tD (km X) B W F)) (hN : X.N[i]? = some x := by rfl) (hv : Vis X.env.scope x := by first | exact Or.inl rfl | exact Or.inr (Or.inl rfl) | exact Or.inr (Or.inr rfl)) (hd : (x == ("__debug__" : Str)) = false := by decide)
    (hcd : (x == ("__classdict__" : Str)) = false := by decide)
    (hbase : attributeBase (.Name x px) "append" X.env (eval (.Name x px) X.env) = eval (.Name x px) X.env := by rfl)
    (hfew : ((backTo cpos (starEach [e] X.env)).all (fun x => !x.1) && (backToKw cpos (keywordEach [] X.env)).all (fun x => x.1.isSome)
      && decide ([e].length + ([] : List Keyword).length + (if ([] : List Keyword).isEmpty then 0 else 1) < 30)) = true := by rfl)
    (hline : (apos.endLine == cpos.line) = true := by rfl) (hs : starEach [e] X.env = (false, eval e X.env) :: starEach [] X.env := by rfl) (hplain : (backTo cpos (starEach [] X.env)).any (·.1) = false := by rfl)
    (hsw : swapsWith (.Call (.Attribute (.Name x px) "append" apos) [e] [] cpos) none pos.line X.env = pure false := by rfl) :
    PS X (.Expr (.Call (.Attribute (.Name x px) "append" apos) [e] [] cpos) pos) (tDS (km X) B W (appendS i F)) := by
  refine (ps_expr (pe_bm PySem.F.plainAttrs_list PySem.F.slot_list_append PySem.F.type_list_append mt_append (pe_var hN hv hd hcd) (pa_cons he pa_nil hs) hbase hfew hline hs hplain) hsw).of ?_
  rintro D σ H ⟨G, ρ, E, S⟩
  unfold appendS at S
  cases ho : isOwn ρ[i]? with
  | false => rw [ho, if_neg (by decide)] at S; exact S.elim
  | true =>
    rw [ho, if_pos rfl] at S
    obtain ⟨zs, hz⟩ : ∃ zs, ρ[i]? = some (.own zs) := by
      revert ho
      cases ρ[i]? with
      | none => intro z; cases z
      | some q => cases q <;> intro z <;> first | (cases z; done) | exact ⟨_, rfl⟩
    have q := E.ent i _ hz
    generalize hσ : σ[i]? = o at q
    cases q with
    | own h1 h2 h3 h4 =>
      rename_i a vs
      refine ⟨_, hσ, .inl ⟨rfl, _, SqL.of h1⟩, G, ρ, E, S.out.imp fun d ρ1 s1 v G1 H1 E1 g1 dp1 => ?_⟩
      show ∃ l xs y, _
      split at s1
      · rename_i ys hy
        have q := E1.ent i _ hy
        rw [hσ] at q
        cases q with
        | own k1 k2 k3 k4 =>
          by_cases hl : ys.length < sizeLine
          · rw [if_pos hl] at s1
            exact ⟨_, _, _, rfl, rfl, k1, by rw [k4.len]; exact hl, s1 _ _ _ (E1.change hy hσ (k4.append (.cons dp1 .nil))) g1⟩
          · rw [if_neg hl] at s1
            exact s1.elim
      · exact s1.elim

/-! loops -/
/-- an iterator walks over data -/
structure Walk (K : PySem.W.Frag) (ds : List PyData) (G : Hp) (J : It) : Prop where
  go : ∀ (i : Nat) (d : PyData) (G2 H2 : Hp), Same G G2 → Same G2 H2 → ds[i]? = some d → J.go i H2 ∧ ∀ v H3, J.yld i H2 v H3 → ∃ G3, Ext G2 H2 G3 H3 ∧ Dq K G3 v d
  stop : ∀ (i : Nat) (G2 H2 : Hp), Same G G2 → Same G2 H2 → i = ds.length → J.stop i H2
def iD (m : KM) (B : Bx) (W : WX) (F : Rho → Res (List PyData)) : TI := fun σ H R => ∃ G ρ, DEnv m B G H σ ρ ∧ Sat m B W G σ (F ρ) fun ds ρ' => ∀ J G' H', DEnv m B G' H' σ ρ' → Same G G' → Walk m.K ds G' J → R J H'
theorem pd_for {tg iter : Expr} {body : List Stmt} {Fi : Rho → Res (List PyData)} (hp : PassesOwn (model X.prog X.w) X.A X.env X.xe) (hc : X.calm = true) (hi : PI X tg iter (iD (km X) B W Fi)) (hg : PG X tg (gD (km X) B T)) (hb : PSs X body (tDS (km X) B W S1))
    (hs : ∀ x, foldedSetIterable iter X.env x = pure x := by intro _; rfl) : PS X (.For tg iter body [] pos) (tDS (km X) B W (forS Fi T S1)) := by
  refine (ps_for hp hc hi hg hb hs).of ?_
  rintro D σ H ⟨G, ρ, E, S⟩
  refine ⟨G, ρ, E, S.out.imp fun ds ρ1 s1 J G1 H1 E1 g1 wk => ?_⟩
  refine ⟨fun i m σ H => m = ds.length - i ∧ i ≤ ds.length ∧ ∃ G ρ, DEnv (km X) B G H σ ρ ∧ Same G1 G ∧ SatS (km X) B W G1 D (loopS T S1 (ds.drop i) ρ), ⟨_, rfl, Nat.zero_le _, G1, ρ1, E1, Same.refl _, s1.up g1⟩, ?_⟩
  rintro i m σ H ⟨rfl, hi, G2, ρ2, E2, g2, s2⟩
  by_cases hl : i < ds.length
  · have hd : ds[i]? = some ds[i] := List.getElem?_eq_getElem hl
    obtain ⟨w1, w2⟩ := wk.go i _ G2 H g2 E2.base.gh hd
    refine .inr ⟨w1, fun σ' H' => ∃ G ρ, DEnv (km X) B G H' σ' ρ ∧ Same G1 G ∧ SatS (km X) B W G1 D (loopS T S1 (ds.drop (i + 1)) ρ), fun σ' H' n => ⟨ds.length - (i + 1), by omega, rfl, hl, n⟩, fun v H3 y => ?_⟩
    obtain ⟨G3, ext, dp⟩ := w2 v H3 y
    have E3 := E2.ext ext
    rw [List.drop_eq_getElem_cons hl] at s2
    unfold loopS at s2
    cases hT : T ds[i] ρ2 with
    | none => rw [hT] at s2; exact s2.elim
    | some ρ3 =>
      rw [hT] at s2
      refine ⟨G3, ρ2, ds[i], ρ3, E3, dp, hT, fun σ' E' => ⟨G3, ρ3, E', ?_⟩⟩
      dsimp only at s2
      have g3 : Same G1 G3 := g2.trans ext.g
      cases hS : S1 ρ3 with
      | nx ρ4 =>
        rw [hS] at s2
        exact fun σ G H E g => ⟨G, ρ4, E, g3.trans g, s2⟩
      | ct ρ4 =>
        rw [hS] at s2
        exact fun σ G H E g => ⟨G, ρ4, E, g3.trans g, s2⟩
      | bk ρ4 =>
        rw [hS] at s2
        exact fun σ G H E g => s2 σ G H E (g3.trans g)
      | rt d => rw [hS] at s2; exact s2
      | ex x ρ4 =>
        rw [hS] at s2
        exact fun cls dd σ G H E g => s2 cls dd σ G H E (g3.trans g)
      | bad => rw [hS] at s2; exact s2
  · have hi' : i = ds.length := by omega
    subst hi'
    rw [List.drop_length] at s2
    exact .inl ⟨wk.stop _ G2 H g2 E2.base.gh rfl, s2 σ G2 H E2 g2⟩
end
end DL

namespace DL
open PySem PySem.Spec PyProof.Rows L2 RT
/-! ### while -/
section
variable {Tb : Rho → Res Bool} {S : Rho → Out}
theorem whileN_mono : ∀ {n : Nat} {ρ : Rho}, whileN Tb S n ρ ≠ .bad → ∀ k, whileN Tb S (n + k) ρ = whileN Tb S n ρ
  | 0, _, h, _ => absurd rfl h
  | n + 1, ρ, h, k => by
    rw [show n + 1 + k = (n + k) + 1 by omega]
    unfold whileN at h ⊢
    cases e : Tb ρ with
    | bad => rfl
    | ex x ρ1 => rfl
    | ok b ρ1 =>
      rw [e] at h
      cases b with
      | false => rfl
      | true =>
        simp only [Res.out, if_true] at h ⊢
        cases e2 : S ρ1 with
        | nx ρ2 => rw [e2] at h; exact whileN_mono h k
        | ct ρ2 => rw [e2] at h; exact whileN_mono h k
        | bk ρ2 => rfl
        | rt d => rfl
        | ex x ρ2 => rfl
        | bad => rfl
theorem whileS_of {n : Nat} {ρ : Rho} (h : whileN Tb S n ρ ≠ .bad) : whileS Tb S ρ = whileN Tb S n ρ := by
  have hx : ∃ n, whileN Tb S n ρ ≠ .bad := ⟨n, h⟩
  unfold whileS
  rw [dif_pos hx]
  have hc := Classical.choose_spec hx
  have a := whileN_mono hc n
  have b := whileN_mono h (Classical.choose hx)
  rw [Nat.add_comm] at a
  exact a.symm.trans b
theorem whileS_run {ρ : Rho} (h : whileS Tb S ρ ≠ .bad) : ∃ n, whileN Tb S n ρ = whileS Tb S ρ ∧ whileN Tb S n ρ ≠ .bad := by
  unfold whileS at h ⊢
  by_cases hx : ∃ n, whileN Tb S n ρ ≠ .bad
  · rw [dif_pos hx]
    exact ⟨Classical.choose hx, rfl, Classical.choose_spec hx⟩
  · rw [dif_neg hx] at h
    exact absurd rfl h
/-- one turn -/
theorem whileS_eq (ρ : Rho) : whileS Tb S ρ = (Tb ρ).out fun b ρ => if b = true then (match S ρ with
      | .nx ρ2 => whileS Tb S ρ2
      | .ct ρ2 => whileS Tb S ρ2
      | .bk ρ2 => .nx ρ2
      | o => o) else .nx ρ := by
  by_cases hx : ∃ n, whileN Tb S n ρ ≠ .bad
  · obtain ⟨n, h⟩ := hx
    rw [whileS_of h]
    cases n with
    | zero => exact absurd rfl h
    | succ n =>
      unfold whileN at h ⊢
      cases e : Tb ρ with
      | bad => rfl
      | ex x ρ1 => rfl
      | ok b ρ1 =>
        rw [e] at h
        cases b with
        | false => rfl
        | true =>
          simp only [Res.out, if_true] at h ⊢
          cases e2 : S ρ1 with
          | nx ρ2 => rw [e2] at h; exact (whileS_of h).symm
          | ct ρ2 => rw [e2] at h; exact (whileS_of h).symm
          | bk ρ2 => rfl
          | rt d => rfl
          | ex x ρ2 => rfl
          | bad => rfl
  · have e0 : whileS Tb S ρ = .bad := by unfold whileS; rw [dif_neg hx]
    rw [e0]
    have step : ∀ n, whileN Tb S (n + 1) ρ = .bad := fun n => Classical.byContradiction fun h => hx ⟨n + 1, h⟩
    cases e : Tb ρ with
    | bad => rfl
    | ex x ρ1 =>
      have := step 0
      unfold whileN at this
      rw [e] at this
      cases this
    | ok b ρ1 =>
      cases b with
      | false =>
        have := step 0
        unfold whileN at this
        rw [e] at this
        simp [Res.out] at this
      | true =>
        simp only [Res.out, if_true]
        cases e2 : S ρ1 with
        | nx ρ2 =>
          dsimp only
          refine Classical.byContradiction fun h => ?_
          obtain ⟨n, h1, h2⟩ := whileS_run (fun z => h z.symm)
          have := step n
          unfold whileN at this
          rw [e] at this
          simp only [Res.out, if_true] at this
          rw [e2] at this
          exact h2 this
        | ct ρ2 =>
          dsimp only
          refine Classical.byContradiction fun h => ?_
          obtain ⟨n, h1, h2⟩ := whileS_run (fun z => h z.symm)
          have := step n
          unfold whileN at this
          rw [e] at this
          simp only [Res.out, if_true] at this
          rw [e2] at this
          exact h2 this
        | bk ρ2 =>
          have := step 0
          unfold whileN at this
          rw [e] at this
          simp only [Res.out, if_true] at this
          rw [e2] at this
          cases this
        | rt d =>
          have := step 0
          unfold whileN at this
          rw [e] at this
          simp only [Res.out, if_true] at this
          rw [e2] at this
          cases this
        | ex x ρ2 =>
          have := step 0
          unfold whileN at this
          rw [e] at this
          simp only [Res.out, if_true] at this
          rw [e2] at this
          cases this
        | bad => rfl
end
section
variable {X : L2.Cx} {B : Bx} {W : WX} {pos : Pos} {e : Expr} {es : List Expr} {S1 S2 : Rho → Out} {F : Rho → Res PyData} {A : Rho → Res (List PyData)} {T : Tg} {Tb : Rho → Res Bool} {D : Ends} {σ : L2.St}
theorem pd_while {c : Expr} {body : List Stmt} (hp : PassesOwn (model X.prog X.w) X.A X.env X.xe) (hc : PT X c (tDT (km X) B W Tb)) (hb : PSs X body (tDS (km X) B W S1)) : PS X (.While c body [] pos) (tDS (km X) B W (whileS Tb S1)) := by
  refine (ps_while hp hc hb).of ?_
  rintro D σ H ⟨G, ρ, E, S⟩
  have nb : whileS Tb S1 ρ ≠ .bad := fun z => by rw [z] at S; exact S
  obtain ⟨n, h1, h2⟩ := whileS_run nb
  rw [← h1] at S
  refine ⟨fun n σ H => ∃ G2 ρ, DEnv (km X) B G2 H σ ρ ∧ Same G G2 ∧ SatS (km X) B W G D (whileN Tb S1 n ρ), ⟨n, G, ρ, E, Same.refl _, S⟩, ?_⟩
  rintro m σ H ⟨G2, ρ2, E2, g2, s2⟩
  cases m with
  | zero => exact s2.elim
  | succ m =>
    unfold whileN at s2
    refine ⟨G2, ρ2, E2, ((SatS.out s2).up g2).imp fun b ρ3 s3 G3 H3 E3 g3 => ?_⟩
    cases b with
    | false =>
      rw [if_neg (by decide)] at s3 ⊢
      exact s3 σ G3 H3 E3 (g2.trans g3)
    | true =>
      rw [if_pos rfl] at s3 ⊢
      refine ⟨fun σ' H' => ∃ G2 ρ, DEnv (km X) B G2 H' σ' ρ ∧ Same G G2 ∧ SatS (km X) B W G D (whileN Tb S1 m ρ), fun σ' H' n => ⟨m, Nat.lt_succ_self _, n⟩, G3, ρ3, E3, ?_⟩
      have g4 : Same G G3 := g2.trans g3
      cases hS : S1 ρ3 with
      | nx ρ4 =>
        rw [hS] at s3
        exact fun σ G5 H E g => ⟨G5, ρ4, E, g4.trans g, s3⟩
      | ct ρ4 =>
        rw [hS] at s3
        exact fun σ G5 H E g => ⟨G5, ρ4, E, g4.trans g, s3⟩
      | bk ρ4 =>
        rw [hS] at s3
        exact fun σ G5 H E g => s3 σ G5 H E (g4.trans g)
      | rt d => rw [hS] at s3; exact s3
      | ex x ρ4 =>
        rw [hS] at s3
        exact fun cls dd σ G5 H E g => s3 cls dd σ G5 H E (g4.trans g)
      | bad => rw [hS] at s3; exact s3

/-! ### what a for walks -/
def itemsF (F : Rho → Res PyData) : Rho → Res (List PyData) := fun ρ => (F ρ).bind fun d ρ => match d with
  | .list ds => .ok ds ρ
  | _ => .bad
def itemsT (F : Rho → Res PyData) : Rho → Res (List PyData) := fun ρ => (F ρ).bind fun d ρ => match d with
  | .tuple ds => .ok ds ρ
  | _ => .bad
def rangeL (a : Int) (n : Nat) : List PyData := (List.range n).map fun i : Nat => PyData.int (a + (i : Int))
noncomputable def rng1 (ds : List PyData) (ρ : Rho) : Res (List PyData) := match ds with
  | [.int j] => iteC (-(2 ^ 62) ≤ j ∧ j < 2 ^ 62) (.ok (rangeL 0 j.toNat) ρ) .bad
  | _ => .bad
noncomputable def rng2 (ds : List PyData) (ρ : Rho) : Res (List PyData) := match ds with
  | [.int i, .int j] => iteC (-(2 ^ 62) ≤ i ∧ i < 2 ^ 62 ∧ -(2 ^ 62) ≤ j ∧ j < 2 ^ 62) (.ok (rangeL i (j - i).toNat) ρ) .bad
  | _ => .bad
noncomputable def range1F (A : Rho → Res (List PyData)) : Rho → Res (List PyData) := fun ρ => (A ρ).bind rng1
noncomputable def range2F (A : Rho → Res (List PyData)) : Rho → Res (List PyData) := fun ρ => (A ρ).bind rng2
def revF (F : Rho → Res PyData) : Rho → Res (List PyData) := fun ρ => (F ρ).bind fun d ρ => match d with
  | .list ds => .ok ds.reverse ρ
  | .tuple ds => .ok ds.reverse ρ
  | _ => .bad
theorem _root_.L2.PI.of {tg iter : Expr} {t t' : TI} (h : PI X tg iter t) (i : ∀ σ H R, t' σ H R → t σ H R) : PI X tg iter t' := ⟨fun pins s σ H R I q => h.run pins s σ H R I (i _ _ _ q)⟩
theorem walk_list {K : PySem.W.Frag} {G : Hp} {a : Addr} {xs : List V} {ds : List PyData} (h1 : SqL K G a xs) (h2 : DqAll K G xs ds) : Walk K ds G (Itl K a) := by
  refine ⟨fun i d G2 H2 g gh hd => ?_, fun i G2 H2 g gh hi => ⟨xs, gh.seq (g.seq h1), by rw [h2.len, hi]; exact Nat.le_refl _⟩⟩
  obtain ⟨v, hv, dp⟩ := h2.get hd
  refine ⟨⟨xs, v, gh.seq (g.seq h1), hv⟩, fun u H3 y => ?_⟩
  obtain ⟨rfl, y⟩ := y
  have e : u = v := Option.some.inj ((y xs (gh.seq (g.seq h1))).symm.trans hv)
  subst e
  exact ⟨G2, Ext.refl gh, dp_same g _ _ dp⟩
theorem walk_tup {K : PySem.W.Frag} {G : Hp} {a : Addr} {xs : List V} {ds : List PyData} (h1 : SqN K G a xs) (h2 : DqAll K G xs ds) : Walk K ds G (Itt K a) := by
  refine ⟨fun i d G2 H2 g gh hd => ?_, fun i G2 H2 g gh hi => ⟨xs, seqT_same gh (h1.same g), by rw [h2.len, hi]; exact Nat.le_refl _⟩⟩
  obtain ⟨v, hv, dp⟩ := h2.get hd
  refine ⟨⟨xs, v, seqT_same gh (h1.same g), hv⟩, fun u H3 y => ?_⟩
  obtain ⟨rfl, y⟩ := y
  have e : u = v := Option.some.inj ((y xs (seqT_same gh (h1.same g))).symm.trans hv)
  subst e
  exact ⟨G2, Ext.refl gh, dp_same g _ _ dp⟩
theorem walk_range {K : PySem.W.Frag} {G : Hp} (a : Int) (n : Nat) : Walk K (rangeL a n) G (Itr a n) := by
  refine ⟨fun i d G2 H2 g gh hd => ?_, fun i G2 H2 g gh hi => ?_⟩
  · unfold rangeL at hd
    rw [List.getElem?_map] at hd
    have hi : i < n := by
      apply Classical.byContradiction
      intro z
      rw [List.getElem?_eq_none (by simp; omega)] at hd
      cases hd
    rw [List.getElem?_range hi] at hd
    cases hd
    refine ⟨hi, fun u H3 y => ?_⟩
    obtain ⟨rfl, rfl⟩ := y
    exact ⟨G2, Ext.refl gh, .int _⟩
  · show n ≤ i
    unfold rangeL at hi
    rw [List.length_map, List.length_range] at hi
    omega
theorem walk_rev {K : PySem.W.Frag} {G : Hp} {a : Addr} {xs : List V} {ds : List PyData} (h1 : SqL K G a xs) (h2 : DqAll K G xs ds) : Walk K ds.reverse G (Itv K a xs.length) := by
  refine ⟨fun i d G2 H2 g gh hd => ?_, fun i G2 H2 g gh hi => ?_⟩
  · have hi : i < ds.length := by
      have := (List.getElem?_eq_some_iff.mp hd).1
      simpa using this
    rw [List.getElem?_reverse hi, ← h2.len] at hd
    obtain ⟨v, hv, dp⟩ := h2.get hd
    refine ⟨⟨by rw [h2.len]; exact hi, xs, v, gh.seq (g.seq h1), hv⟩, fun u H3 y => ?_⟩
    obtain ⟨rfl, y⟩ := y
    have e : u = v := Option.some.inj ((y xs (gh.seq (g.seq h1))).symm.trans hv)
    subst e
    exact ⟨G2, Ext.refl gh, dp_same g _ _ dp⟩
  · show xs.length ≤ i
    rw [h2.len, hi, List.length_reverse]
    exact Nat.le_refl _
theorem walk_revT {K : PySem.W.Frag} {G : Hp} {a : Addr} {xs : List V} {ds : List PyData} (h1 : SqN K G a xs) (h2 : DqAll K G xs ds) : Walk K ds.reverse G (ItvT K a xs.length) := by
  refine ⟨fun i d G2 H2 g gh hd => ?_, fun i G2 H2 g gh hi => ?_⟩
  · have hi : i < ds.length := by
      have := (List.getElem?_eq_some_iff.mp hd).1
      simpa using this
    rw [List.getElem?_reverse hi, ← h2.len] at hd
    obtain ⟨v, hv, dp⟩ := h2.get hd
    refine ⟨⟨by rw [h2.len]; exact hi, xs, v, seqT_same gh (h1.same g), hv⟩, fun u H3 y => ?_⟩
    obtain ⟨rfl, y⟩ := y
    have e : u = v := Option.some.inj ((y xs (seqT_same gh (h1.same g))).symm.trans hv)
    subst e
    exact ⟨G2, Ext.refl gh, dp_same g _ _ dp⟩
  · show xs.length ≤ i
    rw [h2.len, hi, List.length_reverse]
    exact Nat.le_refl _
variable {tg : Expr}
theorem pid_list (hl : PE X e (tD (km X) B W F)) : PI X tg e (iD (km X) B W (itemsF F)) := by
  refine (pi_list hl).of ?_
  rintro σ H R ⟨G, ρ, E, S⟩
  refine ⟨G, ρ, E, (Sat.bind S).imp fun d ρ1 s1 v G1 H1 E1 g1 dp1 => ?_⟩
  cases d <;> first | exact s1.elim | skip
  cases dp1 with
  | lst h1 h2 => exact ⟨_, rfl, ⟨_, E1.base.gh.seq h1⟩, s1 _ G1 H1 E1 g1 (walk_list h1 h2)⟩
theorem pid_tup (hl : PE X e (tD (km X) B W F)) : PI X tg e (iD (km X) B W (itemsT F)) := by
  refine (pi_tup hl).of ?_
  rintro σ H R ⟨G, ρ, E, S⟩
  refine ⟨G, ρ, E, (Sat.bind S).imp fun d ρ1 s1 v G1 H1 E1 g1 dp1 => ?_⟩
  cases d <;> first | exact s1.elim | skip
  cases dp1 with
  | tup h1 h2 => exact ⟨_, rfl, ⟨_, seqT_same E1.base.gh h1⟩, s1 _ G1 H1 E1 g1 (walk_tup h1 h2)⟩
theorem pid_range1 {p : Pos} (hm : X.mg "range" = none) (ha : PA X [e] (tDA (km X) B W A)) (hg : Gl X "range" := by rfl) (hs : starEach [e] X.env = [(false, eval e X.env)] := by rfl) : PI X tg (.Call (.Name "range" p) [e] [] pos) (iD (km X) B W (range1F A)) := by
  refine (pi_range1 hg hm ha hs).of ?_
  rintro σ H R ⟨G, ρ, E, S⟩
  refine ⟨G, ρ, E, (Sat.bind S).imp fun ds ρ1 s1 vs G1 H1 E1 g1 dp1 => ?_⟩
  unfold rng1 at s1
  split at s1
  · rename_i j
    cases dp1 with
    | cons a1 a2 =>
      cases a2
      cases a1
      by_cases hj : -(2 ^ 62) ≤ j ∧ j < 2 ^ 62
      · rw [iteC_pos hj] at s1
        exact ⟨j, rfl, hj.1, hj.2, s1 _ G1 H1 E1 g1 (walk_range 0 _)⟩
      · rw [iteC_neg hj] at s1
        exact s1.elim
  · exact s1.elim
theorem pid_range2 {e2 : Expr} {p : Pos} (hm : X.mg "range" = none) (ha : PA X [e, e2] (tDA (km X) B W A)) (hg : Gl X "range" := by rfl) (hs : starEach [e, e2] X.env = [(false, eval e X.env), (false, eval e2 X.env)] := by rfl) (hs2 : starEach [e2] X.env = [(false, eval e2 X.env)] := by rfl) : PI X tg (.Call (.Name "range" p) [e, e2] [] pos) (iD (km X) B W (range2F A)) := by
  refine (pi_range2 hg hm ha hs hs2).of ?_
  rintro σ H R ⟨G, ρ, E, S⟩
  refine ⟨G, ρ, E, (Sat.bind S).imp fun ds ρ1 s1 vs G1 H1 E1 g1 dp1 => ?_⟩
  unfold rng2 at s1
  split at s1
  · rename_i i j
    cases dp1 with
    | cons a1 a2 =>
      cases a2 with
      | cons a2 a3 =>
        cases a3
        cases a1
        cases a2
        by_cases hj : -(2 ^ 62) ≤ i ∧ i < 2 ^ 62 ∧ -(2 ^ 62) ≤ j ∧ j < 2 ^ 62
        · rw [iteC_pos hj] at s1
          exact ⟨i, j, rfl, hj, s1 _ G1 H1 E1 g1 (walk_range i _)⟩
        · rw [iteC_neg hj] at s1
          exact s1.elim
  · exact s1.elim
theorem pid_rev {p : Pos} (hm : X.mg "reversed" = none) (he : PE X e (tD (km X) B W F)) (hg : Gl X "reversed" := by rfl) (hs : starEach [e] X.env = (false, eval e X.env) :: starEach [] X.env := by rfl) : PI X tg (.Call (.Name "reversed" p) [e] [] pos) (iD (km X) B W (revF F)) := by
  refine (pi_revA hg hm he hs).of ?_
  rintro σ H R ⟨G, ρ, E, S⟩
  refine ⟨G, ρ, E, (Sat.bind S).imp fun d ρ1 s1 v G1 H1 E1 g1 dp1 => ?_⟩
  cases d <;> first | exact s1.elim | skip
  · cases dp1 with
    | lst h1 h2 => exact ⟨_, _, rfl, .inl ⟨E1.base.gh.seq h1, s1 _ G1 H1 E1 g1 (walk_rev h1 h2)⟩⟩
  · cases dp1 with
    | tup h1 h2 => exact ⟨_, _, rfl, .inr ⟨seqT_same E1.base.gh h1, s1 _ G1 H1 E1 g1 (walk_revT h1 h2)⟩⟩

/-! ### raise, try -/
section
variable {C : Addr} {bmB : List Value} {BB newId initId : String}
/-- X() of an own class without __init__ -/
theorem pmk_own0 {x : Str} {p pos : Pos} (F : PySem.ExcBaseFacts BB newId initId bmB) (q : PySem.W.excIn X.K C bmB newId = true) (gC : X.mg x = some (.ref C)) (kC : PySem.W.keepIn X.K (.ref C) = true) (r : Raises X (.ref C)) (hg : Gl X x)
    (hdb : (x == ("__debug__" : Str)) = false := by decide) : PMk X (.Call (.Name x p) [] [] pos) (fun _ H Q => Q (.ref C) none H) := by
  intro pins s σ H Q I h
  refine wpAny_Call_Name_kw (ld_glob I hg gC ?_ hdb)
  refine PySem.W.callWith_K0 I.kIn kC ?_
  show wpAny _ _ (call (.ref C) []) _ _ _
  obtain ⟨bm, N, nm, qn, bs, hdct, sn, sub, ab, col, dd, k0, k1, k2, k3, k5, mN, hC, hN, hni, T⟩ := exc_obj I.kIn q
  refine wpAny_call_exc_subT F T hC hN hni (fun h' e hm => ?_) (by show 0 ≤ sizeLine; exact Nat.zero_le _)
  exact mk_of I hm r h (I.hok.gone hm.new)
theorem pd_raise0 {x : Str} {p p2 : Pos} (hc : X.calm = true) (tk : Takes X W) (F : PySem.ExcBaseFacts BB newId initId bmB) (q : PySem.W.excIn X.K C bmB newId = true) (gC : X.mg x = some (.ref C)) (kC : PySem.W.keepIn X.K (.ref C) = true) (r : Raises X (.ref C)) (hg : Gl X x := by rfl)
    (hdb : (x == ("__debug__" : Str)) = false := by decide) : PS X (.Raise (some (.Call (.Name x p) [] [] p2)) none pos) (tDS (km X) B W (raiseS x)) := by
  refine (ps_raise hc tk (pmk_own0 F q gC kC r hg hdb)).of ?_
  rintro D σ H ⟨G, ρ, E, S⟩
  exact S (.ref C) none σ G H E (Same.refl _) ⟨⟨C, gC, rfl⟩, .inl ⟨rfl, rfl⟩⟩
end
/-- try: body / except x: suite, the suite raising nothing -/
theorem pd_try {x : Str} {c : Value} {body suite : List Stmt} {b₀ : Stmt} {np pos' : Pos} {ct : Str → Option Bool} (hs : X.stack = X.env :: X.outer) (hf : X.env.frame = some X.env.locals) (hc : Names X x c) (tk : Takes X W)
    (hct : ∀ (nm : Str) (C : Addr) (b : Bool), ct nm = some b → X.mg nm = some (.ref C) → PySem.W.exmOne X.K (.ref C) c = some b)
    (hb : ∀ (W' : WX) (pn : List (Addr × Obj)) (xe : Value → Shared → Prop), Takes (X.tr pn xe) W' → PassesOwn (model X.prog X.w) X.A X.env xe → PSs (X.tr pn xe) body (tDS (km X) B W' S1))
    (hsu : ∀ (a : Addr) (oe : Obj) (pn : List (Addr × Obj)), PSs (X.suite a ((a, oe) :: pn)) (b₀ :: suite) (tDS (km X) B (fun _ _ _ _ => False) S2)) :
    PS X (.Try body [.ExceptHandler (some (.Name x np)) none (b₀ :: suite) pos'] [] [] pos) (tDS (km X) B W (tryS ct S1 S2)) := by
  refine (ps_try_only hs hf hc tk (tb := fun W' => tDS (km X) B W' S1) (ts := fun _ _ _ => tDS (km X) B (fun _ _ _ _ => False) S2) hb (fun a oe cls d pn _ _ => hsu a oe pn)).of ?_
  rintro D σ H ⟨G, ρ, E, S⟩
  refine ⟨G, ρ, E, ?_⟩
  unfold tryS at S
  cases h : S1 ρ with
  | nx ρ1 => rw [h] at S; exact S
  | rt d => rw [h] at S; exact S
  | bk ρ1 => rw [h] at S; exact S
  | ct ρ1 => rw [h] at S; exact S
  | bad => rw [h] at S; exact S
  | ex x ρ1 =>
    rw [h] at S
    dsimp only at S
    intro cls dd σ1 G1 H1 E1 g1 ok
    obtain ⟨⟨C, hC, rfl⟩, ok2⟩ := id ok
    cases hb : ct x.nm with
    | none => rw [hb] at S; exact S.elim
    | some b =>
      rw [hb] at S
      refine ⟨b, hct _ C b hb hC, fun e a ha => ?_, fun e => ?_⟩
      · subst e
        dsimp only at S
        refine ⟨G1, ρ1, E1, ?_⟩
        cases h2 : S2 ρ1 with
        | nx ρ2 => rw [h2] at S; exact SatS.up (o := .nx ρ2) S g1
        | rt d => rw [h2] at S; exact S
        | bk ρ2 => rw [h2] at S; exact SatS.up (o := .bk ρ2) S g1
        | ct ρ2 => rw [h2] at S; exact SatS.up (o := .ct ρ2) S g1
        | bad => rw [h2] at S; exact S
        | ex y ρ2 => rw [h2] at S; exact S.elim
      · subst e
        exact S _ dd σ1 G1 H1 E1 g1 ok
end

/-! ### a def -/
def outFR : Out → FR
  | .nx _ => .ok .none
  | .rt d => .ok d
  | .ex e _ => .ex e
  | _ => .bad
def startR (n : Nat) (ds : List PyData) : Rho := ds.map .d ++ List.replicate (n - ds.length) .un
theorem start_env {m : KM} {G H : Hp} {N : List Str} {vs : List V} {ds : List PyData} (gh : Same G H) (dp : DqAll m.K G vs ds) : DEnv m ⟨G, H⟩ G H (L2.start N vs) (startR N.length ds) := by
  have hl := dp.len
  refine ⟨Ext.refl gh, ?_, fun i e h => ?_, fun i j a xs ys h => ?_, fun i j a kvs f h => ?_⟩
  · unfold startR L2.start
    simp [hl]
  · unfold startR at h
    unfold L2.start
    by_cases hi : i < ds.length
    · rw [List.getElem?_append_left (by simpa using hi), List.getElem?_map] at h
      rw [List.getElem?_append_left (by rw [List.length_map, hl]; exact hi), List.getElem?_map]
      cases e1 : ds[i]? with
      | none => rw [e1] at h; cases h
      | some d =>
        rw [e1] at h
        cases h
        obtain ⟨v, hv, q⟩ := dp.get e1
        rw [hv]
        exact .d q
    · rw [List.getElem?_append_right (by simpa using hi), List.getElem?_replicate] at h
      split at h
      · cases h; exact .un
      · cases h
  · unfold startR at h
    by_cases hi : i < ds.length
    · rw [List.getElem?_append_left (by simpa using hi), List.getElem?_map] at h
      cases e1 : ds[i]? with
      | none => rw [e1] at h; cases h
      | some d => rw [e1] at h; cases h
    · rw [List.getElem?_append_right (by simpa using hi), List.getElem?_replicate] at h
      split at h
      · cases h
      · cases h
  · unfold startR at h
    by_cases hi : i < ds.length
    · rw [List.getElem?_append_left (by simpa using hi), List.getElem?_map] at h
      cases e1 : ds[i]? with
      | none => rw [e1] at h; cases h
      | some d => rw [e1] at h; cases h
    · rw [List.getElem?_append_right (by simpa using hi), List.getElem?_replicate] at h
      split at h
      · cases h
      · cases h
section
variable {P : Program} {w : World} {K : PySem.W.Frag} {mg : Str → Option Value} {base : Heap}
theorem fnD {x qual : Str} {st : Stmt} {f : Addr} {fd : FuncData} {N ps : List Str} {k : Nat} (F : Fun K x qual st f fd) (S : FnScope N ps (defScope st)) (Sb : Rho → Out) (fn : Fn)
    (hn : ∀ ds, fn ds ≠ .bad → ds.length = ps.length)
    (hS : ∀ ds, fn ds ≠ .bad → outFR (Sb (startR N.length ds)) = fn ds)
    (hb : ∀ (cdv : Value) (A : Around) (outer : List Env) (s : Shared) (H : Hp) (E : XK) (B : Bx) (W : WX), Room k (A.deeper (envOfC qual (defScope st) s.heap.objs.size f cdv)) →
      Takes (cxOf (L2.CX P w) P w K mg base N qual (defScope st) f cdv A outer s H E) W →
      PassesOwn (model P w) (cxOf (L2.CX P w) P w K mg base N qual (defScope st) f cdv A outer s H E).A (cxOf (L2.CX P w) P w K mg base N qual (defScope st) f cdv A outer s H E).env (cxOf (L2.CX P w) P w K mg base N qual (defScope st) f cdv A outer s H E).xe →
      PSs (cxOf (L2.CX P w) P w K mg base N qual (defScope st) f cdv A outer s H E) (defBody st) (tDS ⟨K, mg⟩ B W Sb)) :
    FnOk P w K mg base (L2.CX P w) (k + 1) f fd ps (spD ⟨K, mg⟩ fn) := by
  refine F.okX S (fun vs H Q E h => ?_) (fun cdv A outer s H vs Q E hr h => ?_)
  · obtain ⟨G, ds, gh, dp, q⟩ := h
    rw [dp.len]
    refine hn ds fun z => ?_
    rw [z] at q
    exact q
  · obtain ⟨G, ds, gh, dp, q⟩ := h
    have nb : fn ds ≠ .bad := fun z => by rw [z] at q; exact q
    refine ⟨_, hb cdv A outer s H E ⟨G, H⟩ (fun cls d _ H => E cls d H) hr (takes_of rfl rfl rfl rfl) (passes_of rfl), G, startR N.length ds, start_env gh dp, ?_⟩
    have e := hS ds nb
    rw [← e] at q
    cases ho : Sb (startR N.length ds) with
    | nx ρ =>
      rw [ho] at q
      exact fun σ G' H' E' g => q .non G' H' E'.base .non
    | rt d =>
      rw [ho] at q
      exact q
    | ex x ρ =>
      rw [ho] at q
      exact fun cls dd σ G' H' E' g ok => q cls dd G' H' E'.base ok
    | bk ρ => rw [ho] at q; exact q.elim
    | ct ρ => rw [ho] at q; exact q.elim
    | bad => rw [ho] at q; exact q.elim
end
end DL

namespace DL
open PySem PySem.Spec PyProof.Rows L2 RT
section
variable {X : L2.Cx} {B : Bx} {W : WX} {pos : Pos} {a b e : Expr} {es : List Expr} {F F1 F2 : Rho → Res PyData} {A : Rho → Res (List PyData)} {tg : Expr}
/-! ### a written list, repeated -/
noncomputable def repF (A : Rho → Res (List PyData)) (F : Rho → Res PyData) : Rho → Res PyData := fun ρ => (A ρ).bind fun ds ρ => if ds.length ≤ 1000000 then (F ρ).bind fun e ρ => match e with
  | .int k => iteC (0 ≤ k ∧ k ≤ 1000000 ∧ ds.length * k.toNat ≤ 1000000) (.ok (.list (List.replicate k.toNat ds).flatten) ρ) .bad
  | _ => .bad
  else .bad
theorem DqAll.rep {K : PySem.W.Frag} {G : Hp} {vs : List V} {ds : List PyData} (h : DqAll K G vs ds) : ∀ n : Nat, DqAll K G (List.replicate n vs).flatten (List.replicate n ds).flatten
  | 0 => .nil
  | n + 1 => by
    rw [List.replicate_succ, List.replicate_succ, List.flatten_cons, List.flatten_cons]
    exact h.append (DqAll.rep h n)
theorem pd_rep {p1 : Pos} (ha : PA X es (tDA (km X) B W A)) (hb : PE X b (tD (km X) B W F)) : PE X (.BinOp (.List es p1) .Mult b pos) (tD (km X) B W (repF A F)) := by
  refine (pe_op op_rep (pe_lst ha) hb).of ?_
  rintro σ H Q ⟨G, ρ, E, S⟩
  refine ⟨G, ρ, E, (Sat.bind S).imp fun ds ρ1 s1 vs G1 H1 E1 g1 dp1 => ?_⟩
  have small : ∀ n : Nat, n ≤ 1000000 → n ≤ sizeLine := fun n h => by rw [sizeLine_eq]; omega
  by_cases hl : ds.length ≤ 1000000
  · rw [if_pos hl] at s1
    refine ⟨by rw [dp1.len]; exact small _ hl, fun p hp => ?_⟩
    have ex := Ext.new (o := .lst vs) E1.base.gh hp
    refine ⟨upd G1 p (.lst vs), ρ1, E1.ext ex, ((Sat.bind s1).up (g1.trans ex.g)).imp fun e ρ2 s2 u G2 H2 E2 g2 dp2 => ?_⟩
    cases e <;> first | exact s2.elim | skip
    rename_i k
    by_cases hk : 0 ≤ k ∧ k ≤ 1000000 ∧ ds.length * k.toNat ≤ 1000000
    · have s3 := s2
      dsimp only at s3
      rw [iteC_pos hk] at s3
      cases dp2
      have e1 : G2 p = some (.lst vs) := g2 _ _ upd_same
      refine ⟨p, k, vs, rfl, rfl, E2.base.gh _ _ e1, by omega, by omega, by rw [dp1.len]; exact small _ hk.2.2, fun r hr => ?_⟩
      have ex2 := Ext.new (o := .lst (List.replicate k.toNat vs).flatten) E2.base.gh hr
      exact s3 _ _ _ (E2.ext ex2) (g1.trans (ex.g.trans (g2.trans ex2.g))) (.lst (SqL.of upd_same) (dpAll_same (ex.g.trans (g2.trans ex2.g)) _ _ (DqAll.rep dp1 _)))
    · have s3 := s2
      dsimp only at s3
      rw [iteC_neg hk] at s3
      exact s3.elim
  · rw [if_neg hl] at s1
    exact s1.elim

/-! ### slices of lists and tuples -/
abbrev Po := Rho → Res (Option Int)
def noP : Po := fun ρ => .ok none ρ
def someP (F : Rho → Res PyData) : Po := fun ρ => (F ρ).bind fun d ρ => match d with
  | .int i => .ok (some i) ρ
  | _ => .bad
def cutD (xs : List PyData) (lo hi : Option Int) : List PyData := (xs.drop (HT.sIx xs.length 0 lo)).take (HT.sIx xs.length xs.length hi - HT.sIx xs.length 0 lo)
def dCut (d : PyData) (lo hi : Option Int) : Option PyData := match d with
  | .list xs => some (.list (cutD xs lo hi))
  | .tuple xs => some (.tuple (cutD xs lo hi))
  | .str z => if z.length ≤ sizeLine then some (.str (cutS z lo hi)) else none
  | _ => none
def cutF (F : Rho → Res PyData) (L U : Po) : Rho → Res PyData := fun ρ => (F ρ).bind fun d ρ => (L ρ).bind fun l ρ => (U ρ).bind fun u ρ => optR (dCut d l u) ρ
def tDP (m : KM) (B : Bx) (W : WX) (P : Po) : TO := fun σ H Q => ∃ G ρ, DEnv m B G H σ ρ ∧ Sat m B W G σ (P ρ) fun o ρ' => ∀ G' H', DEnv m B G' H' σ ρ' → Same G G' → Q o H'
theorem _root_.L2.PO.of {X : L2.Cx} {e : Option Expr} {t t' : TO} (h : PO X e t) (i : ∀ σ H Q, t' σ H Q → t σ H Q) : PO X e t' := ⟨fun pins s σ H Q I q => h.run pins s σ H Q I (i _ _ _ q)⟩
theorem pod_none : PO X none (tDP (km X) B W noP) := by
  refine po_none.of ?_
  rintro σ H Q ⟨G, ρ, E, S⟩
  exact S G H E (Same.refl _)
theorem pod_some (h : PE X e (tD (km X) B W F)) : PO X (some e) (tDP (km X) B W (someP F)) := by
  refine (po_some h).of ?_
  rintro σ H Q ⟨G, ρ, E, S⟩
  refine ⟨G, ρ, E, (Sat.bind S).imp fun d ρ1 s1 v G1 H1 E1 g1 dp1 => ?_⟩
  cases d <;> first | exact s1.elim | skip
  cases dp1
  exact ⟨_, rfl, s1 G1 H1 E1 g1⟩
/-- t[lo:hi]; a new tuple has no dict of its own -/
def rSlN (K : PySem.W.Frag) : V → Option Int → Option Int → Hp → VK → Prop := fun x lo hi H Q => ∃ a xs, x = .ref a ∧ SqT K H a xs ∧
  ((HT.sIx xs.length 0 lo = 0 ∧ HT.sIx xs.length xs.length hi = xs.length) → Q (.ref a) H) ∧
  (¬ (HT.sIx xs.length 0 lo = 0 ∧ HT.sIx xs.length xs.length hi = xs.length) → ∀ (p : Addr) (o : Obj), H p = none → o.dict = none → Q (.ref p) (upd H p (.frz o (.tup (cutV xs lo hi)))))
theorem sl_tupN : SlR X (rSlN X.K) := by
  intro pins s σ H x v vl vu lo hi sl Q I rx hs pl pu h
  obtain ⟨a, xs, rfl, hx, q1, q2⟩ := h
  by_cases hw : HT.sIx xs.length 0 lo = 0 ∧ HT.sIx xs.length xs.length hi = xs.length
  · exact sl_tupA pins s σ H _ v vl vu lo hi sl Q I rx hs pl pu ⟨a, xs, rfl, hx, fun _ => q1 hw, fun z => absurd hw z⟩
  · cases rx
    obtain ⟨its, r, ht, hz⟩ := I.tuple hx
    have hlen : its.toArray.size = xs.length := by rw [List.size_toArray]; exact r.length.symm
    refine ⟨"tuple", _, PyProof.Rows.slot_tuple_getitem.lookup, ht.typeIs, HT.getItem_tuple_cut ht hs pl pu (by rw [hlen]; exact hw) ?_ (by rw [hlen]; exact hz)⟩
    rw [hlen]
    exact ⟨.ref s.heap.objs.size, _, I.laid (t' := s.toks) (o := .frz _ (.tup (cutV xs lo hi))) (fun b ob q => Heap.get?_push_of_some _ q) (Nat.le_refl _)
      ⟨Heap.get?_push_size _ rfl, Nat.le_trans (cutV_length xs lo hi) hz, _, (r.drop (HT.sIx xs.length 0 lo)).take (HT.sIx xs.length xs.length hi - HT.sIx xs.length 0 lo), IsTup.new _ _⟩, rfl, q2 hw _ _ (I.hok.fresh (Nat.le_refl _)) rfl⟩
theorem sl_any : SlR X (fun x lo hi H Q => rSlL X.K x lo hi H Q ∨ rSlN X.K x lo hi H Q ∨ rSlS x lo hi H Q) := by
  intro pins s σ H x v vl vu lo hi sl Q I rx hs pl pu h
  rcases h with h | h | h
  · exact sl_list pins s σ H x v vl vu lo hi sl Q I rx hs pl pu h
  · exact sl_tupN pins s σ H x v vl vu lo hi sl Q I rx hs pl pu h
  · exact sl_str pins s σ H x v vl vu lo hi sl Q I rx hs pl pu h
theorem cut_dp {K : PySem.W.Frag} {G : Hp} {vs : List V} {ds : List PyData} (h : DqAll K G vs ds) (lo hi : Option Int) : DqAll K G (cutV vs lo hi) (cutD ds lo hi) := by
  unfold cutV cutD
  rw [h.len]
  exact (h.drop _).take _
theorem cut_whole {vs : List V} {ds : List PyData} {lo hi : Option Int} (h : vs.length = ds.length) (hw : HT.sIx vs.length 0 lo = 0 ∧ HT.sIx vs.length vs.length hi = vs.length) : cutD ds lo hi = ds := by
  unfold cutD
  rw [← h, hw.1, hw.2, List.drop_zero, Nat.sub_zero, h, List.take_length]
theorem pd_slice {lo hi : Option Expr} {p2 : Pos} {L U : Po} (ha : PE X a (tD (km X) B W F)) (hl : PO X lo (tDP (km X) B W L)) (hu : PO X hi (tDP (km X) B W U)) : PE X (.Subscript a (.Slice lo hi none p2) pos) (tD (km X) B W (cutF F L U)) := by
  refine (pe_slice sl_any ha hl hu).of ?_
  rintro σ H Q ⟨G, ρ, E, S⟩
  refine ⟨G, ρ, E, (Sat.bind S).imp fun d ρ1 s1 v G1 H1 E1 g1 dp1 => ⟨G1, ρ1, E1, ((Sat.bind s1).up g1).imp fun l ρ2 s2 G2 H2 E2 g2 => ⟨G2, ρ2, E2, ((Sat.bind s2).up (g1.trans g2)).imp fun u ρ3 s3 G3 H3 E3 g3 => ?_⟩⟩⟩
  obtain ⟨z, hz, q⟩ := sat_opt s3
  have dp3 := dp_same (g2.trans g3) _ _ dp1
  have gg : Same G G3 := g1.trans (g2.trans g3)
  cases d <;> first | (cases hz; done) | skip
  · obtain ⟨hl, rfl⟩ := of_if hz
    cases dp3
    exact .inr (.inr ⟨_, rfl, hl, q _ _ _ E3 gg (.str _)⟩)
  · cases hz
    cases dp3 with
    | lst h1 h2 => exact .inl ⟨_, _, rfl, E3.base.gh.seq h1, fun p hp => q _ _ _ (E3.ext (Ext.new E3.base.gh hp)) (gg.trans (Ext.new E3.base.gh hp).g) (.lst (SqL.of upd_same) (dpAll_same (Ext.new E3.base.gh hp).g _ _ (cut_dp h2 l u)))⟩
  · cases hz
    cases dp3 with
    | tup h1 h2 =>
      refine .inr (.inl ⟨_, _, rfl, seqT_same E3.base.gh h1, fun hw => ?_, fun hw p o hp ho => ?_⟩)
      · have ed : cutD _ l u = _ := cut_whole h2.len hw
        rw [ed] at q
        exact q _ _ _ E3 gg (.tup h1 h2)
      · exact q _ _ _ (E3.ext (Ext.new E3.base.gh hp)) (gg.trans (Ext.new E3.base.gh hp).g) (.tup (SqN.of ho upd_same) (dpAll_same (Ext.new E3.base.gh hp).g _ _ (cut_dp h2 l u)))

/-! ### a list or a tuple, walked -/
def charsD (x : Str) : List PyData := x.cps.toList.map fun c => .str ⟨#[c]⟩
def itemsQ (F : Rho → Res PyData) : Rho → Res (List PyData) := fun ρ => (F ρ).bind fun d ρ => match d with
  | .list ds => .ok ds ρ
  | .tuple ds => .ok ds ρ
  | .str x => .ok (charsD x) ρ
  | _ => .bad
theorem walk_str {K : PySem.W.Frag} {G : Hp} (x : Str) : Walk K (charsD x) G (Its x) := by
  refine ⟨fun i d G2 H2 g gh hd => ?_, fun i G2 H2 g gh hi => ?_⟩
  · unfold charsD at hd
    rw [List.getElem?_map] at hd
    cases hc : x.cps.toList[i]? with
    | none => rw [hc] at hd; cases hd
    | some c =>
      rw [hc] at hd
      cases hd
      have hc' : x.cps[i]? = some c := by rw [← Array.getElem?_toList]; exact hc
      have hl : i < x.cps.size := by
        have := (List.getElem?_eq_some_iff.mp hc).1
        simpa using this
      refine ⟨hl, fun u H3 y => ?_⟩
      obtain ⟨rfl, c2, h2, rfl⟩ := y
      rw [hc'] at h2
      cases h2
      exact ⟨G2, Ext.refl gh, .str _⟩
  · show x.cps.size ≤ i
    rw [hi]
    unfold charsD
    simp
theorem pid_seq (hl : PE X e (tD (km X) B W F)) : PI X tg e (iD (km X) B W (itemsQ F)) := by
  refine ⟨fun pins s σ H R I h => ?_⟩
  obtain ⟨G, ρ, E, S⟩ := h
  unfold itemsQ at S
  cases hF : F ρ with
  | bad => rw [hF] at S; exact S.elim
  | ex x ρ1 =>
    rw [hF] at S
    refine (pid_list hl).run pins s σ H R I ⟨G, ρ, E, ?_⟩
    unfold itemsF
    rw [hF]
    exact S
  | ok d ρ1 =>
    rw [hF] at S
    cases d <;> first | exact S.elim | skip
    · rename_i x
      refine (pi_str hl).run pins s σ H R I ⟨G, ρ, E, ?_⟩
      rw [hF]
      intro v G' H' E' g' dp
      cases dp
      exact ⟨_, rfl, S _ G' H' E' g' (walk_str x)⟩
    · refine (pid_list hl).run pins s σ H R I ⟨G, ρ, E, ?_⟩
      unfold itemsF
      rw [hF]
      exact S
    · refine (pid_tup hl).run pins s σ H R I ⟨G, ρ, E, ?_⟩
      unfold itemsT
      rw [hF]
      exact S
end
end DL

namespace DL
open PySem PySem.Spec PyProof.Rows L2 RT
/-! ### comprehensions -/
def frzE : Ent → Ent
  | .own xs => .d (.list xs)
  | e => e
def frz (ρ : Rho) : Rho := ρ.map frzE
/-- inside a comprehension a dict is merely read -/
def roE : Ent → Ent
  | .dct kvs => .rdd kvs
  | e => e
def blkR (ρ : Rho) : Rho := (frz ρ).map roE
def wipeR (ρ : Rho) : List Nat → Rho
  | [] => ρ
  | v :: vs => (wipeR ρ vs).set v .un
def noOwn (ρ : Rho) : Prop := ∀ (i : Nat) (xs : List PyData), ρ[i]? ≠ some (.own xs)
theorem frz_noOwn (ρ : Rho) : noOwn (frz ρ) := fun i xs h => by
  unfold frz at h
  rw [List.getElem?_map] at h
  cases e : ρ[i]? with
  | none => rw [e] at h; cases h
  | some z => rw [e] at h; cases z <;> cases h
section
variable {m : KM} {B : Bx} {G H G' H' : Hp} {σ : L2.St} {ρ : Rho}
theorem DEnv.frzUp (E : DEnv m B G H σ ρ) : ∀ k : Nat, k ≤ ρ.length → ∃ Gf, Same G Gf ∧ DEnv m B Gf H σ ((ρ.take k).map frzE ++ ρ.drop k)
  | 0, _ => ⟨G, Same.refl _, by simpa using E⟩
  | k + 1, hk => by
    obtain ⟨Gf, sf, Ef⟩ := E.frzUp k (by omega)
    have hk' : k < ρ.length := by omega
    have hl : ((ρ.take k).map frzE).length = k := by rw [List.length_map, List.length_take]; omega
    have hd : ρ.drop k = ρ[k] :: ρ.drop (k + 1) := List.drop_eq_getElem_cons hk'
    have ht : (ρ.take (k + 1)).map frzE = (ρ.take k).map frzE ++ [frzE ρ[k]] := by
      rw [List.take_succ_eq_append_getElem hk', List.map_append]
      rfl
    rw [ht, List.append_assoc, List.singleton_append]
    rw [hd] at Ef
    generalize hz : ρ[k] = z at Ef ⊢
    cases z with
    | un => exact ⟨Gf, sf, Ef⟩
    | d x => exact ⟨Gf, sf, Ef⟩
    | dct x => exact ⟨Gf, sf, Ef⟩
    | rdd x => exact ⟨Gf, sf, Ef⟩
    | own xs =>
      have hk2 : ((ρ.take k).map frzE ++ Ent.own xs :: ρ.drop (k + 1))[k]? = some (.own xs) := by
        rw [List.getElem?_append_right (by omega), hl, Nat.sub_self]
        rfl
      obtain ⟨a, vs, h1, h2, h3, h4, h5, h6, h7⟩ := Ef.freeze hk2
      refine ⟨_, sf.trans h5, ?_⟩
      have e : ((ρ.take k).map frzE ++ Ent.own xs :: ρ.drop (k + 1)).set k (.d (.list xs)) = (ρ.take k).map frzE ++ frzE (.own xs) :: ρ.drop (k + 1) := by
        rw [List.set_append_right _ _ (by omega), hl, Nat.sub_self]
        rfl
      rw [← e]
      exact h7
theorem DEnv.frz (E : DEnv m B G H σ ρ) : ∃ Gf, Same G Gf ∧ DEnv m B Gf H σ (DL.frz ρ) := by
  obtain ⟨Gf, sf, Ef⟩ := E.frzUp ρ.length (Nat.le_refl _)
  rw [List.take_length, List.drop_length, List.append_nil] at Ef
  exact ⟨Gf, sf, Ef⟩
theorem ro_get {i : Nat} {e : Ent} (h : (ρ.map roE)[i]? = some e) : ∃ e', ρ[i]? = some e' ∧ e = roE e' := by
  rw [List.getElem?_map] at h
  cases q : ρ[i]? with
  | none => rw [q] at h; cases h
  | some z => rw [q] at h; cases h; exact ⟨z, rfl, rfl⟩
/-- nothing own: the state over another ground -/
theorem DEnv.anew (E : DEnv m B G H σ ρ) (n : noOwn ρ) (g : Same G G') (h' : Same H H') (gh : Same G' H') : DEnv m ⟨G', H'⟩ G' H' σ (ρ.map roE) := by
  have no : ∀ (i : Nat) (xs : List PyData), (ρ.map roE)[i]? ≠ some (.own xs) := fun i xs h => by
    obtain ⟨e', h1, h2⟩ := ro_get h
    cases e' <;> first | (cases h2; done) | (cases h2; exact n i _ h1)
  refine ⟨Ext.refl gh, by rw [List.length_map]; exact E.len, fun i e h => ?_, fun i j a xs ys h => absurd h (no i xs), fun i j a kvs f h => ?_⟩
  · obtain ⟨e', h1, rfl⟩ := ro_get h
    have q := E.ent i e' h1
    generalize hs : σ[i]? = o at q
    cases q with
    | un => exact .un
    | d z => exact .d (dp_same g _ _ z)
    | own z1 z2 z3 z4 => exact absurd h1 (n i _)
    | dct z1 z2 z3 z4 => exact .rdd (h' _ _ z1) (dk_same g z4)
    | rdd z1 z4 => exact .rdd (h' _ _ z1) (dk_same g z4)
  · obtain ⟨e', h1, h2⟩ := ro_get h
    cases e' <;> cases h2
theorem DEnv.frzNew {D : Addr} {o : List V} (E : DEnv m B G H σ ρ) (n : noOwn ρ) (hG : G D = none) (hH : H D = some (.lst o)) (hB : B.H D = none) : DEnv m B (upd G D (.lst o)) H σ ρ := by
  have sg : Same G (upd G D (.lst o)) := upd_same_of hG
  refine ⟨⟨E.base.g.trans sg, E.base.h, fun b u e => ?_, fun b h1 h2 => ?_⟩, E.len, fun i e h => ?_, fun i j a xs ys h => absurd h (n i xs), E.disD⟩
  · by_cases hb : b = D
    · subst hb; rw [upd_same] at e; cases e; exact hH
    · rw [upd_ne hb] at e; exact E.base.gh _ _ e
  · rw [upd_ne (fun z => h1 (by rw [z]; exact hB))]
    exact E.base.cap b h1 h2
  · have q := E.ent i e h
    generalize hs : σ[i]? = o2 at q
    cases q with
    | un => exact .un
    | d z => exact .d (dp_same sg _ _ z)
    | own z1 z2 z3 z4 => exact absurd h (n i _)
    | dct z1 z2 z3 z4 =>
      refine .dct z1 ?_ z3 (dk_same sg z4)
      rw [upd_ne (ne_of z1 hH fun z => nomatch z)]
      exact z2
    | rdd z1 z4 => exact .rdd z1 (dk_same sg z4)
theorem DEnv.wipe (E : DEnv m B G H σ ρ) : ∀ (vs : List Nat), (∀ v ∈ vs, v < ρ.length) → DEnv m B G H (L2.wipe σ vs) (wipeR ρ vs) ∧ (wipeR ρ vs).length = ρ.length
  | [], _ => ⟨E, rfl⟩
  | v :: vs, h => by
    obtain ⟨h1, h2⟩ := E.wipe vs fun x hx => h x (List.mem_cons_of_mem _ hx)
    refine ⟨h1.drop (by rw [h2]; exact h v List.mem_cons_self), ?_⟩
    show ((wipeR ρ vs).set v .un).length = _
    rw [List.length_set]
    exact h2
end
/-- a target whose slots are among vs -/
def gW (m : KM) (vs : List Nat) (T : Tg) : TG := fun v σ H Q => ∃ B G ρ d ρ', DEnv m B G H σ ρ ∧ Dq m.K G v d ∧ T d ρ = some ρ' ∧ ∀ σ', DEnv m B G H σ' ρ' → L2.wipe σ' vs = L2.wipe σ vs → Q σ' H
def gWs (m : KM) (vs : List Nat) (U : Tgs) : TGs := fun xs σ H Q => ∃ B G ρ ds ρ', DEnv m B G H σ ρ ∧ DqAll m.K G xs ds ∧ U ds ρ = some ρ' ∧ ∀ σ', DEnv m B G H σ' ρ' → L2.wipe σ' vs = L2.wipe σ vs → Q σ' H
theorem wipe_set {σ : L2.St} {i : Nat} {x : Option V} : ∀ {vs : List Nat}, i ∈ vs → L2.wipe (σ.set i x) vs = L2.wipe σ vs
  | v :: vs, h => by
    unfold L2.wipe
    by_cases hi : i ∈ vs
    · rw [wipe_set hi]
    · have e : i = v := by
        rcases List.mem_cons.mp h with z | z
        · exact z
        · exact absurd z hi
      subst e
      have q : ∀ {ws : List Nat}, i ∉ ws → L2.wipe (σ.set i x) ws = (L2.wipe σ ws).set i x := by
        intro ws
        induction ws with
        | nil => intro _; rfl
        | cons w ws ih =>
          intro hn
          unfold L2.wipe
          rw [ih fun z => hn (List.mem_cons_of_mem _ z)]
          rw [List.set_comm _ _ (fun z => hn (by rw [z]; exact List.mem_cons_self))]
      rw [q hi, List.set_set]
  | [], h => absurd h (by simp)
theorem wipe_get {τ : L2.St} {i : Nat} : ∀ {vs : List Nat}, (L2.wipe τ vs)[i]? = if i ∈ vs then (τ[i]?).map (fun _ => none) else τ[i]?
  | [] => by simp [L2.wipe]
  | v :: vs => by
    unfold L2.wipe
    by_cases hi : v = i
    · subst hi
      rw [if_pos List.mem_cons_self]
      by_cases hl : v < τ.length
      · rw [List.getElem?_set_self (by rw [L2.wipe_length]; exact hl), List.getElem?_eq_getElem hl]
        rfl
      · rw [List.getElem?_eq_none (by rw [List.length_set, L2.wipe_length]; omega), List.getElem?_eq_none (by omega)]
        rfl
    · rw [List.getElem?_set_ne hi, wipe_get (vs := vs)]
      by_cases h : i ∈ vs
      · rw [if_pos h, if_pos (List.mem_cons_of_mem _ h)]
      · rw [if_neg h, if_neg]
        intro z
        rcases List.mem_cons.mp z with z | z
        · exact hi z.symm
        · exact h z
theorem wipe_idem {τ : L2.St} {vs : List Nat} : L2.wipe (L2.wipe τ vs) vs = L2.wipe τ vs := by
  apply List.ext_getElem?
  intro i
  rw [wipe_get, wipe_get]
  by_cases h : i ∈ vs
  · rw [if_pos h, if_pos h]
    cases τ[i]? <;> rfl
  · rw [if_neg h]
section
variable {X : L2.Cx} {B : Bx} {W : WX} {pos : Pos} {vs : List Nat}
theorem pgw_name (i : Nat) {x : Str} (hN : X.N.Nodup) (hv : i ∈ vs := by decide) (hi : X.N[i]? = some x := by rfl) (hx : Loc X.env.scope x := by first | exact Or.inl rfl | exact Or.inr rfl) (hf : X.fn x = true ∨ X.env.scope.names.lookup x = some .local := by first | exact .inl rfl | exact .inr rfl | assumption) : PG X (.Name x pos) (gW (km X) vs (nameT i)) := by
  refine (pg_name hN hi hx hf).of ?_
  rintro v σ H Q ⟨B, G, ρ, d, ρ', E, dp, hT, q⟩
  obtain ⟨hl, rfl⟩ := of_if hT
  exact q _ (E.put hl dp) (wipe_set hv)
theorem pgws_nil : PGs X [] (gWs (km X) vs nilTs) := by
  refine pgs_nil.of ?_
  rintro xs σ H Q ⟨B, G, ρ, ds, ρ', E, dp, hT, q⟩
  cases dp with
  | nil => cases hT; exact ⟨rfl, q _ E rfl⟩
  | cons _ _ => cases hT
theorem pgws_cons {e : Expr} {es : List Expr} {T : Tg} {U : Tgs} (h1 : PG X e (gW (km X) vs T)) (h2 : PGs X es (gWs (km X) vs U))
    (hs : (assignEach (e :: es) X.env).map (·.2) = assign e X.env :: (assignEach es X.env).map (·.2) := by rfl) : PGs X (e :: es) (gWs (km X) vs (consTs T U)) := by
  refine (pgs_cons h1 h2 hs).of ?_
  rintro xs σ H Q ⟨B, G, ρ, ds, ρ', E, dp, hT, q⟩
  cases dp with
  | nil => cases hT
  | cons d1 d2 =>
    rename_i v vs' d ds
    cases e1 : T d ρ with
    | none => unfold consTs at hT; dsimp only at hT; rw [e1] at hT; cases hT
    | some ρ1 =>
      unfold consTs at hT; dsimp only at hT; rw [e1] at hT
      exact ⟨v, vs', rfl, B, G, ρ, d, ρ1, E, d1, e1, fun σ1 E1 w1 => ⟨B, G, ρ1, ds, ρ', E1, d2, hT, fun σ2 E2 w2 => q σ2 E2 (w2.trans w1)⟩⟩
theorem pgw_tup {es : List Expr} {k n : Nat} {U : Tgs} (hc : X.calm = true) (h : PGs X es (gWs (km X) vs U))
    (hn : (assignEach es X.env).length = n := by rfl) (hst : (assignEach es X.env).findIdx? (·.1) = none := by rfl) : PG X (.Tuple es k pos) (gW (km X) vs (tupT n U)) := by
  refine (pg_tup hc h hn hst).of ?_
  rintro v σ H Q ⟨B, G, ρ, d, ρ', E, dp, hT, q⟩
  cases d <;> first | (cases hT; done) | skip
  obtain ⟨hl, hT⟩ := of_ifo hT
  cases dp with
  | tup h1 h2 => exact ⟨_, _, rfl, seqT_same E.base.gh h1, by rw [h2.len]; exact hl, B, G, ρ, _, ρ', E, h2, hT, q⟩
/-- a comprehension's turns -/
def compL (T : Tg) (Tt : Rho → Res Bool) (F : Rho → Res PyData) (ρ : Rho) : List PyData → List PyData → Option (List PyData)
  | [], acc => some acc
  | d :: ds, acc => match T d ρ with
    | none => none
    | some ρ2 => match Tt ρ2 with
      | .ok false _ => compL T Tt F ρ ds acc
      | .ok true ρ3 => match F ρ3 with
        | .ok y _ => if acc.length < sizeLine then compL T Tt F ρ ds (acc ++ [y]) else none
        | _ => none
      | _ => none
def yesT : Rho → Res Bool := fun ρ => .ok true ρ
def lcF (vs : List Nat) (Fi : Rho → Res (List PyData)) (T : Tg) (Tt : Rho → Res Bool) (F : Rho → Res PyData) : Rho → Res PyData := fun ρ => (Fi ρ).bind fun ds ρ1 =>
  if (∀ v ∈ vs, v < ρ1.length) then (match compL T Tt F (wipeR (blkR ρ1) vs) ds [] with
    | some r => .ok (.list r) (frz ρ1)
    | none => .bad) else .bad
def exT (m : KM) (F : Rho → Res Bool) : TT := fun σ H Q => ∃ B, tDT m B (fun _ _ _ _ => False) F σ H Q
def exE (m : KM) (F : Rho → Res PyData) : TE := fun σ H Q => ∃ B, tD m B (fun _ _ _ _ => False) F σ H Q
theorem pts_nilD : PTs X [] (exT (km X) yesT) := ⟨fun pins s σ H Q I ⟨B, G, ρ, E, S⟩ => pts_nil.run pins s σ H Q I (S G H E (Same.refl _))⟩
theorem pts_oneD {c : Expr} {F : Rho → Res Bool} (h : ∀ B, PT X c (tDT (km X) B (fun _ _ _ _ => False) F)) : PTs X [c] (exT (km X) F) := ⟨fun pins s σ H Q I ⟨B, q⟩ => (pts_one (h B)).run pins s σ H Q I q⟩
theorem pe_ex {e : Expr} {F : Rho → Res PyData} (h : ∀ B, PE X e (tD (km X) B (fun _ _ _ _ => False) F)) : PE X e (exE (km X) F) := ⟨fun pins s σ H Q I ⟨B, q⟩ => (h B).run pins s σ H Q I q⟩
/-- how a comprehension's reading is answered -/
theorem t_lc {Fi : Rho → Res (List PyData)} {T : Tg} {Tt : Rho → Res Bool} {F : Rho → Res PyData} {σ : L2.St} {H G : Hp} {ρ : Rho} {Q : VK} (E : DEnv (km X) B G H σ ρ) (S : Sat (km X) B W G σ (Fi ρ) fun ds ρ1 => (∀ v ∈ vs, v < ρ1.length) ∧ ∃ r, compL T Tt F (wipeR (blkR ρ1) vs) ds [] = some r ∧
      ∀ D accV G' H', DEnv (km X) B G' H' σ (frz ρ1) → Same G G' → H' D = some (.lst accV) → G' D = none → B.H D = none → DqAll X.K G' accV r → Q (.ref D) H') :
    tLc (iD (km X) B W Fi) (gW (km X) vs T) (exT (km X) Tt) (exE (km X) F) vs σ H Q := by
  refine ⟨G, ρ, E, S.imp fun ds ρ1 s1 J G1 H1 E1 g1 wk D hD => ?_⟩
  obtain ⟨hv, r, hr, q⟩ := s1
  obtain ⟨Gf, sf, Ef⟩ := E1.frz
  have no := frz_noOwn ρ1
  have hD0 : B.H D = none := E1.base.h.free hD
  refine ⟨fun i m H => m = ds.length - i ∧ i ≤ ds.length ∧ ∃ G acc accV, Ext Gf H1 G H ∧ H D = some (.lst accV) ∧ G D = none ∧ DqAll X.K G accV acc ∧ compL T Tt F (wipeR (blkR ρ1) vs) (ds.drop i) acc = some r,
    ⟨_, rfl, Nat.zero_le _, Gf, [], [], Ext.newOwn Ef.base.gh hD, upd_same, Ef.base.gh.free hD, .nil, hr⟩, ?_⟩
  rintro i m H2 ⟨rfl, hi, G2, acc, accV, x2, hH, hG, da, hc⟩
  by_cases hl : i < ds.length
  · have hd : ds[i]? = some ds[i] := List.getElem?_eq_getElem hl
    obtain ⟨w1, w2⟩ := wk.go i _ G2 H2 (sf.trans x2.g) x2.gh hd
    refine .inr ⟨w1, fun H' => ∃ G acc accV, Ext Gf H1 G H' ∧ H' D = some (.lst accV) ∧ G D = none ∧ DqAll X.K G accV acc ∧ compL T Tt F (wipeR (blkR ρ1) vs) (ds.drop (i + 1)) acc = some r, fun H' n => ⟨ds.length - (i + 1), by omega, rfl, hl, n⟩, fun v H3 y => ?_⟩
    obtain ⟨G3, x3, dp⟩ := w2 v H3 y
    have hH3 : H3 D = some (.lst accV) := x3.h _ _ hH
    have hG3 : G3 D = none := x3.cap D (by rw [hH]; exact fun z => nomatch z) hG
    have E3 : DEnv (km X) ⟨G3, H3⟩ G3 H3 σ (blkR ρ1) := Ef.anew no (x2.g.trans x3.g) (x2.h.trans x3.h) x3.gh
    have E3w := (E3.wipe vs (by unfold blkR frz; rw [List.length_map, List.length_map]; exact hv)).1
    rw [List.drop_eq_getElem_cons hl] at hc
    unfold compL at hc
    cases hT : T ds[i] (wipeR (blkR ρ1) vs) with
    | none => rw [hT] at hc; cases hc
    | some ρ2 =>
      rw [hT] at hc
      dsimp only at hc
      refine ⟨⟨G3, H3⟩, G3, _, ds[i], ρ2, E3w, dp, hT, fun σ2 E2 w => ⟨?_, ?_⟩⟩
      · exact w.trans wipe_idem
      · refine ⟨⟨G3, H3⟩, G3, ρ2, E2, ?_⟩
        cases hTt : Tt ρ2 with
        | bad => rw [hTt] at hc; cases hc
        | ex x ρ3 => rw [hTt] at hc; cases hc
        | ok b ρ3 =>
          rw [hTt] at hc
          intro G4 H4 E4 g4
          have x4 : Ext G3 H3 G4 H4 := E4.base
          cases b with
          | false =>
            rw [if_neg (by decide)]
            exact ⟨G4, acc, accV, x2.trans (x3.trans x4), x4.h _ _ hH3, x4.cap D (by rw [hH3]; exact fun z => nomatch z) hG3, dpAll_same (x3.g.trans x4.g) _ _ da, hc⟩
          | true =>
            rw [if_pos rfl]
            dsimp only at hc
            refine ⟨⟨G3, H3⟩, G4, ρ3, E4, ?_⟩
            cases hF : F ρ3 with
            | bad => rw [hF] at hc; cases hc
            | ex x ρ4 => rw [hF] at hc; cases hc
            | ok y ρ4 =>
              rw [hF] at hc
              intro u G5 H5 E5 g5 dp5
              dsimp only at hc
              have x5 : Ext G3 H3 G5 H5 := E5.base
              have hH5 : H5 D = some (.lst accV) := x5.h _ _ hH3
              have hG5 : G5 D = none := x5.cap D (by rw [hH3]; exact fun z => nomatch z) hG3
              have x : Ext Gf H1 G5 H5 := x2.trans (x3.trans x5)
              by_cases hlen : acc.length < sizeLine
              · rw [if_pos hlen] at hc
                refine ⟨accV, hH5, by rw [da.len]; exact hlen, G5, acc ++ [y], accV ++ [u], ⟨x.g, fun b o e => ?_, fun b o e => ?_, x.cap⟩, upd_same, hG5, (dpAll_same (x3.g.trans x5.g) _ _ da).append (.cons dp5 .nil), hc⟩
                · rw [upd_ne (ne_of_none e hD)]
                  exact x.h _ _ e
                · rw [upd_ne (ne_of_none e hG5)]
                  exact x.gh _ _ e
              · rw [if_neg hlen] at hc
                cases hc
  · have hi' : i = ds.length := by omega
    subst hi'
    rw [List.drop_length] at hc
    unfold compL at hc
    cases hc
    exact .inl ⟨wk.stop _ G2 H2 (sf.trans x2.g) x2.gh rfl, q D accV G2 H2 (Ef.ext x2) (g1.trans (sf.trans x2.g)) hH hG hD0 da⟩
theorem pd_lc {elt tg iter : Expr} {ifs : List Expr} {scope : Scope} {own : List (Str × Nat)} {Fi : Rho → Res (List PyData)} {T : Tg} {Tt : Rho → Res Bool} {F : Rho → Res PyData} (hc : X.calm = true) (hN : X.N.Nodup) (hi : PI X tg iter (iD (km X) B W Fi)) (ok : BlkOk X.N X.env.scope scope own)
    (hg : ∀ (s : Shared) (H : Hp) (C : Addr) (cl : List (Str × Addr)) (fp : List Addr), PG (X.blk s H scope (compEnvC scope cl C X.env) fp) tg (gW (km X) (own.map (·.2)) T)) (ht : ∀ (s : Shared) (H : Hp) (C : Addr) (cl : List (Str × Addr)) (fp : List Addr), PTs (X.blk s H scope (compEnvC scope cl C X.env) fp) ifs (exT (km X) Tt))
    (he : ∀ (s : Shared) (H : Hp) (C : Addr) (cl : List (Str × Addr)) (fp : List Addr) (B : Bx), PE (X.blk s H scope (compEnvC scope cl C X.env) fp) elt (tD (km X) B (fun _ _ _ _ => False) F)) (hs : ∀ x, foldedSetIterable iter X.env x = pure x := by intro _; rfl) :
    PE X (.ListComp elt [⟨tg, iter, ifs, 0⟩] scope pos) (tD (km X) B W (lcF (own.map (·.2)) Fi T Tt F)) := by
  refine (pe_lc (te := exE (km X) F) hc hN hi ok hg ht (fun s H C cl fp => pe_ex (X := X.blk s H scope (compEnvC scope cl C X.env) fp) (he s H C cl fp)) hs).of ?_
  rintro σ H Q ⟨G, ρ, E, S⟩
  refine t_lc E ((Sat.bind S).imp fun ds ρ1 s1 => ?_)
  by_cases hv : ∀ v ∈ own.map (·.2), v < ρ1.length
  · rw [if_pos hv] at s1
    refine ⟨hv, ?_⟩
    cases hr : compL T Tt F (wipeR (blkR ρ1) (own.map (·.2))) ds [] with
    | none => rw [hr] at s1; exact s1.elim
    | some r =>
      rw [hr] at s1
      refine ⟨r, rfl, fun D accV G' H' E' g' hH hG hB da => ?_⟩
      have sg : Same G' (upd G' D (.lst accV)) := upd_same_of hG
      exact s1 (.ref D) (upd G' D (.lst accV)) H' (E'.frzNew (frz_noOwn ρ1) hG hH hB) (g'.trans sg) (.lst (SqL.of upd_same) (dpAll_same sg _ _ da))
  · rw [if_neg hv] at s1
    exact s1.elim
/-- y = [..]: the list is the frame's own -/
def lcS (i : Nat) (vs : List Nat) (Fi : Rho → Res (List PyData)) (T : Tg) (Tt : Rho → Res Bool) (F : Rho → Res PyData) : Rho → Out := fun ρ => (Fi ρ).out fun ds ρ1 =>
  if (∀ v ∈ vs, v < ρ1.length) ∧ i < ρ1.length then (match compL T Tt F (wipeR (blkR ρ1) vs) ds [] with
    | some r => .nx ((frz ρ1).set i (.own r))
    | none => .bad) else .bad
theorem pd_setLc (i : Nat) {y : Str} {py spos : Pos} {elt tg iter : Expr} {ifs : List Expr} {scope : Scope} {own : List (Str × Nat)} {Fi : Rho → Res (List PyData)} {T : Tg} {Tt : Rho → Res Bool} {F : Rho → Res PyData} (hc : X.calm = true) (hN : X.N.Nodup) (hsw : swapsWith (.ListComp elt [⟨tg, iter, ifs, 0⟩] scope pos) (some (.Name y py)) spos.line X.env = pure true) (hi : PI X tg iter (iD (km X) B W Fi)) (ok : BlkOk X.N X.env.scope scope own)
    (hg : ∀ (s : Shared) (H : Hp) (C : Addr) (cl : List (Str × Addr)) (fp : List Addr), PG (X.blk s H scope (compEnvC scope cl C X.env) fp) tg (gW (km X) (own.map (·.2)) T)) (ht : ∀ (s : Shared) (H : Hp) (C : Addr) (cl : List (Str × Addr)) (fp : List Addr), PTs (X.blk s H scope (compEnvC scope cl C X.env) fp) ifs (exT (km X) Tt))
    (he : ∀ (s : Shared) (H : Hp) (C : Addr) (cl : List (Str × Addr)) (fp : List Addr) (B : Bx), PE (X.blk s H scope (compEnvC scope cl C X.env) fp) elt (tD (km X) B (fun _ _ _ _ => False) F)) (hy : X.N[i]? = some y := by rfl) (hyl : X.env.scope.names.lookup y = some .local := by rfl) (hs : ∀ x, foldedSetIterable iter X.env x = pure x := by intro _; rfl) :
    PS X (.Assign [.Name y py] (.ListComp elt [⟨tg, iter, ifs, 0⟩] scope pos) spos) (tDS (km X) B W (lcS i (own.map (·.2)) Fi T Tt F)) := by
  refine (ps_setLc (te := exE (km X) F) hc hN hy hyl hsw hi ok hg ht (fun s H C cl fp => pe_ex (X := X.blk s H scope (compEnvC scope cl C X.env) fp) (he s H C cl fp)) hs).of ?_
  rintro D σ H ⟨G, ρ, E, S⟩
  refine t_lc E ((SatS.out S).imp fun ds ρ1 s1 => ?_)
  by_cases hv : (∀ v ∈ own.map (·.2), v < ρ1.length) ∧ i < ρ1.length
  · rw [if_pos hv] at s1
    refine ⟨hv.1, ?_⟩
    cases hr : compL T Tt F (wipeR (blkR ρ1) (own.map (·.2))) ds [] with
    | none => rw [hr] at s1; exact s1.elim
    | some r =>
      rw [hr] at s1
      refine ⟨r, rfl, fun D accV G' H' E' g' hH hG hB da => ?_⟩
      have no := frz_noOwn ρ1
      have hi' : i < (frz ρ1).length := by unfold frz; rw [List.length_map]; exact hv.2
      have his : i < σ.length := by rw [← E'.len]; exact hi'
      refine s1 (σ.set i (some (.ref D))) G' H' ⟨E'.base, by simpa using E'.len, fun j e hj => ?_, fun j k a xs ys hj hk s1 s2 => ?_, E'.disD.set0 rfl fun j hj => List.getElem?_set_ne fun z => hj z.symm⟩ g'
      · by_cases hji : j = i
        · subst hji
          rw [List.getElem?_set_self hi'] at hj
          cases hj
          rw [List.getElem?_set_self his]
          exact .own hH hG hB da
        · rw [List.getElem?_set_ne (fun z => hji z.symm)] at hj ⊢
          exact E'.ent j e hj
      · have only : ∀ (j : Nat) (xs : List PyData), ((frz ρ1).set i (.own r))[j]? = some (.own xs) → j = i := fun j xs h => by
          apply Classical.byContradiction
          intro hji
          rw [List.getElem?_set_ne (fun z => hji z.symm)] at h
          exact no j xs h
        rw [only j xs hj, only k ys hk]
  · rw [if_neg hv] at s1
    exact s1.elim
end
end DL

namespace DL
open PySem PySem.Spec PyProof.Rows L2 RT
section
variable {X : L2.Cx} {B : Bx} {W : WX} {pos : Pos} {a b e : Expr} {F F1 F2 : Rho → Res PyData}
/-! ### truth, in, tuple, list -/
def truth : PyData → Option Bool
  | .none => some false
  | .bool b => some b
  | .int i => some (i != 0)
  | .str x => if x.length ≤ sizeLine then some ((x.length : Int) != 0) else none
  | .list xs => some (!xs.isEmpty)
  | .tuple xs => some (!xs.isEmpty)
  | .dict _ => none
def truF (F : Rho → Res PyData) : Rho → Res Bool := fun ρ => (F ρ).bind fun d ρ => optR (truth d) ρ
theorem empty_dp {K : PySem.W.Frag} {G : Hp} {vs : List V} {ds : List PyData} (h : DqAll K G vs ds) : ds.isEmpty = vs.isEmpty := by
  cases h <;> rfl
theorem pd_tru (h : PE X e (tD (km X) B W F)) (he : ∀ whole, isTrue e X.env whole = (do let v ← whole; standAt e.pos; holding [v] (truthy v)) := by intro _; rfl) : PT X e (tDT (km X) B W (truF F)) := by
  refine (pt_truth h he).of ?_
  rintro σ H Q ⟨G, ρ, E, S⟩
  refine ⟨G, ρ, E, (Sat.bind S).imp fun d ρ1 s1 v G1 H1 E1 g1 dp1 => ?_⟩
  obtain ⟨k, hk, q⟩ := sat_opt s1
  cases d <;> first | (cases hk; done) | skip
  · cases hk; cases dp1; exact ⟨_, rfl, q G1 H1 E1 g1⟩
  · cases hk; cases dp1; exact ⟨_, rfl, q G1 H1 E1 g1⟩
  · cases hk; cases dp1; exact ⟨_, rfl, q G1 H1 E1 g1⟩
  · cases dp1
    obtain ⟨hl, rfl⟩ := of_if hk
    exact ⟨_, ⟨hl, rfl⟩, q G1 H1 E1 g1⟩
  · cases hk
    cases dp1 with
    | lst h1 h2 => exact ⟨_, .inl ⟨_, E1.base.gh.seq h1, by rw [empty_dp h2]⟩, q G1 H1 E1 g1⟩
  · cases hk
    cases dp1 with
    | tup h1 h2 => exact ⟨_, .inr (.inl ⟨_, seqT_same E1.base.gh h1, by rw [empty_dp h2]⟩), q G1 H1 E1 g1⟩
def dIn (d e : PyData) : Option PyData := match e with
  | .list ds => if SeqAt.shaped d = true ∧ SeqAt.shaped (.list ds) = true then some (.bool (ds.any fun z => PyData.eqv z d)) else none
  | _ => none
def dNotIn (d e : PyData) : Option PyData := match e with
  | .list ds => if SeqAt.shaped d = true ∧ SeqAt.shaped (.list ds) = true then some (.bool (!ds.any fun z => PyData.eqv z d)) else none
  | _ => none
theorem rd_in : RD X.K (rInD X.K) dIn := by
  intro G H x y d e z Q gh hx hy hz q
  cases e <;> first | (cases hz; done) | skip
  obtain ⟨⟨h1, h2⟩, rfl⟩ := of_if hz
  exact ⟨d, _, (dp_same gh _ _ hx).p, (dp_same gh _ _ hy).p, h1, h2, q _ _ _ (Ext.refl gh) (.bl _)⟩
theorem rd_notIn : RD X.K (rNotInD X.K) dNotIn := by
  intro G H x y d e z Q gh hx hy hz q
  cases e <;> first | (cases hz; done) | skip
  obtain ⟨⟨h1, h2⟩, rfl⟩ := of_if hz
  exact ⟨d, _, (dp_same gh _ _ hx).p, (dp_same gh _ _ hy).p, h1, h2, q _ _ _ (Ext.refl gh) (.bl _)⟩
theorem hu65 {k : Nat} {A : Around} (hr : Room k A) : A.units + 65 < cLine := by have := hr.un; omega
def bTuple : PyData → Option PyData
  | .list xs => some (.tuple xs)
  | .tuple xs => some (.tuple xs)
  | _ => none
def bList : PyData → Option PyData
  | .list xs => some (.list xs)
  | .tuple xs => some (.list xs)
  | _ => none
/-- tuple(xs); a new tuple has no dict of its own -/
theorem call_tupleN : CallR X (.type "tuple") (fun xs H Q => ∃ p ys, xs = [.ref p] ∧ ((SqL X.K H p ys ∧ ∀ (l : Addr) (o : Obj), H l = none → o.dict = none → Q (.ref l) (upd H l (.frz o (.tup ys)))) ∨ (SqT X.K H p ys ∧ Q (.ref p) H))) := by
  intro pins s σ H xs us Q I r h
  obtain ⟨p, ys, rfl, h⟩ := h
  rcases h with ⟨hq, q⟩ | ⟨hq, q⟩
  · obtain ⟨u, rfl, rx⟩ := vals1 r
    cases rx
    obtain ⟨its, r', pl, hz⟩ := I.list hq
    have hlen := r'.length
    refine call_tuple_list pl.isList (fun h' kp => ?_) (by simp only [List.size_toArray] <;> omega)
    have I1 : Inv X pins σ H { s with heap := h' } := I.kept (t' := s.toks) kp
    exact ⟨.ref h'.objs.size, _, I1.laid (t' := s.toks) (o := .frz _ (.tup ys)) (fun b o e => Heap.get?_push_of_some _ e) (Nat.le_refl _) ⟨Heap.get?_push_size _ rfl, hz, its, r', IsTup.new _ _⟩, rfl, q _ _ (I1.hok.fresh (Nat.le_refl _)) rfl⟩
  · exact call_tuple_of pins s σ H _ us Q I r ⟨p, ys, rfl, .inr ⟨hq, q⟩⟩
theorem rd_tuple : RDs X.K (fun xs H Q => ∃ p ys, xs = [.ref p] ∧ ((SqL X.K H p ys ∧ ∀ (l : Addr) (o : Obj), H l = none → o.dict = none → Q (.ref l) (upd H l (.frz o (.tup ys)))) ∨ (SqT X.K H p ys ∧ Q (.ref p) H))) (app1 bTuple) := by
  refine rds1 fun G H x d z Q gh h1 hz q => ?_
  cases d <;> first | (cases hz; done) | skip
  · cases hz
    cases h1 with
    | lst a1 a2 => exact ⟨_, _, rfl, .inl ⟨gh.seq a1, fun p o hp ho => q _ _ _ (Ext.new gh hp) (.tup (SqN.of ho upd_same) (dpAll_same (Ext.new gh hp).g _ _ a2))⟩⟩
  · cases hz
    cases h1 with
    | tup a1 a2 => exact ⟨_, _, rfl, .inr ⟨seqT_same gh a1, q _ _ _ (Ext.refl gh) (.tup a1 a2)⟩⟩
theorem rd_list : RDs X.K (fun xs H Q => ∃ p ys, xs = [.ref p] ∧ (SqL X.K H p ys ∨ SqT X.K H p ys) ∧ ∀ l, H l = none → Q (.ref l) (upd H l (.lst ys))) (app1 bList) := by
  refine rds1 fun G H x d z Q gh h1 hz q => ?_
  cases d <;> first | (cases hz; done) | skip
  · cases hz
    cases h1 with
    | lst a1 a2 => exact ⟨_, _, rfl, .inl (gh.seq a1), fun p hp => q _ _ _ (Ext.new gh hp) (.lst (SqL.of upd_same) (dpAll_same (Ext.new gh hp).g _ _ a2))⟩
  · cases hz
    cases h1 with
    | tup a1 a2 => exact ⟨_, _, rfl, .inr (seqT_same gh a1), fun p hp => q _ _ _ (Ext.new gh hp) (.lst (SqL.of upd_same) (dpAll_same (Ext.new gh hp).g _ _ a2))⟩
/-! ### sorted: texts, fewer than 64 -/
def leS (x y : Str) : Prop := x.cps.toList ≤ y.cps.toList
instance (x y : Str) : Decidable (leS x y) := inferInstanceAs (Decidable (x.cps.toList ≤ y.cps.toList))
theorem leS_refl (x : Str) : leS x x := List.le_refl _
theorem leS_trans {x y z : Str} (h : leS x y) (q : leS y z) : leS x z := List.le_trans h q
theorem leS_total (x y : Str) : leS x y ∨ leS y x := List.le_total _ _
theorem leS_anti {x y : Str} (h : leS x y) (q : leS y x) : x = y := by
  have e : x.cps.toList = y.cps.toList := List.le_antisymm h q
  cases x; cases y
  congr 1
  exact Array.toList_inj.mp e
def insS (x : Str) : List Str → List Str
  | [] => [x]
  | y :: r => if leS x y then x :: y :: r else y :: insS x r
def sortS : List Str → List Str
  | [] => []
  | x :: r => insS x (sortS r)
theorem insS_perm (x : Str) : ∀ l : List Str, (insS x l).Perm (x :: l)
  | [] => List.Perm.refl _
  | y :: r => by
    unfold insS
    split
    · exact List.Perm.refl _
    · exact ((insS_perm x r).cons y).trans (List.Perm.swap x y r)
theorem sortS_perm : ∀ l : List Str, (sortS l).Perm l
  | [] => List.Perm.refl _
  | x :: r => (insS_perm x _).trans ((sortS_perm r).cons x)
theorem insS_sorted (x : Str) : ∀ l : List Str, l.Pairwise leS → (insS x l).Pairwise leS
  | [], _ => by simp [insS]
  | y :: r, h => by
    have hy : ∀ {z : Str}, z ∈ r → leS y z := fun hz => List.rel_of_pairwise_cons h hz
    unfold insS
    split
    · rename_i hx
      refine List.Pairwise.cons (fun z hz => ?_) h
      rcases List.mem_cons.mp hz with rfl | hz
      · exact hx
      · exact leS_trans hx (hy hz)
    · rename_i hx
      have hx' : leS y x := (leS_total y x).resolve_right hx
      refine List.Pairwise.cons (fun z hz => ?_) (insS_sorted x r h.of_cons)
      rcases List.mem_cons.mp ((insS_perm x r).mem_iff.mp hz) with rfl | hz
      · exact hx'
      · exact hy hz
theorem sortS_sorted : ∀ l : List Str, (sortS l).Pairwise leS
  | [] => .nil
  | x :: r => insS_sorted x _ (sortS_sorted r)
theorem sorted_unique : ∀ {xs ys : List Str}, xs.Perm ys → xs.Pairwise leS → ys.Pairwise leS → xs = ys
  | [], ys, p, _, _ => (List.Perm.nil_eq p)
  | x :: xs, [], p, _, _ => by have := p.length_eq; simp at this
  | x :: xs, y :: ys, p, h, q => by
    have e : x = y := by
      have h1 : x ∈ y :: ys := p.mem_iff.mp List.mem_cons_self
      have h2 : y ∈ x :: xs := p.mem_iff.mpr List.mem_cons_self
      rcases List.mem_cons.mp h1 with z | z
      · exact z
      · rcases List.mem_cons.mp h2 with w | w
        · exact w.symm
        · exact leS_anti (List.rel_of_pairwise_cons h w) (List.rel_of_pairwise_cons q z)
    subst e
    rw [sorted_unique (List.Perm.cons_inv p) h.of_cons q.of_cons]
theorem rising_pairwise : ∀ (l : List Str) (p : Str), PyProof.Rows.risingS p l = true → (p :: l).Pairwise leS
  | [], p, _ => by simp
  | x :: r, p, h => by
    have hh : (PySem.Spec.ltCps x.cps.toList p.cps.toList = false) ∧ PyProof.Rows.risingS x r = true := by
      simp only [PyProof.Rows.risingS, Bool.and_eq_true, Bool.not_eq_true'] at h
      exact h
    have le : leS p x := by
      have := hh.1
      rw [ltCps_eq] at this
      exact List.not_lt.mp (of_decide_eq_false this)
    have ih := rising_pairwise r x hh.2
    refine List.Pairwise.cons (fun z hz => ?_) ih
    rcases List.mem_cons.mp hz with rfl | hz
    · exact le
    · exact leS_trans le (List.rel_of_pairwise_cons ih hz)
theorem sortedS_eq {xs ys : List Str} (p : ys.Perm xs) (h : PyProof.Rows.sortedS ys = true) : ys = sortS xs := by
  refine sorted_unique (p.trans (sortS_perm xs).symm) ?_ (sortS_sorted xs)
  cases ys with
  | nil => exact .nil
  | cons y r => exact rising_pairwise r y h
def strsOf : List PyData → Option (List Str)
  | [] => some []
  | .str x :: r => (strsOf r).map (x :: ·)
  | _ => none
theorem strsOf_eq : ∀ {ds : List PyData} {xs : List Str}, strsOf ds = some xs → ds = xs.map PyData.str
  | [], xs, h => by cases h; rfl
  | d :: ds, xs, h => by
    cases d <;> first | (cases h; done) | skip
    rename_i x
    cases e : strsOf ds with
    | none => simp [strsOf, e] at h
    | some zs =>
      simp [strsOf, e] at h
      subst h
      rw [strsOf_eq e]
      rfl
theorem strs_dp {K : PySem.W.Frag} {G : Hp} : ∀ {xs : List Str} {vs : List V}, DqAll K G vs (xs.map PyData.str) → vs = xs.map V.str
  | [], _, h => by cases h; rfl
  | x :: xs, _, h => by
    cases h with
    | cons h1 h2 =>
      cases h1
      rw [strs_dp h2]
      rfl
theorem dp_strs {K : PySem.W.Frag} {G : Hp} : ∀ xs : List Str, DqAll K G (xs.map V.str) (xs.map PyData.str)
  | [] => .nil
  | x :: xs => .cons (.str x) (dp_strs xs)
def bSorted : PyData → Option PyData
  | .list ds => match strsOf ds with
    | some xs => if xs.length < 64 then some (.list ((sortS xs).map PyData.str)) else none
    | none => none
  | _ => none
theorem rd_sorted : RDs X.K (rSortedS X.K) (app1 bSorted) := by
  refine rds1 fun G H x d z Q gh h1 hz q => ?_
  cases d <;> first | (cases hz; done) | skip
  rename_i ds
  unfold bSorted at hz
  dsimp only at hz
  cases e : strsOf ds with
  | none => rw [e] at hz; cases hz
  | some xs =>
    rw [e] at hz
    obtain ⟨hl, rfl⟩ := of_if hz
    have e2 := strsOf_eq e
    subst e2
    cases h1 with
    | lst a1 a2 =>
      have ev := strs_dp a2
      subst ev
      refine ⟨_, xs, rfl, gh.seq a1, hl, fun ys p hp hs hn => ?_⟩
      rw [sortedS_eq hp hs]
      exact q _ _ _ (Ext.new gh hn) (.lst (SqL.of upd_same) (dpAll_same (Ext.new gh hn).g _ _ (dp_strs _)))
end
end DL

namespace DL
open PySem PySem.Spec PyProof.Rows L2 RT
/-! ### dicts of a frame's own (keys: ints and texts) -/
def keyOf : PyData → Option Key
  | .int i => some (.inl i)
  | .str x => some (.inr x)
  | _ => none
def valD (kvs : List (Key × PyData)) (k : Key) : Option PyData := (kvs.find? fun kv => decide (kv.1 = k)).map (·.2)
def putD (kvs : List (Key × PyData)) (k : Key) (v : PyData) : List (Key × PyData) :=
  if (kvs.any fun kv => decide (kv.1 = k)) = true then kvs.map (fun kv => if kv.1 = k then (kv.1, v) else kv) else kvs ++ [(k, v)]
theorem key_dp {K : PySem.W.Frag} {G : Hp} {v : V} {d : PyData} {k : Key} (h : Dq K G v d) (e : keyOf d = some k) : v = kV k := by
  cases d <;> first | (cases e; done) | skip
  · cases e; cases h; rfl
  · cases e; cases h; rfl
section
variable {K : PySem.W.Frag} {G : Hp}
theorem kd_val {vs : List (Key × V)} {kvs : List (Key × PyData)} (r : DK K G vs kvs) (k : Key) : match valD kvs k with
    | some d => ∃ v, valV vs k = some v ∧ Dq K G v d
    | none => valV vs k = none := by
  induction r with
  | nil => exact rfl
  | @cons p q ps qs h t ih =>
    obtain ⟨h1, h2⟩ := h
    by_cases e : p.1 = k
    · have e' : q.1 = k := h1.symm.trans e
      have b : valD (q :: qs) k = some q.2 := by simp [valD, List.find?_cons, e']
      rw [b]
      exact ⟨p.2, valV_pos e, h2⟩
    · have e' : ¬ q.1 = k := fun z => e (h1.trans z)
      have b : valD (q :: qs) k = valD qs k := by simp [valD, List.find?_cons, e']
      rw [b, valV_neg e]
      exact ih
theorem kd_any {vs : List (Key × V)} {kvs : List (Key × PyData)} (r : DK K G vs kvs) (k : Key) : (vs.any fun kv => decide (kv.1 = k)) = kvs.any fun kv => decide (kv.1 = k) := by
  induction r with
  | nil => rfl
  | cons h t ih => rw [List.any_cons, List.any_cons, ih, h.1]
theorem kd_len {vs : List (Key × V)} {kvs : List (Key × PyData)} (r : DK K G vs kvs) : vs.length = kvs.length := Paired.length r
theorem kd_keys {vs : List (Key × V)} {kvs : List (Key × PyData)} (r : DK K G vs kvs) : vs.map (·.1) = kvs.map (·.1) := by
  induction r with
  | nil => rfl
  | cons h t ih => rw [List.map_cons, List.map_cons, ih, h.1]
theorem kd_repl {vs : List (Key × V)} {kvs : List (Key × PyData)} (r : DK K G vs kvs) (k : Key) {y : V} {u : PyData} (ry : Dq K G y u) :
    DK K G (vs.map fun kv => if kv.1 = k then (kv.1, y) else kv) (kvs.map fun kv => if kv.1 = k then (kv.1, u) else kv) := by
  induction r with
  | nil => exact .nil
  | @cons p q ps qs h t ih =>
    rw [List.map_cons, List.map_cons]
    refine .cons ?_ ih
    obtain ⟨h1, h2⟩ := h
    by_cases e : p.1 = k
    · rw [if_pos e, if_pos (h1.symm.trans e)]; exact ⟨h1, ry⟩
    · rw [if_neg e, if_neg (fun z => e (h1.trans z))]; exact ⟨h1, h2⟩
theorem kd_put {vs : List (Key × V)} {kvs : List (Key × PyData)} (r : DK K G vs kvs) (k : Key) {y : V} {u : PyData} (ry : Dq K G y u) : DK K G (putK vs k y) (putD kvs k u) := by
  unfold putK putD
  rw [kd_any r k]
  by_cases e : (kvs.any fun kv => decide (kv.1 = k)) = true
  · rw [if_pos e, if_pos e]; exact kd_repl r k ry
  · rw [if_neg e, if_neg e]; exact Paired.snoc r ⟨rfl, ry⟩
end
def dEnt : Option Ent → Option (List (Key × PyData))
  | some (.dct kvs) => some kvs
  | some (.rdd kvs) => some kvs
  | _ => none
def isDct : Option Ent → Bool
  | some (.dct _) => true
  | _ => false
section
variable {m : KM} {B : Bx} {G H : Hp} {σ : L2.St} {ρ : Rho}
theorem DEnv.dict (E : DEnv m B G H σ ρ) {i : Nat} {kvs : List (Key × PyData)} (h : dEnt ρ[i]? = some kvs) : ∃ a vs, σ[i]? = some (some (.ref a)) ∧ H a = some (.dK vs) ∧ DK m.K G vs kvs := by
  cases e : ρ[i]? with
  | none => rw [e] at h; cases h
  | some z =>
    rw [e] at h
    have q := E.ent i z e
    generalize hs : σ[i]? = o at q
    cases q with
    | dct h1 h2 h3 h4 => cases h; exact ⟨_, _, rfl, h1, h4⟩
    | rdd h1 h4 => cases h; exact ⟨_, _, rfl, h1, h4⟩
    | _ => cases h
end
section
variable {X : L2.Cx} {B : Bx} {W : WX} {pos : Pos} {a b e f : Expr} {F F1 F2 Fk Fv Fz : Rho → Res PyData}
theorem hu1 {k : Nat} {A : Around} (hr : Room k A) : A.units + 1 < cLine := by have := hr.un; omega
/-- x = {} -/
def newDS (i : Nat) : Rho → Out := fun ρ => if i < ρ.length then .nx (ρ.set i (.dct [])) else .bad
theorem pd_newD (i : Nat) {x : Str} {pos' p2 : Pos} (hN : X.N.Nodup) (hi : X.N[i]? = some x := by rfl) (hx : Loc X.env.scope x := by first | exact Or.inl rfl | exact Or.inr rfl) (hs : swapsWith (.Dict [] [] p2) (some (.Name x pos')) pos.line X.env = pure false := by rfl) (hf : X.fn x = true ∨ X.env.scope.names.lookup x = some .local := by first | exact .inl rfl | exact .inr rfl | assumption) :
    PS X (.Assign [.Name x pos'] (.Dict [] [] p2) pos) (tDS (km X) B W (newDS i)) := by
  refine (ps_set hN hi hx pe_dnewK hs hf).of ?_
  rintro D σ H ⟨G, ρ, E, S⟩
  intro p hp
  unfold newDS at S
  by_cases hl : i < ρ.length
  · rw [if_pos hl] at S
    exact S _ _ _ (E.putDct hl hp .nil) (Same.refl _)
  · rw [if_neg hl] at S
    exact S.elim
/-- x[k] = v -/
def putS (i : Nat) (Fk Fv : Rho → Res PyData) : Rho → Out := fun ρ => (Fv ρ).out fun v ρ => if isDct ρ[i]? = true then (Fk ρ).out fun k ρ => match ρ[i]?, keyOf k with
  | some (.dct kvs), some k => if kvs.length < sizeLine then .nx (ρ.set i (.dct (putD kvs k v))) else .bad
  | _, _ => .bad
  else .bad
theorem isDct_of {o : Option Ent} (h : isDct o = true) : ∃ kvs, o = some (.dct kvs) := by
  cases o with
  | none => cases h
  | some z => cases z <;> first | (cases h; done) | exact ⟨_, rfl⟩
theorem pd_put (i : Nat) {x : Str} {px pos' : Pos} (hr : X.A.units + 1 < cLine) (hk : PE X e (tD (km X) B W Fk)) (hv : PE X f (tD (km X) B W Fv)) (hN : X.N[i]? = some x := by rfl) (hvs : Vis X.env.scope x := by first | exact Or.inl rfl | exact Or.inr (Or.inl rfl) | exact Or.inr (Or.inr rfl)) (hd : (x == ("__debug__" : Str)) = false := by decide)
    (hcd : (x == ("__classdict__" : Str)) = false := by decide) (hs : swapsWith f (some (.Subscript (.Name x px) e pos')) pos.line X.env = pure false := by rfl) : PS X (.Assign [.Subscript (.Name x px) e pos'] f pos) (tDS (km X) B W (putS i Fk Fv)) := by
  refine (ps_dput hr (pe_var hN hvs hd hcd) hk hv hs).of ?_
  rintro D σ H ⟨G, ρ, E, S⟩
  refine ⟨G, ρ, E, (SatS.out S).imp fun v ρ1 s1 u G1 H1 E1 g1 dp1 => ?_⟩
  by_cases hD : isDct ρ1[i]? = true
  · rw [if_pos hD] at s1
    obtain ⟨kv0, e0⟩ := isDct_of hD
    obtain ⟨a, vs, h1, h2, h3⟩ := E1.dict (i := i) (kvs := kv0) (by rw [e0]; rfl)
    refine ⟨_, h1, G1, ρ1, E1, ((SatS.out s1).up g1).imp fun k ρ2 s2 y G2 H2 E2 g2 dp2 => ?_⟩
    split at s2
    · rename_i kvs key e1 e2
      have q := E2.ent i _ e1
      rw [h1] at q
      cases q with
      | dct k1 k2 k3 k4 =>
        by_cases hl : kvs.length < sizeLine
        · rw [if_pos hl] at s2
          obtain rfl := key_dp dp2 e2
          exact ⟨a, _, rfl, DPut.k k1 (by rw [kd_len k4]; exact hl), s2 _ _ _ (E2.changeD e1 h1 (kd_put k4 key (dp_same g2 _ _ dp1))) (g1.trans g2)⟩
        · rw [if_neg hl] at s2
          exact s2.elim
    · exact s2.elim
  · rw [if_neg hD] at s1
    exact s1.elim
/-- x[k] -/
def dixF (i : Nat) (Fk : Rho → Res PyData) : Rho → Res PyData := fun ρ => if (dEnt ρ[i]?).isSome = true then (Fk ρ).bind fun k ρ => match dEnt ρ[i]?, keyOf k with
  | some kvs, some k => optR (valD kvs k) ρ
  | _, _ => .bad
  else .bad
theorem pd_dix (i : Nat) {x : Str} {px : Pos} (hr : X.A.units + 1 < cLine) (hk : PE X e (tD (km X) B W Fk)) (hN : X.N[i]? = some x := by rfl) (hvs : Vis X.env.scope x := by first | exact Or.inl rfl | exact Or.inr (Or.inl rfl) | exact Or.inr (Or.inr rfl)) (hd : (x == ("__debug__" : Str)) = false := by decide)
    (hcd : (x == ("__classdict__" : Str)) = false := by decide) (hs : NoSl e := by exact fun _ _ => rfl) : PE X (.Subscript (.Name x px) e pos) (tD (km X) B W (dixF i Fk)) := by
  refine (pe_dget hr (pe_var hN hvs hd hcd) hk hs).of ?_
  rintro σ H Q ⟨G, ρ, E, S⟩
  unfold dixF at S
  cases hD : dEnt ρ[i]? with
  | none => rw [hD, if_neg (by decide)] at S; exact S.elim
  | some kv0 =>
    rw [hD, Option.isSome_some, if_pos rfl] at S
    obtain ⟨a, vs, h1, h2, h3⟩ := E.dict hD
    refine ⟨_, h1, G, ρ, E, (Sat.bind S).imp fun k ρ1 s1 y G1 H1 E1 g1 dp1 => ?_⟩
    split at s1
    · rename_i kvs key e1 e2
      obtain ⟨a', us, k1, k2, k3⟩ := E1.dict e1
      rw [h1] at k1
      cases k1
      obtain ⟨d, hd', q⟩ := sat_opt s1
      have hv := kd_val k3 key
      rw [hd'] at hv
      obtain ⟨v, hv, dv⟩ := hv
      obtain rfl := key_dp dp1 e2
      exact ⟨a, v, rfl, hv ▸ DGet.k k2, q v G1 H1 E1 g1 dv⟩
    · exact s1.elim
/-- x.get(k, z) -/
def dgetF (i : Nat) (Fk Fz : Rho → Res PyData) : Rho → Res PyData := fun ρ => if (dEnt ρ[i]?).isSome = true then (Fk ρ).bind fun k ρ => (Fz ρ).bind fun z ρ => match dEnt ρ[i]?, keyOf k with
  | some kvs, some k => .ok ((valD kvs k).getD z) ρ
  | _, _ => .bad
  else .bad
theorem pd_dget (i : Nat) {x : Str} {px apos : Pos} (hr : X.A.units + 1 < cLine) (hk : PE X e (tD (km X) B W Fk)) (hz : PE X f (tD (km X) B W Fz)) (mm : M2 X (.Name x px) "get" apos e f pos) (hN : X.N[i]? = some x := by rfl) (hvs : Vis X.env.scope x := by first | exact Or.inl rfl | exact Or.inr (Or.inl rfl) | exact Or.inr (Or.inr rfl)) (hd : (x == ("__debug__" : Str)) = false := by decide)
    (hcd : (x == ("__classdict__" : Str)) = false := by decide) : PE X (.Call (.Attribute (.Name x px) "get" apos) [e, f] [] pos) (tD (km X) B W (dgetF i Fk Fz)) := by
  refine (pe_dget2 hr (pe_var hN hvs hd hcd) hk hz mm).of ?_
  rintro σ H Q ⟨G, ρ, E, S⟩
  unfold dgetF at S
  cases hD : dEnt ρ[i]? with
  | none => rw [hD, if_neg (by decide)] at S; exact S.elim
  | some kv0 =>
    rw [hD, Option.isSome_some, if_pos rfl] at S
    obtain ⟨a, vs, h1, h2, h3⟩ := E.dict hD
    refine ⟨_, h1, a, rfl, .inl ⟨_, .of h2⟩, G, ρ, E, (Sat.bind S).imp fun k ρ1 s1 y G1 H1 E1 g1 dp1 => ⟨G1, ρ1, E1, ((Sat.bind s1).up g1).imp fun z ρ2 s2 u G2 H2 E2 g2 dp2 => ?_⟩⟩
    split at s2
    · rename_i kvs key e1 e2
      obtain ⟨a', us, k1, k2, k3⟩ := E2.dict e1
      rw [h1] at k1
      cases k1
      obtain rfl := key_dp dp1 e2
      have hv := kd_val k3 key
      cases hd' : valD kvs key with
      | none =>
        rw [hd'] at hv s2
        exact ⟨none, hv ▸ DGet.k k2, s2 u G2 H2 E2 (g1.trans g2) dp2⟩
      | some d =>
        rw [hd'] at hv s2
        obtain ⟨v, hv, dv⟩ := hv
        exact ⟨some v, hv ▸ DGet.k k2, s2 v G2 H2 E2 (g1.trans g2) dv⟩
    · exact s2.elim
/-- k in x -/
def dinF (neg : Bool) (i : Nat) (Fk : Rho → Res PyData) : Rho → Res PyData := fun ρ => (Fk ρ).bind fun k ρ => match dEnt ρ[i]?, keyOf k with
  | some kvs, some k => .ok (.bool (neg != (valD kvs k).isSome)) ρ
  | _, _ => .bad
theorem t_din {neg : Bool} {i : Nat} {σ : L2.St} {H : Hp} {Q : VK} (h : tD (km X) B W (dinF neg i Fk) σ H Q) : tD (km X) B W Fk σ H fun y H1 => tVar i σ H1 fun x H2 => ∃ a o, x = .ref a ∧ DGet H2 a y o ∧ Q (.bl (neg != o.isSome)) H2 := by
  obtain ⟨G, ρ, E, S⟩ := h
  refine ⟨G, ρ, E, (Sat.bind S).imp fun k ρ1 s1 y G1 H1 E1 g1 dp1 => ?_⟩
  split at s1
  · rename_i kvs key e1 e2
    obtain ⟨a, us, k1, k2, k3⟩ := E1.dict e1
    obtain rfl := key_dp dp1 e2
    have hv := kd_val k3 key
    refine ⟨_, k1, a, _, rfl, DGet.k k2, ?_⟩
    cases hd' : valD kvs key with
    | none =>
      rw [hd'] at hv s1
      rw [hv]
      exact s1 _ G1 H1 E1 g1 (.bl _)
    | some d =>
      rw [hd'] at hv s1
      obtain ⟨v, hv, dv⟩ := hv
      rw [hv]
      exact s1 _ G1 H1 E1 g1 (.bl _)
  · exact s1.elim
theorem pd_din (i : Nat) {x : Str} {px : Pos} (hr : X.A.units + 1 < cLine) (hk : PE X e (tD (km X) B W Fk)) (hN : X.N[i]? = some x := by rfl) (hvs : Vis X.env.scope x := by first | exact Or.inl rfl | exact Or.inr (Or.inl rfl) | exact Or.inr (Or.inr rfl)) (hd : (x == ("__debug__" : Str)) = false := by decide)
    (hcd : (x == ("__classdict__" : Str)) = false := by decide) : PE X (.Compare e [.In] [.Name x px] pos) (tD (km X) B W (dinF false i Fk)) := by
  refine (pe_cmp (pc_din hr hk (pe_var hN hvs hd hcd))).of ?_
  intro σ H Q h
  simpa [tDIn] using t_din h
theorem pd_dnotin (i : Nat) {x : Str} {px : Pos} (hr : X.A.units + 1 < cLine) (hk : PE X e (tD (km X) B W Fk)) (hN : X.N[i]? = some x := by rfl) (hvs : Vis X.env.scope x := by first | exact Or.inl rfl | exact Or.inr (Or.inl rfl) | exact Or.inr (Or.inr rfl)) (hd : (x == ("__debug__" : Str)) = false := by decide)
    (hcd : (x == ("__classdict__" : Str)) = false := by decide) : PE X (.Compare e [.NotIn] [.Name x px] pos) (tD (km X) B W (dinF true i Fk)) := by
  refine (pe_cmp (pc_dnotin hr hk (pe_var hN hvs hd hcd))).of ?_
  intro σ H Q h
  simpa [tDNotIn] using t_din h
/-- .. as a test -/
theorem pt_din (i : Nat) {x : Str} {px : Pos} (hr : X.A.units + 1 < cLine) (hk : PE X e (tD (km X) B W Fk)) (hN : X.N[i]? = some x := by rfl) (hvs : Vis X.env.scope x := by first | exact Or.inl rfl | exact Or.inr (Or.inl rfl) | exact Or.inr (Or.inr rfl)) (hd : (x == ("__debug__" : Str)) = false := by decide)
    (hcd : (x == ("__classdict__" : Str)) = false := by decide) : PT X (.Compare e [.In] [.Name x px] pos) (tDT (km X) B W (testF (dinF false i Fk))) := by
  refine (pt_cmp (pc_din hr hk (pe_var hN hvs hd hcd))).of ?_
  intro σ H Q h
  simpa [tDIn, tB] using t_din (t_test σ H Q h)
theorem pt_dnotin (i : Nat) {x : Str} {px : Pos} (hr : X.A.units + 1 < cLine) (hk : PE X e (tD (km X) B W Fk)) (hN : X.N[i]? = some x := by rfl) (hvs : Vis X.env.scope x := by first | exact Or.inl rfl | exact Or.inr (Or.inl rfl) | exact Or.inr (Or.inr rfl)) (hd : (x == ("__debug__" : Str)) = false := by decide)
    (hcd : (x == ("__classdict__" : Str)) = false := by decide) : PT X (.Compare e [.NotIn] [.Name x px] pos) (tDT (km X) B W (testF (dinF true i Fk))) := by
  refine (pt_cmp (pc_dnotin hr hk (pe_var hN hvs hd hcd))).of ?_
  intro σ H Q h
  simpa [tDNotIn, tB] using t_din (t_test σ H Q h)
/-- sorted(x): texts as keys, fewer than 64 -/
def keysS : List (Key × PyData) → Option (List Str)
  | [] => some []
  | (.inr x, _) :: r => (keysS r).map (x :: ·)
  | _ => none
theorem keysS_eq : ∀ {kvs : List (Key × PyData)} {ks : List Str}, keysS kvs = some ks → kvs.map (·.1) = ks.map Sum.inr
  | [], ks, h => by cases h; rfl
  | (.inl i, _) :: r, ks, h => by cases h
  | (.inr x, _) :: r, ks, h => by
    cases e : keysS r with
    | none => simp [keysS, e] at h
    | some zs =>
      simp [keysS, e] at h
      subst h
      rw [List.map_cons, List.map_cons, keysS_eq e]
def dsortF (i : Nat) : Rho → Res PyData := fun ρ => match (dEnt ρ[i]?).bind keysS with
  | some ks => if ks.length < 64 then .ok (.list ((sortS ks).map PyData.str)) ρ else .bad
  | none => .bad
theorem pd_dsort (i : Nat) {x : Str} {px p : Pos} (hc : X.calm = true) (hm : X.mg "sorted" = none) (hN : X.N[i]? = some x := by rfl) (hvs : Vis X.env.scope x := by first | exact Or.inl rfl | exact Or.inr (Or.inl rfl) | exact Or.inr (Or.inr rfl)) (hd : (x == ("__debug__" : Str)) = false := by decide)
    (hcd : (x == ("__classdict__" : Str)) = false := by decide) (hg : Gl X "sorted" := by rfl) (he : starEach [.Name x px] X.env = (false, eval (.Name x px) X.env) :: starEach [] X.env := by rfl) (hpl : (backTo pos (starEach [] X.env)).any (·.1) = false := by rfl) :
    PE X (.Call (.Name "sorted" p) [.Name x px] [] pos) (tD (km X) B W (dsortF i)) := by
  refine (pe_callB (call_sortedD hc) hg hm (by decide +kernel) (pa_cons (pe_var hN hvs hd hcd) pa_nil he) (by decide) (by decide) he hpl).of ?_
  rintro σ H Q ⟨G, ρ, E, S⟩
  unfold dsortF at S
  cases hD : dEnt ρ[i]? with
  | none => rw [hD] at S; exact S.elim
  | some kvs =>
    rw [hD, Option.bind_some] at S
    cases hk : keysS kvs with
    | none => rw [hk] at S; exact S.elim
    | some ks =>
      rw [hk] at S
      obtain ⟨a, us, k1, k2, k3⟩ := E.dict hD
      by_cases hl : ks.length < 64
      · have S2 : Sat (km X) B W G σ (if ks.length < 64 then Res.ok (PyData.list ((sortS ks).map PyData.str)) ρ else .bad) _ := S
        rw [if_pos hl] at S2
        refine ⟨_, k1, a, us, ks, rfl, .of k2, by rw [kd_keys k3]; exact keysS_eq hk, hl, fun ys p hp hs hn => ?_⟩
        rw [sortedS_eq hp hs]
        have x := Ext.new (o := .lst ((sortS ks).map V.str)) E.base.gh hn
        exact S2 _ _ _ (E.ext x) x.g (.lst (SqL.of upd_same) (dp_strs _))
      · have S2 : Sat (km X) B W G σ (if ks.length < 64 then Res.ok (PyData.list ((sortS ks).map PyData.str)) ρ else .bad) _ := S
        rw [if_neg hl] at S2
        exact S2.elim
/-- {"a": "b", ..}[x] -/
@[reducible] def trsOf : List (Str × Str) → List (TE × TE)
  | [] => []
  | (x, y) :: r => (tC (.str x), tC (.str y)) :: trsOf r
def kvV (kvs : List (Str × Str)) : List (Key × V) := kvs.map fun p => (.inr p.1, .str p.2)
def kvD (kvs : List (Str × Str)) : List (Key × PyData) := kvs.map fun p => (.inr p.1, .str p.2)
theorem trs_run {σ : L2.St} {H : Hp} : ∀ {kvs : List (Str × Str)} {Q : List (V × V) → Hp → Prop}, Q ((kvV kvs).map fun kv => (kV kv.1, kv.2)) H → tPairs (trsOf kvs) σ H Q
  | [], _, h => h
  | (x, y) :: r, _, h => trs_run (kvs := r) (Q := fun ps H3 => _) h
def mergeD (kvs more : List (Key × PyData)) : List (Key × PyData) := more.foldl (fun acc kv => putD acc kv.1 kv.2) kvs
theorem kd_merge {K : PySem.W.Frag} {G : Hp} {more : List (Key × V)} {more' : List (Key × PyData)} (m : DK K G more more') : ∀ {kvs : List (Key × V)} {kvs' : List (Key × PyData)}, DK K G kvs kvs' → DK K G (mergeK kvs more) (mergeD kvs' more') := by
  induction m with
  | nil => exact fun h => h
  | @cons p q ps qs h t ih =>
    intro kvs kvs' r
    have z : DK K G (putK kvs p.1 p.2) (putD kvs' q.1 q.2) := by
      have z := kd_put r p.1 h.2
      rw [← h.1]
      exact z
    exact ih z
theorem kv_dk {K : PySem.W.Frag} {G : Hp} : ∀ kvs : List (Str × Str), DK K G (kvV kvs) (kvD kvs)
  | [] => .nil
  | _ :: r => .cons ⟨rfl, .str _⟩ (kv_dk r)
def dispF (kvs : List (Str × Str)) (i : Nat) : Rho → Res PyData := fun ρ => match ρ[i]? with
  | some (.d d) => match keyOf d with
    | some k => optR (valD (mergeD [] (kvD kvs)) k) ρ
    | none => .bad
  | _ => .bad
theorem pd_disp (kvs : List (Str × Str)) (i : Nat) {x : Str} {px p2 : Pos} {keys : List (Option Expr)} {values : List Expr} (hr : X.A.units + 1 < cLine) (h : PPs X p2 keys values (trsOf kvs)) (hN : X.N[i]? = some x := by rfl) (hvs : Vis X.env.scope x := by first | exact Or.inl rfl | exact Or.inr (Or.inl rfl) | exact Or.inr (Or.inr rfl)) (hd : (x == ("__debug__" : Str)) = false := by decide)
    (hcd : (x == ("__classdict__" : Str)) = false := by decide) (hall : keys.all (·.isSome) = true := by rfl) (hl : keys.length = values.length := by rfl) (h0 : keys ≠ [] := by exact fun z => nomatch z)
    (h15 : keys.length ≤ 15 := by decide) (k15 : kvs.length ≤ 15 := by decide) (hs : NoSl (.Name x px) := by exact fun _ _ => rfl) : PE X (.Subscript (.Dict keys values p2) (.Name x px) pos) (tD (km X) B W (dispF kvs i)) := by
  refine (pe_dget hr (pe_disp h hall hl h0 h15) (pe_var hN hvs hd hcd) hs).of ?_
  rintro σ H Q ⟨G, ρ, E, S⟩ p hp
  refine trs_run ⟨upd_same, kvV kvs, rfl, by unfold kvV; rw [List.length_map]; exact k15, ?_⟩
  unfold dispF at S
  split at S
  · rename_i d e1
    split at S
    · rename_i key e2
      obtain ⟨z, hz, q⟩ := sat_opt S
      have x1 : Ext G H G (upd H p (.dK [])) := Ext.newOwn E.base.gh hp
      have ee : upd (upd H p (.dK [])) p (.dK (mergeK [] (kvV kvs))) = upd H p (.dK (mergeK [] (kvV kvs))) := by
        funext b
        by_cases hb : b = p
        · subst hb; rw [upd_same, upd_same]
        · rw [upd_ne hb, upd_ne hb, upd_ne hb]
      rw [ee]
      have x2 : Ext G H G (upd H p (.dK (mergeK [] (kvV kvs)))) := Ext.newOwn E.base.gh hp
      have qe := E.ent i _ e1
      generalize hs2 : σ[i]? = o at qe
      cases qe with
      | d dp =>
        obtain rfl := key_dp dp e2
        have hv := kd_val (kd_merge (kvs := []) (kvs' := []) (kv_dk (K := X.K) (G := G) kvs) .nil) key
        rw [hz] at hv
        obtain ⟨v, hv, dv⟩ := hv
        exact ⟨_, hs2, p, v, rfl, hv ▸ DGet.k upd_same, q v _ _ (E.ext x2) (Same.refl _) dv⟩
    · exact S.elim
  · exact S.elim
end
end DL

namespace DL
open PySem PySem.Spec PyProof.Rows L2 RT
section
variable {X : L2.Cx} {B : Bx} {W : WX} {pos : Pos} {a b e f : Expr} {F F1 F2 Fk Fv Fz : Rho → Res PyData}
/-! ### new lists: x = e makes a list of the frame's own -/
def tNL (m : KM) (B : Bx) (W : WX) (F : Rho → Res (List PyData)) : TE := fun σ H Q => ∃ G ρ, DEnv m B G H σ ρ ∧ Sat m B W G σ (F ρ) fun ds ρ' => ∀ p vs G' H', DEnv m B G' H' σ ρ' → Same G G' → H' p = none → DqAll m.K G' vs ds → Q (.ref p) (upd H' p (.lst vs))
def newS (F : Rho → Res (List PyData)) (i : Nat) : Rho → Out := fun ρ => (F ρ).out fun ds ρ => if i < ρ.length then .nx (ρ.set i (.own ds)) else .bad
theorem pd_setNL (i : Nat) {L : Rho → Res (List PyData)} {x : Str} {pos' : Pos} (hN : X.N.Nodup) (he : PE X e (tNL (km X) B W L)) (hi : X.N[i]? = some x := by rfl) (hx : Loc X.env.scope x := by first | exact Or.inl rfl | exact Or.inr rfl) (hs : swapsWith e (some (.Name x pos')) pos.line X.env = pure false := by rfl) (hf : X.fn x = true ∨ X.env.scope.names.lookup x = some .local := by first | exact .inl rfl | exact .inr rfl | assumption) :
    PS X (.Assign [.Name x pos'] e pos) (tDS (km X) B W (newS L i)) := by
  refine (ps_set hN hi hx he hs hf).of ?_
  rintro D σ H ⟨G, ρ, E, S⟩
  refine ⟨G, ρ, E, (SatS.out S).imp fun ds ρ1 s1 p vs G1 H1 E1 g1 hp dp1 => ?_⟩
  by_cases hl : i < ρ1.length
  · rw [if_pos hl] at s1
    exact s1 _ _ _ (E1.putOwn hl hp dp1) g1
  · rw [if_neg hl] at s1
    exact s1.elim
def listL (F : Rho → Res PyData) : Rho → Res (List PyData) := fun ρ => (F ρ).bind fun d ρ => match d with
  | .list xs => .ok xs ρ
  | .tuple xs => .ok xs ρ
  | _ => .bad
def cutL (F : Rho → Res PyData) (L U : Po) : Rho → Res (List PyData) := fun ρ => (F ρ).bind fun d ρ => (L ρ).bind fun l ρ => (U ρ).bind fun u ρ => match d with
  | .list xs => .ok (cutD xs l u) ρ
  | _ => .bad
def catL (F1 F2 : Rho → Res PyData) : Rho → Res (List PyData) := fun ρ => (F1 ρ).bind fun d ρ => (F2 ρ).bind fun e ρ => match d, e with
  | .list xs, .list ys => if xs.length + ys.length ≤ sizeLine then .ok (xs ++ ys) ρ else .bad
  | _, _ => .bad
theorem nl_cut {lo hi : Option Expr} {p2 : Pos} {L U : Po} (ha : PE X a (tD (km X) B W F)) (hl : PO X lo (tDP (km X) B W L)) (hu : PO X hi (tDP (km X) B W U)) : PE X (.Subscript a (.Slice lo hi none p2) pos) (tNL (km X) B W (cutL F L U)) := by
  refine (pe_slice sl_list ha hl hu).of ?_
  rintro σ H Q ⟨G, ρ, E, S⟩
  refine ⟨G, ρ, E, (Sat.bind S).imp fun d ρ1 s1 v G1 H1 E1 g1 dp1 => ⟨G1, ρ1, E1, ((Sat.bind s1).up g1).imp fun l ρ2 s2 G2 H2 E2 g2 => ⟨G2, ρ2, E2, ((Sat.bind s2).up (g1.trans g2)).imp fun u ρ3 s3 G3 H3 E3 g3 => ?_⟩⟩⟩
  have dp3 := dp_same (g2.trans g3) _ _ dp1
  have gg : Same G G3 := g1.trans (g2.trans g3)
  cases d <;> first | exact s3.elim | skip
  cases dp3 with
  | lst h1 h2 => exact ⟨_, _, rfl, E3.base.gh.seq h1, fun p hp => s3 _ _ _ _ E3 gg hp (cut_dp h2 l u)⟩
theorem nl_cat (ha : PE X a (tD (km X) B W F1)) (hb : PE X b (tD (km X) B W F2)) : PE X (.BinOp a .Add b pos) (tNL (km X) B W (catL F1 F2)) := by
  refine (pe_op op_catS ha hb).of ?_
  rintro σ H Q ⟨G, ρ, E, S⟩
  refine ⟨G, ρ, E, (Sat.bind S).imp fun d ρ1 s1 v G1 H1 E1 g1 dp1 => ⟨G1, ρ1, E1, ((Sat.bind s1).up g1).imp fun e ρ2 s2 u G2 H2 E2 g2 dp2 => ?_⟩⟩
  have dp1' := dp_same g2 _ _ dp1
  cases d <;> cases e <;> first | exact s2.elim | skip
  rename_i xs ys
  by_cases hl : xs.length + ys.length ≤ sizeLine
  · have s3 : Sat (km X) B W G σ (if xs.length + ys.length ≤ sizeLine then Res.ok (xs ++ ys) ρ2 else .bad) _ := s2
    rw [if_pos hl] at s3
    cases dp1' with
    | lst a1 a2 =>
      cases dp2 with
      | lst b1 b2 =>
        exact ⟨_, _, _, _, rfl, rfl, E2.base.gh.seq a1, E2.base.gh.seq b1, by rw [a2.len, b2.len]; exact hl, fun p hp => s3 p _ _ _ E2 (g1.trans g2) hp (a2.append b2)⟩
  · have s3 : Sat (km X) B W G σ (if xs.length + ys.length ≤ sizeLine then Res.ok (xs ++ ys) ρ2 else .bad) _ := s2
    rw [if_neg hl] at s3
    exact s3.elim
theorem nl_list {p : Pos} (hm : X.mg "list" = none) (ha : PE X e (tD (km X) B W F)) (hg : Gl X "list" := by rfl) (he : starEach [e] X.env = (false, eval e X.env) :: starEach [] X.env := by rfl) (hpl : (backTo pos (starEach [] X.env)).any (·.1) = false := by rfl) :
    PE X (.Call (.Name "list" p) [e] [] pos) (tNL (km X) B W (listL F)) := by
  refine (pe_callTy call_list_of hg hm (by decide +kernel) (pa_cons ha pa_nil he) (by decide) (by decide) he hpl).of ?_
  rintro σ H Q ⟨G, ρ, E, S⟩
  refine ⟨G, ρ, E, (Sat.bind S).imp fun d ρ1 s1 v G1 H1 E1 g1 dp1 => ?_⟩
  cases d <;> first | exact s1.elim | skip
  · cases dp1 with
    | lst a1 a2 => exact ⟨_, _, rfl, .inl (E1.base.gh.seq a1), fun p hp => s1 p _ _ _ E1 g1 hp a2⟩
  · cases dp1 with
    | tup a1 a2 => exact ⟨_, _, rfl, .inr (seqT_same E1.base.gh a1), fun p hp => s1 p _ _ _ E1 g1 hp a2⟩
/-! ### x[k] = v, x a list of the frame's own -/
def lsetS (i : Nat) (Fk Fv : Rho → Res PyData) : Rho → Out := fun ρ => (Fv ρ).out fun v ρ => if isOwn ρ[i]? = true then (Fk ρ).out fun k ρ => match ρ[i]?, k with
  | some (.own xs), .int k => (match ixN xs.length k with
    | some j => .nx (ρ.set i (.own (xs.set j v)))
    | none => .bad)
  | _, _ => .bad
  else .bad
theorem isOwn_of {o : Option Ent} (h : isOwn o = true) : ∃ xs, o = some (.own xs) := by
  cases o with
  | none => cases h
  | some z => cases z <;> first | (cases h; done) | exact ⟨_, rfl⟩
theorem pd_lset (i : Nat) {x : Str} {px pos' : Pos} (hk : PE X e (tD (km X) B W Fk)) (hv : PE X f (tD (km X) B W Fv)) (hN : X.N[i]? = some x := by rfl) (hvs : Vis X.env.scope x := by first | exact Or.inl rfl | exact Or.inr (Or.inl rfl) | exact Or.inr (Or.inr rfl)) (hd : (x == ("__debug__" : Str)) = false := by decide)
    (hcd : (x == ("__classdict__" : Str)) = false := by decide) (hs : swapsWithSole [.Subscript (.Name x px) e pos'] f pos.line X.env = pure false := by rfl) (hw : swappedStores [.Subscript (.Name x px) e pos'] f X.env = pure none := by rfl)
    (h1 : (assignEach [.Subscript (.Name x px) e pos'] X.env).map (·.2) = [assign (.Subscript (.Name x px) e pos') X.env] := by rfl)
    (ha : ∀ v, assign (.Subscript (.Name x px) e pos') X.env v = (do
      let ov ← holding [v] (eval (.Name x px) X.env)
      let iv ← holding [v, ov] (eval e X.env)
      standAt pos'
      holding [v, ov, iv] (setItem ov iv v)
      release [v, ov, iv] []) := by intro _; rfl) : PS X (.Assign [.Subscript (.Name x px) e pos'] f pos) (tDS (km X) B W (lsetS i Fk Fv)) := by
  refine (ps_asg hv (pg_sub (pe_var hN hvs hd hcd) hk set_list ha) hs hw h1).of ?_
  rintro D σ H ⟨G, ρ, E, S⟩
  refine ⟨G, ρ, E, (SatS.out S).imp fun v ρ1 s1 u G1 H1 E1 g1 dp1 => ?_⟩
  by_cases hD : isOwn ρ1[i]? = true
  · rw [if_pos hD] at s1
    obtain ⟨xs0, e0⟩ := isOwn_of hD
    have q := E1.ent i _ e0
    generalize hσ : σ[i]? = o at q
    cases q with
    | own z1 z2 z3 z4 =>
      refine ⟨_, hσ, G1, ρ1, E1, ((SatS.out s1).up g1).imp fun k ρ2 s2 y G2 H2 E2 g2 dp2 => ?_⟩
      split at s2
      · rename_i xs key e1
        have q := E2.ent i _ e1
        rw [hσ] at q
        cases q with
        | own k1 k2 k3 k4 =>
          split at s2
          · rename_i j hj
            cases dp2
            exact ⟨_, _, key, j, rfl, rfl, k1, by rw [k4.len]; exact hj, s2 _ _ _ (E2.change e1 hσ (k4.set (dp_same g2 _ _ dp1) j)) (g1.trans g2)⟩
          · exact s2.elim
      · exact s2.elim
  · rw [if_neg hD] at s1
    exact s1.elim
/-! ### str of an int -/
def bStr : PyData → Option PyData
  | .int i => if i.natAbs.log2 < 1920 then some (.str (toString i)) else none
  | _ => none
theorem rd_str : RDs X.K (fun xs H Q => ∃ i, xs = [.int i] ∧ i.natAbs.log2 < 1920 ∧ Q (.str (toString i)) H) (app1 bStr) := by
  refine rds1 fun G H x d z Q gh h1 hz q => ?_
  cases d <;> first | (cases hz; done) | skip
  obtain ⟨hl, rfl⟩ := of_if hz
  cases h1
  exact ⟨_, rfl, hl, q _ _ _ (Ext.refl gh) (.str _)⟩
/-! ### methods of texts -/
def isS : PyData → Bool
  | .str _ => true
  | _ => false
def m1F (g : PyData → PyData → Option PyData) (F1 F2 : Rho → Res PyData) : Rho → Res PyData := fun ρ => (F1 ρ).bind fun d ρ => if isS d = true then (F2 ρ).bind fun e ρ => optR (g d e) ρ else .bad
def m0F (g : PyData → Option PyData) (F : Rho → Res PyData) : Rho → Res PyData := fun ρ => (F ρ).bind fun d ρ => if isS d = true then optR (g d) ρ else .bad
abbrev RM := V → List V → Hp → VK → Prop
def RDm (K : PySem.W.Frag) (r : RM) (g : PyData → PyData → Option PyData) : Prop :=
  ∀ (G H : Hp) (x : Str) (y : V) (e z : PyData) (Q : VK), Same G H → Dq K G y e → g (.str x) e = some z → (∀ v G' H', Ext G H G' H' → Dq K G' v z → Q v H') → r (.str x) [y] H Q
def RDm0 (K : PySem.W.Frag) (r : RM) (g : PyData → Option PyData) : Prop :=
  ∀ (G H : Hp) (x : Str) (z : PyData) (Q : VK), Same G H → g (.str x) = some z → (∀ v G' H', Ext G H G' H' → Dq K G' v z → Q v H') → r (.str x) [] H Q
theorem pd_m1 {id : String} {name : Str} {apos : Pos} {r : RM} {g : PyData → PyData → Option PyData} (rule : MtR X id r) (hr : RDm X.K r g) (slot : Slot "str" name id) (ty : typeOf (.builtin id) = pure (.type "method_descriptor")) (ha : PE X a (tD (km X) B W F1)) (hb : PE X b (tD (km X) B W F2))
    (hs : starEach [b] X.env = [(false, eval b X.env)] := by rfl) (hbase : attributeBase a name X.env (eval a X.env) = eval a X.env := by rfl) (hline : (apos.endLine == pos.line) = true := by rfl) :
    PE X (.Call (.Attribute a name apos) [b] [] pos) (tD (km X) B W (m1F g F1 F2)) := by
  refine (pe_m1 slot ty rule ha hb hs hbase hline).of ?_
  rintro σ H Q ⟨G, ρ, E, S⟩
  refine ⟨G, ρ, E, (Sat.bind S).imp fun d ρ1 s1 v G1 H1 E1 g1 dp1 => ?_⟩
  cases d <;> first | exact s1.elim | skip
  cases dp1
  refine ⟨⟨_, rfl⟩, G1, ρ1, E1, ((Sat.bind s1).up g1).imp fun e ρ2 s2 u G2 H2 E2 g2 dp2 => ?_⟩
  obtain ⟨z, hz, q⟩ := sat_opt s2
  exact hr G2 H2 _ u e z Q E2.base.gh dp2 hz fun x G3 H3 ext dp3 => q x G3 H3 (E2.ext ext) (g1.trans (g2.trans ext.g)) dp3
theorem pd_m0 {id : String} {name : Str} {apos : Pos} {r : RM} {g : PyData → Option PyData} (rule : MtR X id r) (hr : RDm0 X.K r g) (slot : Slot "str" name id) (ty : typeOf (.builtin id) = pure (.type "method_descriptor")) (ha : PE X a (tD (km X) B W F1))
    (hbase : attributeBase a name X.env (eval a X.env) = eval a X.env := by rfl) (hline : (apos.endLine == pos.line) = true := by rfl) :
    PE X (.Call (.Attribute a name apos) [] [] pos) (tD (km X) B W (m0F g F1)) := by
  refine (pe_m0 slot ty rule ha hbase hline).of ?_
  rintro σ H Q ⟨G, ρ, E, S⟩
  refine ⟨G, ρ, E, (Sat.bind S).imp fun d ρ1 s1 v G1 H1 E1 g1 dp1 => ?_⟩
  cases d <;> first | exact s1.elim | skip
  cases dp1
  obtain ⟨z, hz, q⟩ := sat_opt s1
  exact ⟨⟨_, rfl⟩, hr G1 H1 _ z Q E1.base.gh hz fun x G3 H3 ext dp3 => q x G3 H3 (E1.ext ext) (g1.trans ext.g) dp3⟩
def dJoin (d e : PyData) : Option PyData := match d, e with
  | .str a, .list ds => (match strsOf ds with
    | some ys => if (ys.map (·.length)).sum + ys.length * a.length ≤ 16777216 then some (.str (Txt.join a ys)) else none
    | none => none)
  | .str a, .tuple ds => (match strsOf ds with
    | some ys => if (ys.map (·.length)).sum + ys.length * a.length ≤ 16777216 then some (.str (Txt.join a ys)) else none
    | none => none)
  | _, _ => none
theorem rm_join : RDm X.K (fun x xs H Q => ∃ a p, ∃ ys : List Str, x = .str a ∧ xs = [.ref p] ∧ (SqL X.K H p (ys.map V.str) ∨ SqT X.K H p (ys.map V.str)) ∧
    (ys.map (·.length)).sum + ys.length * a.length ≤ 16777216 ∧ Q (.str (Txt.join a ys)) H) dJoin := by
  intro G H x y e z Q gh h1 hz q
  cases e <;> first | (cases hz; done) | skip
  · rename_i ds
    unfold dJoin at hz
    dsimp only at hz
    cases es : strsOf ds with
    | none => rw [es] at hz; cases hz
    | some ys =>
      rw [es] at hz
      obtain ⟨hl, rfl⟩ := of_if hz
      have e2 := strsOf_eq es
      subst e2
      cases h1 with
      | lst a1 a2 =>
        have ev := strs_dp a2
        subst ev
        exact ⟨x, _, ys, rfl, rfl, .inl (gh.seq a1), hl, q _ _ _ (Ext.refl gh) (.str _)⟩
  · rename_i ds
    unfold dJoin at hz
    dsimp only at hz
    cases es : strsOf ds with
    | none => rw [es] at hz; cases hz
    | some ys =>
      rw [es] at hz
      obtain ⟨hl, rfl⟩ := of_if hz
      have e2 := strsOf_eq es
      subst e2
      cases h1 with
      | tup a1 a2 =>
        have ev := strs_dp a2
        subst ev
        exact ⟨x, _, ys, rfl, rfl, .inr (seqT_same gh a1), hl, q _ _ _ (Ext.refl gh) (.str _)⟩
def dSplit (d e : PyData) : Option PyData := match d, e with
  | .str a, .str b => if (b.length == 0) = false ∧ a.length + 2 ≤ sizeLine then some (.list ((Txt.split a b).map PyData.str)) else none
  | _, _ => none
theorem rm_split : RDm X.K (fun x xs H Q => ∃ a b, x = .str a ∧ xs = [.str b] ∧ (b.length == 0) = false ∧ a.length + 2 ≤ sizeLine ∧ rNewStrs (Txt.split a b) H Q) dSplit := by
  intro G H x y e z Q gh h1 hz q
  cases e <;> first | (cases hz; done) | skip
  obtain ⟨⟨h2, h3⟩, rfl⟩ := of_if hz
  cases h1
  exact ⟨x, _, rfl, rfl, h2, h3, fun p hp => q _ _ _ (Ext.new gh hp) (.lst (SqL.of upd_same) (dp_strs _))⟩
def dStarts (d e : PyData) : Option PyData := match d, e with
  | .str a, .str b => some (.bool (Txt.startswith a b))
  | _, _ => none
theorem rm_starts : RDm X.K (fun x xs H Q => ∃ a b, x = .str a ∧ xs = [.str b] ∧ Q (.bl (Txt.startswith a b)) H) dStarts := by
  intro G H x y e z Q gh h1 hz q
  cases e <;> first | (cases hz; done) | skip
  cases hz
  cases h1
  exact ⟨x, _, rfl, rfl, q _ _ _ (Ext.refl gh) (.bl _)⟩
def dEnds (d e : PyData) : Option PyData := match d, e with
  | .str a, .str b => some (.bool (Txt.endswith a b))
  | _, _ => none
theorem rm_ends : RDm X.K (fun x xs H Q => ∃ a b, x = .str a ∧ xs = [.str b] ∧ Q (.bl (Txt.endswith a b)) H) dEnds := by
  intro G H x y e z Q gh h1 hz q
  cases e <;> first | (cases hz; done) | skip
  cases hz
  cases h1
  exact ⟨x, _, rfl, rfl, q _ _ _ (Ext.refl gh) (.bl _)⟩
def dFind (d e : PyData) : Option PyData := match d, e with
  | .str a, .str b => some (.int (Txt.find a b))
  | _, _ => none
theorem rm_find : RDm X.K (fun x xs H Q => ∃ a b, x = .str a ∧ xs = [.str b] ∧ Q (.int (Txt.find a b)) H) dFind := by
  intro G H x y e z Q gh h1 hz q
  cases e <;> first | (cases hz; done) | skip
  cases hz
  cases h1
  exact ⟨x, _, rfl, rfl, q _ _ _ (Ext.refl gh) (.int _)⟩
def dCount (d e : PyData) : Option PyData := match d, e with
  | .str a, .str b => some (.int (Txt.count a b))
  | _, _ => none
theorem rm_count : RDm X.K (fun x xs H Q => ∃ a b, x = .str a ∧ xs = [.str b] ∧ Q (.int (Txt.count a b)) H) dCount := by
  intro G H x y e z Q gh h1 hz q
  cases e <;> first | (cases hz; done) | skip
  cases hz
  cases h1
  exact ⟨x, _, rfl, rfl, q _ _ _ (Ext.refl gh) (.int _)⟩
def dIsdigit : PyData → Option PyData
  | .str a => some (.bool (Txt.isdigit a))
  | _ => none
theorem rm_isdigit : RDm0 X.K (fun x xs H Q => ∃ a, x = .str a ∧ xs = [] ∧ True ∧ Q (.bl (Txt.isdigit a)) H) dIsdigit := by
  intro G H x z Q gh hz q
  cases hz
  exact ⟨x, rfl, rfl, trivial, q _ _ _ (Ext.refl gh) (.bl _)⟩
def dIsalpha : PyData → Option PyData
  | .str a => some (.bool (Txt.isalpha a))
  | _ => none
theorem rm_isalpha : RDm0 X.K (fun x xs H Q => ∃ a, x = .str a ∧ xs = [] ∧ True ∧ Q (.bl (Txt.isalpha a)) H) dIsalpha := by
  intro G H x z Q gh hz q
  cases hz
  exact ⟨x, rfl, rfl, trivial, q _ _ _ (Ext.refl gh) (.bl _)⟩
/-! ### isinstance(e, T), true answers only -/
def isaD (T : String) (d : PyData) : Option PyData := match d with
  | .list _ => if T = "list" then some (.bool true) else none
  | .tuple _ => if T = "tuple" then some (.bool true) else none
  | .bool _ => if T = "bool" then some (.bool true) else none
  | .int _ => if T = "int" then some (.bool true) else none
  | .str _ => if T = "str" then some (.bool true) else none
  | _ => none
def isaF (T : String) (F : Rho → Res PyData) : Rho → Res PyData := fun ρ => (F ρ).bind fun d ρ => optR (isaD T d) ρ
theorem kit_same {K : PySem.W.Frag} {T : String} : PySem.W.kitOne K (.type T) (.type T) = some true := by
  unfold PySem.W.kitOne
  have e : ((Value.type T) == (Value.type T)) = true := beq_self_eq_true _
  rw [if_pos e]
theorem sqL_ty {K : PySem.W.Frag} {H : Hp} {a : Addr} {xs : List V} (h : SqL K H a xs) : TyX K H (.ref a) (.type "list") := by
  rcases h with (h | ⟨o, h⟩) | ⟨o, its, n, h, hc, _⟩
  · exact .base (.lst h)
  · exact .base (.frz h)
  · exact .kList h hc
theorem sqT_ty {K : PySem.W.Frag} {H : Hp} {a : Addr} {xs : List V} (h : SqT K H a xs) : TyX K H (.ref a) (.type "tuple") := by
  rcases h with (h | ⟨o, h⟩) | ⟨o, its, n, h, hc, _⟩
  · exact .base (.tup h)
  · exact .fTuple h
  · exact .kTuple h hc
theorem pd_isa (T : String) {x : Str} {p p2 : Pos} (hm : X.mg "isinstance" = none) (hx : X.mg x = none) (hv : bootBuiltins x = some (.type T)) (ha : PE X e (tD (km X) B W F)) (hg : Gl X "isinstance" := by rfl) (hgx : Gl X x := by rfl) (hn : x ≠ "__name__" := by decide) (hdx : (x == ("__debug__" : Str)) = false := by decide)
    (he : starEach [e, .Name x p2] X.env = (false, eval e X.env) :: starEach [.Name x p2] X.env := by rfl) (he2 : starEach [.Name x p2] X.env = (false, eval (.Name x p2) X.env) :: starEach [] X.env := by rfl) (hpl : (backTo pos (starEach [.Name x p2] X.env)).any (·.1) = false := by rfl) :
    PE X (.Call (.Name "isinstance" p) [e, .Name x p2] [] pos) (tD (km X) B W (isaF T F)) := by
  refine (pe_callB call_isi hg hm (by decide +kernel) (pa_cons ha (pa_cons (pe_bltn (v := .ty T) hgx hx hv rfl hn hdx) pa_nil he2) he) (by decide) (by decide) he hpl).of ?_
  rintro σ H Q ⟨G, ρ, E, S⟩
  refine ⟨G, ρ, E, (Sat.bind S).imp fun d ρ1 s1 v G1 H1 E1 g1 dp1 => ?_⟩
  obtain ⟨z, hz, q⟩ := sat_opt s1
  have gh := E1.base.gh
  cases d <;> first | (cases hz; done) | skip
  · obtain ⟨rfl, rfl⟩ := of_if hz
    cases dp1
    exact ⟨_, _, _, _, true, rfl, .ty _, .base (.bl _), kit_same, q _ _ _ E1 g1 (.bl _)⟩
  · obtain ⟨rfl, rfl⟩ := of_if hz
    cases dp1
    exact ⟨_, _, _, _, true, rfl, .ty _, .base (.int _), kit_same, q _ _ _ E1 g1 (.bl _)⟩
  · obtain ⟨rfl, rfl⟩ := of_if hz
    cases dp1
    exact ⟨_, _, _, _, true, rfl, .ty _, .base (.str _), kit_same, q _ _ _ E1 g1 (.bl _)⟩
  · obtain ⟨rfl, rfl⟩ := of_if hz
    cases dp1 with
    | lst h1 h2 => exact ⟨_, _, _, _, true, rfl, .ty _, sqL_ty (gh.seq h1), kit_same, q _ _ _ E1 g1 (.bl _)⟩
  · obtain ⟨rfl, rfl⟩ := of_if hz
    cases dp1 with
    | tup h1 h2 => exact ⟨_, _, _, _, true, rfl, .ty _, sqT_ty (seqT_same gh h1), kit_same, q _ _ _ E1 g1 (.bl _)⟩
/-! ### in: lists, tuples, texts -/
def rInT (K : PySem.W.Frag) : R2 := fun x y H Q => ∃ d ds, Dp K H x d ∧ Dp K H y (.tuple ds) ∧ SeqAt.shaped d = true ∧ SeqAt.shaped (.tuple ds) = true ∧ Q (.bl (ds.any fun z => PyData.eqv z d)) H
def rNotInT (K : PySem.W.Frag) : R2 := fun x y H Q => ∃ d ds, Dp K H x d ∧ Dp K H y (.tuple ds) ∧ SeqAt.shaped d = true ∧ SeqAt.shaped (.tuple ds) = true ∧ Q (.bl (!ds.any fun z => PyData.eqv z d)) H
theorem op_inT (hu : X.A.units + 65 < cLine) : OpR X (compareOp .In) (rInT X.K) := by
  intro pins s σ H x y v u Q I rx ry h
  obtain ⟨d, ds, hd, he, sd, se, q⟩ := h
  obtain ⟨as, r1⟩ := Dp.reads I d x v hd rx
  obtain ⟨bs, r2⟩ := Dp.reads I (.tuple ds) y u he ry
  exact SeqAt.in_tuple_reads r2 r1 (SeqAt.canLay_of_shaped se) (SeqAt.canLay_of_shaped sd) (room_in_shaped sd hu) ⟨.bl _, H, I, rfl, q⟩
theorem op_notInT (hu : X.A.units + 65 < cLine) : OpR X (compareOp .NotIn) (rNotInT X.K) := by
  intro pins s σ H x y v u Q I rx ry h
  obtain ⟨d, ds, hd, he, sd, se, q⟩ := h
  obtain ⟨as, r1⟩ := Dp.reads I d x v hd rx
  obtain ⟨bs, r2⟩ := Dp.reads I (.tuple ds) y u he ry
  exact SeqAt.notIn_tuple_reads r2 r1 (SeqAt.canLay_of_shaped se) (SeqAt.canLay_of_shaped sd) (room_in_shaped sd hu) ⟨.bl _, H, I, rfl, q⟩
def hasS (i j : Str) : Bool := !(Builtin.Str.occurrences j i 0 j.length 1).isEmpty
def dIn3 (d e : PyData) : Option PyData := match e with
  | .list ds => if SeqAt.shaped d = true ∧ SeqAt.shaped (.list ds) = true then some (.bool (ds.any fun z => PyData.eqv z d)) else none
  | .tuple ds => if SeqAt.shaped d = true ∧ SeqAt.shaped (.tuple ds) = true then some (.bool (ds.any fun z => PyData.eqv z d)) else none
  | .str j => (match d with
    | .str i => some (.bool (hasS i j))
    | _ => none)
  | _ => none
def dNotIn3 (d e : PyData) : Option PyData := match e with
  | .list ds => if SeqAt.shaped d = true ∧ SeqAt.shaped (.list ds) = true then some (.bool (!ds.any fun z => PyData.eqv z d)) else none
  | .tuple ds => if SeqAt.shaped d = true ∧ SeqAt.shaped (.tuple ds) = true then some (.bool (!ds.any fun z => PyData.eqv z d)) else none
  | .str j => (match d with
    | .str i => some (.bool (!hasS i j))
    | _ => none)
  | _ => none
theorem op_in3 (hu : X.A.units + 65 < cLine) : OpR X (compareOp .In) (fun x y H Q => rInD X.K x y H Q ∨ rInT X.K x y H Q ∨ ∃ i j, x = .str i ∧ y = .str j ∧ Q (.bl (hasS i j)) H) := (op_inD hu).or ((op_inT hu).or op_in_str)
theorem op_notIn3 (hu : X.A.units + 65 < cLine) : OpR X (compareOp .NotIn) (fun x y H Q => rNotInD X.K x y H Q ∨ rNotInT X.K x y H Q ∨ ∃ i j, x = .str i ∧ y = .str j ∧ Q (.bl (!hasS i j)) H) := (op_notInD hu).or ((op_notInT hu).or L2.op_notIn_str)
theorem rd_in3 : RD X.K (fun x y H Q => rInD X.K x y H Q ∨ rInT X.K x y H Q ∨ ∃ i j, x = .str i ∧ y = .str j ∧ Q (.bl (hasS i j)) H) dIn3 := by
  intro G H x y d e z Q gh hx hy hz q
  cases e <;> first | (cases hz; done) | skip
  · cases d <;> first | (cases hz; done) | skip
    cases hz; cases hx; cases hy
    exact .inr (.inr ⟨_, _, rfl, rfl, q _ _ _ (Ext.refl gh) (.bl _)⟩)
  · obtain ⟨⟨h1, h2⟩, rfl⟩ := of_if hz
    exact .inl ⟨d, _, (dp_same gh _ _ hx).p, (dp_same gh _ _ hy).p, h1, h2, q _ _ _ (Ext.refl gh) (.bl _)⟩
  · obtain ⟨⟨h1, h2⟩, rfl⟩ := of_if hz
    exact .inr (.inl ⟨d, _, (dp_same gh _ _ hx).p, (dp_same gh _ _ hy).p, h1, h2, q _ _ _ (Ext.refl gh) (.bl _)⟩)
theorem rd_notIn3 : RD X.K (fun x y H Q => rNotInD X.K x y H Q ∨ rNotInT X.K x y H Q ∨ ∃ i j, x = .str i ∧ y = .str j ∧ Q (.bl (!hasS i j)) H) dNotIn3 := by
  intro G H x y d e z Q gh hx hy hz q
  cases e <;> first | (cases hz; done) | skip
  · cases d <;> first | (cases hz; done) | skip
    cases hz; cases hx; cases hy
    exact .inr (.inr ⟨_, _, rfl, rfl, q _ _ _ (Ext.refl gh) (.bl _)⟩)
  · obtain ⟨⟨h1, h2⟩, rfl⟩ := of_if hz
    exact .inl ⟨d, _, (dp_same gh _ _ hx).p, (dp_same gh _ _ hy).p, h1, h2, q _ _ _ (Ext.refl gh) (.bl _)⟩
  · obtain ⟨⟨h1, h2⟩, rfl⟩ := of_if hz
    exact .inr (.inl ⟨d, _, (dp_same gh _ _ hx).p, (dp_same gh _ _ hy).p, h1, h2, q _ _ _ (Ext.refl gh) (.bl _)⟩)
end
end DL

namespace DL
open PySem PySem.Spec PyProof.Rows L2 RT
/-! ### x = dict(pairs): pairs a list or a tuple of pairs -/
section
variable {X : L2.Cx}
theorem pairs_of2 {pins : List (Addr × Obj)} {σ : L2.St} {H : Hp} {s : Shared} (I : Inv X pins σ H s) : ∀ {ps : List Addr} {kvs : List (Key × V)}, Paired (fun p kv => SqT X.K H p [kV kv.1, kv.2]) ps kvs →
    ∃ (prs : List (Key × Value)) (qs : List (Value × Value)), KV kvs prs ∧ prs.length = ps.length ∧ qs.length = ps.length ∧ ∀ (j : Nat) (k v : Value), qs[j]? = some (k, v) → ∃ (b : Addr) (key : Key), ps[j]? = some b ∧ IsTup s.heap b #[k, v] ∧ prs[j]? = some (key, v) ∧ (mixKind X.prog X.w).is key k = true
  | _, _, .nil => ⟨[], [], .nil, rfl, rfl, fun j k v e => by simp at e⟩
  | _, _, .cons (a := p) (b := kv) h t => by
    obtain ⟨prs, qs, r, hl, hl2, hp⟩ := pairs_of2 I t
    obtain ⟨its, rv, ht, _⟩ := I.tuple h
    obtain ⟨u, y, ei, ru, ry⟩ := vals2 rv
    subst ei
    refine ⟨(kv.1, y) :: prs, (u, y) :: qs, .cons ⟨rfl, ry⟩ r, by rw [List.length_cons, List.length_cons, hl], by rw [List.length_cons, List.length_cons, hl2], fun j k v e => ?_⟩
    cases j with
    | zero =>
      have e' : (u, y) = (k, v) := Option.some.inj e
      cases e'
      exact ⟨p, kv.1, rfl, ht, rfl, kV_is ru⟩
    | succ j =>
      obtain ⟨b, key, e1, e2, e3, e4⟩ := hp j k v (by simpa using e)
      exact ⟨b, key, by simpa using e1, e2, by simpa using e3, e4⟩
theorem sqN_plain {pins : List (Addr × Obj)} {σ : L2.St} {H : Hp} {s : Shared} {a : Addr} {xs : List V} (I : Inv X pins σ H s) (h : SqN X.K H a xs) : ∃ its : List Value, Vals xs its ∧ PlainSeq "tuple" s.heap a its.toArray ∧ xs.length ≤ sizeLine := by
  rcases h with ⟨o, hd, h⟩ | ⟨o, its, n, hd, hk, hc, hs, hz, r⟩
  · obtain ⟨h1, z, its, r, ⟨o2, h2, hc, n, hs⟩⟩ := I.hok a _ h
    rw [h1] at h2
    cases h2
    exact ⟨its, r, ⟨o, n, h1, hc, hd, hs⟩, z⟩
  · refine ⟨its.toList, r, ⟨o, n, I.kIn a o hk, hc, hd, by simpa using hs⟩, ?_⟩
    have e := r.length
    simp only [Array.length_toList] at e
    omega
/-- dict(t), t a tuple of pairs -/
theorem call_dictN (hcalm : X.calm = true) : CallR X (.type "dict") (fun xs H Q => ∃ (a : Addr) (ps : List Addr) (kvs : List (Key × V)), xs = [.ref a] ∧ SqN X.K H a (ps.map V.ref) ∧ Paired (fun p kv => SqT X.K H p [kV kv.1, kv.2]) ps kvs ∧
    ∀ p, H p = none → Q (.ref p) (upd H p (.dK (mergeK [] kvs)))) := by
  intro pins s σ H xs us Q I r q
  obtain ⟨a, ps, kvs, ex, hq, hp, q⟩ := q
  subst ex
  obtain ⟨u, eu, rx⟩ := vals1 r
  subst eu
  cases rx
  obtain ⟨its, rv, pl, hz⟩ := sqN_plain I hq
  have ei := refs_at rv
  subst ei
  rw [List.length_map] at hz
  obtain ⟨prs, qs, rel, hl, hl2, hpr⟩ := pairs_of2 I hp
  refine PySem.call_dict_pairs (knd := mixKind X.prog X.w) (kvs := prs) (PairArg.tuple a (ps.map Value.ref).toArray (fun j => ps.getD j 0) qs) (I.ok.hd hcalm) ⟨pl, ?_, ?_⟩ ⟨?_, ?_⟩ ?_ ?_
  · simp [hl2]
  · intro j k v e
    obtain ⟨b, key, e1, e2, e3, e4⟩ := hpr j k v e
    have eb : ps.getD j 0 = b := by simp [List.getD, e1]
    refine ⟨by simp [e1, eb], .inl ?_⟩
    show s.heap.IsTuple (ps.getD j 0) #[k, v]
    rw [eb]
    exact e2
  · rw [hl, hl2]
  · intro i key v e
    obtain ⟨b, k, e1, e2, e3, e4⟩ := hpr i key v e
    exact ⟨k, e3, e4⟩
  · rw [hl2]; exact hz
  · intro h' tk hd' k
    have hm : (s.heap.objs.size == sysModules) = false := beq_eq_false_iff_ne.mpr (Nat.ne_of_gt I.big)
    have hlen : (mergeK [] kvs).length ≤ sizeLine := by
      refine Nat.le_trans (length_mergeK kvs []) ?_
      rw [List.length_nil, Nat.zero_add, rel.length, hl]
      exact hz
    exact ⟨.ref s.heap.objs.size, upd H s.heap.objs.size (.dK (mergeK [] kvs)), I.laid (t' := tk) (fun b o e => k b o (by simp) e) (Nat.le_refl _) (show ObjOk X.prog X.w _ _ _ (.dK (mergeK [] kvs)) from ⟨hlen, hm, merged [] prs, KV.merge rel .nil, hd'⟩), rfl, q _ (I.hok.fresh (Nat.le_refl _))⟩
/-- the pairs of data -/
def pairD : PyData → Option (Key × PyData)
  | .tuple [k, v] => (keyOf k).map fun k => (k, v)
  | _ => none
def pairsD : List PyData → Option (List (Key × PyData))
  | [] => some []
  | d :: r => (pairD d).bind fun p => (pairsD r).map (p :: ·)
theorem pairD_dp {K : PySem.W.Frag} {G : Hp} {v : V} {d : PyData} {q : Key × PyData} (h : Dq K G v d) (e : pairD d = some q) : ∃ (p : Addr) (y : V), v = .ref p ∧ SqN K G p [kV q.1, y] ∧ Dq K G y q.2 := by
  unfold pairD at e
  split at e
  · rename_i k x
    cases ek : keyOf k with
    | none => rw [ek] at e; cases e
    | some key =>
      rw [ek] at e
      cases e
      cases h with
      | tup h1 h2 =>
        cases h2 with
        | cons a1 a2 =>
          cases a2 with
          | cons b1 b2 =>
            cases b2
            obtain rfl := key_dp a1 ek
            exact ⟨_, _, rfl, h1, b1⟩
  · cases e
theorem pairsD_dp {K : PySem.W.Frag} {G : Hp} : ∀ {ds : List PyData} {vs : List V} {qs : List (Key × PyData)}, DqAll K G vs ds → pairsD ds = some qs → ∃ (ps : List Addr) (kvs : List (Key × V)), vs = ps.map V.ref ∧ Paired (fun p kv => SqN K G p [kV kv.1, kv.2]) ps kvs ∧ DK K G kvs qs
  | [], _, _, h, e => by cases h; cases e; exact ⟨[], [], rfl, .nil, .nil⟩
  | d :: ds, _, qs, h, e => by
    cases h with
    | cons h1 h2 =>
      cases e1 : pairD d with
      | none => simp [pairsD, e1] at e
      | some q =>
        cases e2 : pairsD ds with
        | none => simp [pairsD, e1, e2] at e
        | some r =>
          simp [pairsD, e1, e2] at e
          subst e
          obtain ⟨p, y, rfl, a1, a2⟩ := pairD_dp h1 e1
          obtain ⟨ps, kvs, rfl, b1, b2⟩ := pairsD_dp h2 e2
          exact ⟨p :: ps, (q.1, y) :: kvs, rfl, .cons a1 b1, .cons ⟨rfl, a2⟩ b2⟩
theorem paired_t {K : PySem.W.Frag} {G H : Hp} (gh : Same G H) : ∀ {ps : List Addr} {kvs : List (Key × V)}, Paired (fun p kv => SqN K G p [kV kv.1, kv.2]) ps kvs → Paired (fun p kv => SqT K H p [kV kv.1, kv.2]) ps kvs
  | _, _, .nil => .nil
  | _, _, .cons h t => .cons (seqT_same gh h) (paired_t gh t)
variable {B : Bx} {W : WX} {pos : Pos} {e : Expr} {F : Rho → Res PyData}
def itemsOf : PyData → Option (List PyData)
  | .list ds => some ds
  | .tuple ds => some ds
  | _ => none
def dictS (F : Rho → Res PyData) (i : Nat) : Rho → Out := fun ρ => (F ρ).out fun d ρ => match (itemsOf d).bind pairsD with
  | some kvs => if i < ρ.length then .nx (ρ.set i (.dct (mergeD [] kvs))) else .bad
  | none => .bad
theorem pd_dict (i : Nat) {x : Str} {pos' p p2 : Pos} (hc : X.calm = true) (hN : X.N.Nodup) (hm : X.mg "dict" = none) (ha : PE X e (tD (km X) B W F)) (hi : X.N[i]? = some x := by rfl) (hx : Loc X.env.scope x := by first | exact Or.inl rfl | exact Or.inr rfl) (hg : Gl X "dict" := by rfl)
    (he : starEach [e] X.env = (false, eval e X.env) :: starEach [] X.env := by rfl) (hpl : (backTo p2 (starEach [] X.env)).any (·.1) = false := by rfl)
    (hs : swapsWith (.Call (.Name "dict" p) [e] [] p2) (some (.Name x pos')) pos.line X.env = pure false := by rfl) (hf : X.fn x = true ∨ X.env.scope.names.lookup x = some .local := by first | exact .inl rfl | exact .inr rfl | assumption) :
    PS X (.Assign [.Name x pos'] (.Call (.Name "dict" p) [e] [] p2) pos) (tDS (km X) B W (dictS F i)) := by
  refine (ps_set hN hi hx (pe_callTy (callR_or (call_dictP hc) (call_dictN hc)) hg hm (by decide +kernel) (pa_cons ha pa_nil he) (by decide) (by decide) he hpl) hs hf).of ?_
  rintro D σ H ⟨G, ρ, E, S⟩
  refine ⟨G, ρ, E, (SatS.out S).imp fun d ρ1 s1 v G1 H1 E1 g1 dp1 => ?_⟩
  cases hD : (itemsOf d).bind pairsD with
  | none => rw [hD] at s1; exact s1.elim
  | some qs =>
    rw [hD] at s1
    have s2 : SatS (km X) B W G D (if i < ρ1.length then .nx (ρ1.set i (.dct (mergeD [] qs))) else .bad) := s1
    by_cases hl : i < ρ1.length
    · rw [if_pos hl] at s2
      cases d <;> first | (cases hD; done) | skip
      · cases dp1 with
        | lst h1 h2 =>
          obtain ⟨ps, kvs, rfl, b1, b2⟩ := pairsD_dp h2 hD
          exact .inl ⟨_, ps, kvs, rfl, E1.base.gh.seq h1, paired_t E1.base.gh b1, fun p hp => s2 _ _ _ (E1.putDct hl hp (kd_merge b2 .nil)) g1⟩
      · cases dp1 with
        | tup h1 h2 =>
          obtain ⟨ps, kvs, rfl, b1, b2⟩ := pairsD_dp h2 hD
          exact .inr ⟨_, ps, kvs, rfl, h1.same E1.base.gh, paired_t E1.base.gh b1, fun p hp => s2 _ _ _ (E1.putDct hl hp (kd_merge b2 .nil)) g1⟩
    · rw [if_neg hl] at s2
      exact s2.elim
/-! ### what is never run is not read -/
def badS : Rho → Out := fun _ => .bad
def badF : Rho → Res PyData := fun _ => .bad
theorem pd_badS {st : Stmt} : PS X st (tDS (km X) B W badS) := ⟨fun pins s σ H D I h => by
  obtain ⟨G, ρ, E, S⟩ := h
  exact S.elim⟩
theorem pd_badE {e : Expr} : PE X e (tD (km X) B W badF) := ⟨fun pins s σ H Q I h => by
  obtain ⟨G, ρ, E, S⟩ := h
  exact S.elim⟩
end
end DL

namespace DL
open PySem PySem.Spec PyProof.Rows L2 RT
section
variable {X : L2.Cx} {B : Bx} {W : WX} {pos : Pos} {a b c e : Expr} {F F1 F2 F3 : Rho → Res PyData}
/-! ### a < b < c -/
def chainF (g g' : PyData → PyData → Option PyData) (F1 F2 F3 : Rho → Res PyData) : Rho → Res PyData := fun ρ => (F1 ρ).bind fun d ρ => (F2 ρ).bind fun e ρ => (optR ((g d e).bind isB) ρ).bind fun k ρ =>
  if k = true then (F3 ρ).bind fun f ρ => optR (g' e f) ρ else .ok (.bool false) ρ
theorem isB_eq {z : PyData} {k : Bool} (h : isB z = some k) : z = .bool k := by
  cases z <;> first | (cases h; done) | (cases h; rfl)
theorem t_chain {r r' : R2} {g g' : PyData → PyData → Option PyData} (hr : RD X.K r g) (hr' : RD X.K r' g') : ∀ σ H Q, tD (km X) B W (chainF g g' F1 F2 F3) σ H Q → tChain r r' (tD (km X) B W F1) (tD (km X) B W F2) (tD (km X) B W F3) σ H Q := by
  rintro σ H Q ⟨G, ρ, E, S⟩
  refine ⟨G, ρ, E, (Sat.bind S).imp fun d ρ1 s1 v G1 H1 E1 g1 dp1 => ⟨G1, ρ1, E1, ((Sat.bind s1).up g1).imp fun e ρ2 s2 u G2 H2 E2 g2 dp2 => ?_⟩⟩
  obtain ⟨k, hk, s3⟩ := sat_opt (Sat.bind s2)
  cases hz : g d e with
  | none => rw [hz] at hk; cases hk
  | some z =>
    rw [hz, Option.bind_some] at hk
    obtain rfl := isB_eq hk
    refine hr G2 H2 v u d e _ _ E2.base.gh (dp_same g2 _ _ dp1) dp2 hz fun x G3 H3 ext dp3 => ?_
    cases dp3
    refine ⟨k, rfl, ?_⟩
    have gg : Same G G3 := g1.trans (g2.trans ext.g)
    cases k with
    | false =>
      rw [if_neg (by decide)] at s3 ⊢
      exact s3 _ G3 H3 (E2.ext ext) gg (.bl _)
    | true =>
      rw [if_pos rfl] at s3 ⊢
      refine ⟨G3, ρ2, E2.ext ext, ((Sat.bind s3).up gg).imp fun f ρ3 s4 w G4 H4 E4 g4 dp4 => ?_⟩
      obtain ⟨y, hy, q⟩ := sat_opt s4
      exact hr' G4 H4 u w e f y Q E4.base.gh (dp_same (ext.g.trans g4) _ _ dp2) dp4 hy fun x G5 H5 ext5 dp5 => q x G5 H5 (E4.ext ext5) (gg.trans (g4.trans ext5.g)) dp5
theorem pd_chain {op op' : CmpOp} {r r' : R2} {g g' : PyData → PyData → Option PyData} (ho : OpR X (compareOp op) r) (hr : RD X.K r g) (ho' : OpR X (compareOp op') r') (hr' : RD X.K r' g') (ha : PE X a (tD (km X) B W F1)) (hb : PE X b (tD (km X) B W F2)) (hc : PE X c (tD (km X) B W F3))
    (hm : lastMarks [op, op'] [b, c] = false := by with_unfolding_all rfl) : PE X (.Compare a [op, op'] [b, c] pos) (tD (km X) B W (chainF g g' F1 F2 F3)) :=
  (pe_chain ho ho' ha hb hc hm).of (t_chain hr hr')
theorem pt_chainD {op op' : CmpOp} {r r' : R2} {g g' : PyData → PyData → Option PyData} (ho : OpR X (compareOp op) r) (hr : RD X.K r g) (ho' : OpR X (compareOp op') r') (hr' : RD X.K r' g') (ha : PE X a (tD (km X) B W F1)) (hb : PE X b (tD (km X) B W F2)) (hc : PE X c (tD (km X) B W F3))
    (hm : lastMarks [op, op'] [b, c] = false := by with_unfolding_all rfl) : PT X (.Compare a [op, op'] [b, c] pos) (tDT (km X) B W (testF (chainF g g' F1 F2 F3))) :=
  (pt_chain ho ho' ha hb hc hm).of fun σ H Q h => t_chain hr hr' σ H _ (t_test σ H Q h)
/-! ### x op= e: ints -/
def augS (i : Nat) (f : Int → Int → Int) (F : Rho → Res PyData) : Rho → Out := fun ρ => match ρ[i]? with
  | some (.d (.int a)) => (F ρ).out fun d ρ1 => match d with
    | .int b => if i < ρ1.length then .nx (ρ1.set i (.d (.int (f a b)))) else .bad
    | _ => .bad
  | _ => .bad
theorem pd_aug (i : Nat) {f : Int → Int → Int} {op : Operator} {x : Str} {pos' : Pos} (ho : PIp X op (ipI f)) (hN : X.N.Nodup) (he : PE X e (tD (km X) B W F)) (hi : X.N[i]? = some x := by rfl) (hx : Loc X.env.scope x := by first | exact Or.inl rfl | exact Or.inr rfl) (hf : X.fn x = true ∨ X.env.scope.names.lookup x = some .local := by first | exact .inl rfl | exact .inr rfl | assumption) :
    PS X (.AugAssign (.Name x pos') op e pos) (tDS (km X) B W (augS i f F)) := by
  refine (ps_aug hN hi hx he ho hf).of ?_
  rintro D σ H ⟨G, ρ, E, S⟩
  unfold augS at S
  split at S
  · rename_i a ea
    have q := E.ent i _ ea
    generalize hs : σ[i]? = o at q
    cases q with
    | d dp =>
      cases dp
      refine ⟨_, hs, G, ρ, E, (SatS.out S).imp fun d ρ1 s1 v G1 H1 E1 g1 dp1 => ?_⟩
      cases d <;> first | exact s1.elim | skip
      rename_i b
      cases dp1
      have s2 : SatS (km X) B W G D (if i < ρ1.length then .nx (ρ1.set i (.d (.int (f a b)))) else .bad) := s1
      by_cases hl : i < ρ1.length
      · rw [if_pos hl] at s2
        exact ⟨a, b, rfl, rfl, s2 _ _ _ (E1.put hl (.int _)) g1⟩
      · rw [if_neg hl] at s2
        exact s2.elim
  · exact S.elim
/-! ### x = text.split(sep), x changed later -/
def splitL (F1 F2 : Rho → Res PyData) : Rho → Res (List PyData) := fun ρ => (F1 ρ).bind fun d ρ => if isS d = true then (F2 ρ).bind fun e ρ => match dSplit d e with
  | some (.list ds) => .ok ds ρ
  | _ => .bad
  else .bad
theorem nl_split {apos : Pos} (ha : PE X a (tD (km X) B W F1)) (hb : PE X b (tD (km X) B W F2))
    (hs : starEach [b] X.env = [(false, eval b X.env)] := by rfl) (hbase : attributeBase a "split" X.env (eval a X.env) = eval a X.env := by rfl) (hline : (apos.endLine == pos.line) = true := by rfl) :
    PE X (.Call (.Attribute a "split" apos) [b] [] pos) (tNL (km X) B W (splitL F1 F2)) := by
  refine (pe_split ha hb hs hbase hline).of ?_
  rintro σ H Q ⟨G, ρ, E, S⟩
  refine ⟨G, ρ, E, (Sat.bind S).imp fun d ρ1 s1 v G1 H1 E1 g1 dp1 => ?_⟩
  cases d <;> first | exact s1.elim | skip
  cases dp1
  refine ⟨⟨_, rfl⟩, G1, ρ1, E1, ((Sat.bind s1).up g1).imp fun e ρ2 s2 u G2 H2 E2 g2 dp2 => ?_⟩
  cases e <;> first | exact s2.elim | skip
  rename_i x y
  cases dp2
  by_cases hc : (y.length == 0) = false ∧ x.length + 2 ≤ sizeLine
  · have e : dSplit (.str x) (.str y) = some (.list ((Txt.split x y).map PyData.str)) := if_pos hc
    rw [e] at s2
    exact ⟨x, y, rfl, rfl, hc.1, hc.2, fun p hp => s2 p _ _ _ E2 (g1.trans g2) hp (dp_strs _)⟩
  · have e : dSplit (.str x) (.str y) = none := if_neg hc
    rw [e] at s2
    exact s2.elim
end
end DL

namespace DL
open PySem PySem.Spec PyProof.Rows L2 RT
/-! ### defs by name -/
def fn1 (g : PyData → FR) : Fn
  | [a0] => g a0
  | _ => .bad
theorem fn1_len (g : PyData → FR) : ∀ ds, fn1 g ds ≠ .bad → ds.length = 1 := fun ds h => by
  unfold fn1 at h
  split at h
  · rfl
  · exact absurd rfl h
theorem fn1_body {g : PyData → FR} {S : Rho → Out} {k : Nat} (q : ∀ a0, outFR (S (startR k [a0])) = g a0) : ∀ ds, fn1 g ds ≠ .bad → outFR (S (startR k ds)) = fn1 g ds := fun ds h => by
  unfold fn1 at h ⊢
  split at h
  · exact q _
  · exact absurd rfl h
def fn2 (g : PyData → PyData → FR) : Fn
  | [a0, a1] => g a0 a1
  | _ => .bad
theorem fn2_len (g : PyData → PyData → FR) : ∀ ds, fn2 g ds ≠ .bad → ds.length = 2 := fun ds h => by
  unfold fn2 at h
  split at h
  · rfl
  · exact absurd rfl h
theorem fn2_body {g : PyData → PyData → FR} {S : Rho → Out} {k : Nat} (q : ∀ a0 a1, outFR (S (startR k [a0, a1])) = g a0 a1) : ∀ ds, fn2 g ds ≠ .bad → outFR (S (startR k ds)) = fn2 g ds := fun ds h => by
  unfold fn2 at h ⊢
  split at h
  · exact q _ _
  · exact absurd rfl h
def fn3 (g : PyData → PyData → PyData → FR) : Fn
  | [a0, a1, a2] => g a0 a1 a2
  | _ => .bad
theorem fn3_len (g : PyData → PyData → PyData → FR) : ∀ ds, fn3 g ds ≠ .bad → ds.length = 3 := fun ds h => by
  unfold fn3 at h
  split at h
  · rfl
  · exact absurd rfl h
theorem fn3_body {g : PyData → PyData → PyData → FR} {S : Rho → Out} {k : Nat} (q : ∀ a0 a1 a2, outFR (S (startR k [a0, a1, a2])) = g a0 a1 a2) : ∀ ds, fn3 g ds ≠ .bad → outFR (S (startR k ds)) = fn3 g ds := fun ds h => by
  unfold fn3 at h ⊢
  split at h
  · exact q _ _ _
  · exact absurd rfl h
def fn4 (g : PyData → PyData → PyData → PyData → FR) : Fn
  | [a0, a1, a2, a3] => g a0 a1 a2 a3
  | _ => .bad
theorem fn4_len (g : PyData → PyData → PyData → PyData → FR) : ∀ ds, fn4 g ds ≠ .bad → ds.length = 4 := fun ds h => by
  unfold fn4 at h
  split at h
  · rfl
  · exact absurd rfl h
theorem fn4_body {g : PyData → PyData → PyData → PyData → FR} {S : Rho → Out} {k : Nat} (q : ∀ a0 a1 a2 a3, outFR (S (startR k [a0, a1, a2, a3])) = g a0 a1 a2 a3) : ∀ ds, fn4 g ds ≠ .bad → outFR (S (startR k ds)) = fn4 g ds := fun ds h => by
  unfold fn4 at h ⊢
  split at h
  · exact q _ _ _ _
  · exact absurd rfl h
def fn5 (g : PyData → PyData → PyData → PyData → PyData → FR) : Fn
  | [a0, a1, a2, a3, a4] => g a0 a1 a2 a3 a4
  | _ => .bad
theorem fn5_len (g : PyData → PyData → PyData → PyData → PyData → FR) : ∀ ds, fn5 g ds ≠ .bad → ds.length = 5 := fun ds h => by
  unfold fn5 at h
  split at h
  · rfl
  · exact absurd rfl h
theorem fn5_body {g : PyData → PyData → PyData → PyData → PyData → FR} {S : Rho → Out} {k : Nat} (q : ∀ a0 a1 a2 a3 a4, outFR (S (startR k [a0, a1, a2, a3, a4])) = g a0 a1 a2 a3 a4) : ∀ ds, fn5 g ds ≠ .bad → outFR (S (startR k ds)) = fn5 g ds := fun ds h => by
  unfold fn5 at h ⊢
  split at h
  · exact q _ _ _ _ _
  · exact absurd rfl h
def fn6 (g : PyData → PyData → PyData → PyData → PyData → PyData → FR) : Fn
  | [a0, a1, a2, a3, a4, a5] => g a0 a1 a2 a3 a4 a5
  | _ => .bad
theorem fn6_len (g : PyData → PyData → PyData → PyData → PyData → PyData → FR) : ∀ ds, fn6 g ds ≠ .bad → ds.length = 6 := fun ds h => by
  unfold fn6 at h
  split at h
  · rfl
  · exact absurd rfl h
theorem fn6_body {g : PyData → PyData → PyData → PyData → PyData → PyData → FR} {S : Rho → Out} {k : Nat} (q : ∀ a0 a1 a2 a3 a4 a5, outFR (S (startR k [a0, a1, a2, a3, a4, a5])) = g a0 a1 a2 a3 a4 a5) : ∀ ds, fn6 g ds ≠ .bad → outFR (S (startR k ds)) = fn6 g ds := fun ds h => by
  unfold fn6 at h ⊢
  split at h
  · exact q _ _ _ _ _ _
  · exact absurd rfl h
def fn7 (g : PyData → PyData → PyData → PyData → PyData → PyData → PyData → FR) : Fn
  | [a0, a1, a2, a3, a4, a5, a6] => g a0 a1 a2 a3 a4 a5 a6
  | _ => .bad
theorem fn7_len (g : PyData → PyData → PyData → PyData → PyData → PyData → PyData → FR) : ∀ ds, fn7 g ds ≠ .bad → ds.length = 7 := fun ds h => by
  unfold fn7 at h
  split at h
  · rfl
  · exact absurd rfl h
theorem fn7_body {g : PyData → PyData → PyData → PyData → PyData → PyData → PyData → FR} {S : Rho → Out} {k : Nat} (q : ∀ a0 a1 a2 a3 a4 a5 a6, outFR (S (startR k [a0, a1, a2, a3, a4, a5, a6])) = g a0 a1 a2 a3 a4 a5 a6) : ∀ ds, fn7 g ds ≠ .bad → outFR (S (startR k ds)) = fn7 g ds := fun ds h => by
  unfold fn7 at h ⊢
  split at h
  · exact q _ _ _ _ _ _ _
  · exact absurd rfl h
def fn8 (g : PyData → PyData → PyData → PyData → PyData → PyData → PyData → PyData → FR) : Fn
  | [a0, a1, a2, a3, a4, a5, a6, a7] => g a0 a1 a2 a3 a4 a5 a6 a7
  | _ => .bad
theorem fn8_len (g : PyData → PyData → PyData → PyData → PyData → PyData → PyData → PyData → FR) : ∀ ds, fn8 g ds ≠ .bad → ds.length = 8 := fun ds h => by
  unfold fn8 at h
  split at h
  · rfl
  · exact absurd rfl h
theorem fn8_body {g : PyData → PyData → PyData → PyData → PyData → PyData → PyData → PyData → FR} {S : Rho → Out} {k : Nat} (q : ∀ a0 a1 a2 a3 a4 a5 a6 a7, outFR (S (startR k [a0, a1, a2, a3, a4, a5, a6, a7])) = g a0 a1 a2 a3 a4 a5 a6 a7) : ∀ ds, fn8 g ds ≠ .bad → outFR (S (startR k ds)) = fn8 g ds := fun ds h => by
  unfold fn8 at h ⊢
  split at h
  · exact q _ _ _ _ _ _ _ _
  · exact absurd rfl h
def DefOk (P : Program) (w : World) (K : PySem.W.Frag) (mg : Str → Option Value) (base : Heap) (x : Str) (k : Nat) (fn : Fn) : Prop :=
  ∃ f fd ps, FnOk P w K mg base (L2.CX P w) k f fd ps (spD ⟨K, mg⟩ fn) ∧ mg x = some (.ref f) ∧ PySem.W.keepIn K (.ref f) = true ∧ Binds K fd ps []
section
variable {X : L2.Cx} {B : Bx} {W : WX} {pos : Pos} {e : Expr} {es : List Expr} {A : Rho → Res (List PyData)}
theorem pd_call {k : Nat} {fn : Fn} {x : Str} {p : Pos} (D : DefOk X.prog X.w X.K X.mg X.base x k fn) (hr : Room k X.A) (tk : Takes X W)
    (ha : PA X (e :: es) (tDA (km X) B W A)) (hg : Gl X x := by rfl) (hdb : (x == ("__debug__" : Str)) = false := by decide) (he : starEach (e :: es) X.env = (false, eval e X.env) :: starEach es X.env := by rfl) (hpl : (backTo pos (starEach es X.env)).any (·.1) = false := by rfl) :
    PE X (.Call (.Name x p) (e :: es) [] pos) (tD (km X) B W (callF fn A)) := by
  obtain ⟨f, fd, ps, F, hm, hk, hb⟩ := D
  exact pd_call1 F hr hm hk hb (fun σ => passAt tk σ) ha hg hdb he hpl
end
structure ExcTxt (K : PySem.W.Frag) (mg : Str → Option Value) (x : Str) (C : Addr) : Prop where
  gP : mg x = some (.ref C)
  xP : PySem.W.excIn K C [.type "ValueError", .type "Exception", .type "BaseException", .type "object"] "ValueError.__new__" = true
  kP : PySem.W.keepIn K (.ref C) = true
  bP : PySem.W.subIn K (.ref C) (.type "BaseException") = some true
  tP : PySem.W.typeIn K (.ref C) = some (.type "type")
  iP : PySem.W.isClsIn K C = true
  sP : PySem.W.subIn K (.ref C) (.ref C) = some true
theorem ExcTxt.eP {K : PySem.W.Frag} {mg : Str → Option Value} {x : Str} {S : Addr} (T : ExcTxt K mg x S) : PySem.W.exmOne K (.ref S) (.ref S) = some true := by
  have e1 : (PySem.W.subIn K (.ref S) (.type "BaseException") == some true) = true := by rw [T.bP] <;> rfl
  have e2 : ((PySem.W.clsIn K S).isSome && PySem.W.typeIn K (.ref S) == some (.type "type")) = true := by
    have h2' : (PySem.W.clsIn K S).isSome = true := T.iP
    rw [h2', T.tP] <;> rfl
  show (if (PySem.W.subIn K (.ref S) (.type "BaseException") == some true) = true then (if ((PySem.W.clsIn K S).isSome && PySem.W.typeIn K (.ref S) == some (.type "type")) = true then PySem.W.subIn K (.ref S) (.ref S) else none) else none) = some true
  rw [if_pos e1, if_pos e2]
  exact T.sP
/-- what 'except x' says of an error of the same name; of others nothing is said -/
def ct1 (x : Str) : Str → Option Bool := fun y => if y = x then some true else none
theorem ct1_ok {K : PySem.W.Frag} {mg : Str → Option Value} {x : Str} {S : Addr} (T : ExcTxt K mg x S) : ∀ (nm : Str) (C : Addr) (b : Bool), ct1 x nm = some b → mg nm = some (.ref C) → PySem.W.exmOne K (.ref C) (.ref S) = some b := by
  intro nm C b h hm
  unfold ct1 at h
  split at h
  · rename_i hx
    subst hx
    cases h
    have e := T.gP.symm.trans hm
    cases e
    exact T.eP
  · cases h
end DL

namespace DL
open PySem PySem.Spec PyProof.Rows L2 RT
/-! ### how the data functions run -/
section
variable {α β : Type} {ρ : Rho} {i j n : Nat} {x y z : PyData} {xs ds : List PyData}
@[simp] theorem bind_ok {a : α} {f : α → Rho → Res β} : (Res.ok a ρ).bind f = f a ρ := id rfl
@[simp] theorem bind_ex {e : Exn} {f : α → Rho → Res β} : (Res.ex e ρ).bind f = .ex e ρ := id rfl
@[simp] theorem bind_bad {f : α → Rho → Res β} : Res.bad.bind f = .bad := id rfl
@[simp] theorem out_ok {a : α} {f : α → Rho → Out} : (Res.ok a ρ).out f = f a ρ := id rfl
@[simp] theorem out_ex {e : Exn} {f : α → Rho → Out} : (Res.ex e ρ).out f = .ex e ρ := id rfl
@[simp] theorem out_bad {f : α → Rho → Out} : Res.bad.out f = .bad := id rfl
@[simp] theorem obind_nx {f : Rho → Out} : (Out.nx ρ).bind f = f ρ := id rfl
@[simp] theorem obind_rt {f : Rho → Out} : (Out.rt x).bind f = .rt x := id rfl
@[simp] theorem obind_bk {f : Rho → Out} : (Out.bk ρ).bind f = .bk ρ := id rfl
@[simp] theorem obind_ct {f : Rho → Out} : (Out.ct ρ).bind f = .ct ρ := id rfl
@[simp] theorem obind_ex {e : Exn} {f : Rho → Out} : (Out.ex e ρ).bind f = .ex e ρ := id rfl
@[simp] theorem obind_bad {f : Rho → Out} : Out.bad.bind f = .bad := id rfl
@[simp] theorem optR_some {a : α} : optR (some a) ρ = .ok a ρ := id rfl
@[simp] theorem optR_none : optR (none : Option α) ρ = .bad := id rfl
theorem varF_d (h : ρ[i]? = some (.d x)) : varF i ρ = .ok x ρ := by unfold varF; rw [h]
theorem varF_own (h : ρ[i]? = some (.own xs)) : varF i ρ = .ok (.list xs) (ρ.set i (.d (.list xs))) := by unfold varF; rw [h]
theorem varF_ap : varF i ρ = (match ρ[i]? with
  | some (.d x) => .ok x ρ
  | some (.own xs) => .ok (.list xs) (ρ.set i (.d (.list xs)))
  | _ => .bad) := id rfl
@[simp] theorem varF_apc {e0 : Ent} : varF i (e0 :: ρ) = (match (e0 :: ρ)[i]? with
  | some (.d x) => .ok x (e0 :: ρ)
  | some (.own xs) => .ok (.list xs) ((e0 :: ρ).set i (.d (.list xs)))
  | _ => .bad) := varF_ap
variable {F F1 F2 : Rho → Res PyData} {A : Rho → Res (List PyData)} {T1 T2 : Rho → Res Bool} {S1 S2 : Rho → Out} {T : Tg} {g2 : PyData → PyData → Option PyData} {g1 : PyData → Option PyData} {gs : List PyData → Option PyData} {fn : Fn}
theorem cF_ap : cF x ρ = .ok x ρ := id rfl
@[simp] theorem cF_apc {e0 : Ent} : cF x (e0 :: ρ) = .ok x (e0 :: ρ) := cF_ap
theorem binF_ap : binF g2 F1 F2 ρ = (F1 ρ).bind fun d ρ => (F2 ρ).bind fun e ρ => optR (g2 d e) ρ := id rfl
@[simp] theorem binF_apc {e0 : Ent} : binF g2 F1 F2 (e0 :: ρ) = (F1 (e0 :: ρ)).bind fun d ρ => (F2 ρ).bind fun e ρ => optR (g2 d e) ρ := binF_ap
theorem unF_ap : unF g1 F ρ = (F ρ).bind fun d ρ => optR (g1 d) ρ := id rfl
@[simp] theorem unF_apc {e0 : Ent} : unF g1 F (e0 :: ρ) = (F (e0 :: ρ)).bind fun d ρ => optR (g1 d) ρ := unF_ap
@[simp] theorem isB_b {b : Bool} : isB (.bool b) = some b := id rfl
theorem testF_ap : testF F ρ = (F ρ).bind fun d ρ => optR (isB d) ρ := id rfl
@[simp] theorem testF_apc {e0 : Ent} : testF F (e0 :: ρ) = (F (e0 :: ρ)).bind fun d ρ => optR (isB d) ρ := testF_ap
theorem truF_ap : truF F ρ = (F ρ).bind fun d ρ => optR (truth d) ρ := id rfl
@[simp] theorem truF_apc {e0 : Ent} : truF F (e0 :: ρ) = (F (e0 :: ρ)).bind fun d ρ => optR (truth d) ρ := truF_ap
@[simp] theorem truth_b {b : Bool} : truth (.bool b) = some b := id rfl
@[simp] theorem truth_l : truth (.list xs) = some (!xs.isEmpty) := id rfl
@[simp] theorem truth_t : truth (.tuple xs) = some (!xs.isEmpty) := id rfl
@[simp] theorem truth_n : truth .none = some false := id rfl
@[simp] theorem itemsQ_apc {e0 : Ent} : itemsQ F (e0 :: ρ) = (F (e0 :: ρ)).bind fun d ρ => match d with
  | .list ds => .ok ds ρ
  | .tuple ds => .ok ds ρ
  | .str x => .ok (charsD x) ρ
  | _ => .bad := id rfl
@[simp] theorem bTuple_l : bTuple (.list xs) = some (.tuple xs) := id rfl
@[simp] theorem bTuple_t : bTuple (.tuple xs) = some (.tuple xs) := id rfl
@[simp] theorem bList_l : bList (.list xs) = some (.list xs) := id rfl
@[simp] theorem bList_t : bList (.tuple xs) = some (.list xs) := id rfl
theorem andT_ap : andT T1 T2 ρ = (T1 ρ).bind fun b ρ => if b = true then T2 ρ else .ok false ρ := id rfl
@[simp] theorem andT_apc {e0 : Ent} : andT T1 T2 (e0 :: ρ) = (T1 (e0 :: ρ)).bind fun b ρ => if b = true then T2 ρ else .ok false ρ := andT_ap
theorem orT_ap : orT T1 T2 ρ = (T1 ρ).bind fun b ρ => if b = true then .ok true ρ else T2 ρ := id rfl
@[simp] theorem orT_apc {e0 : Ent} : orT T1 T2 (e0 :: ρ) = (T1 (e0 :: ρ)).bind fun b ρ => if b = true then .ok true ρ else T2 ρ := orT_ap
theorem notT_ap : notT T1 ρ = (T1 ρ).bind fun b ρ => .ok (!b) ρ := id rfl
@[simp] theorem notT_apc {e0 : Ent} : notT T1 (e0 :: ρ) = (T1 (e0 :: ρ)).bind fun b ρ => .ok (!b) ρ := notT_ap
theorem andV_ap : andV F1 F2 ρ = (testF F1 ρ).bind fun b ρ => if b = true then F2 ρ else .ok (.bool false) ρ := id rfl
@[simp] theorem andV_apc {e0 : Ent} : andV F1 F2 (e0 :: ρ) = (testF F1 (e0 :: ρ)).bind fun b ρ => if b = true then F2 ρ else .ok (.bool false) ρ := andV_ap
theorem orV_ap : orV F1 F2 ρ = (testF F1 ρ).bind fun b ρ => if b = true then .ok (.bool true) ρ else F2 ρ := id rfl
@[simp] theorem orV_apc {e0 : Ent} : orV F1 F2 (e0 :: ρ) = (testF F1 (e0 :: ρ)).bind fun b ρ => if b = true then .ok (.bool true) ρ else F2 ρ := orV_ap
theorem notV_ap : notV F ρ = (testF F ρ).bind fun b ρ => .ok (.bool (!b)) ρ := id rfl
@[simp] theorem notV_apc {e0 : Ent} : notV F (e0 :: ρ) = (testF F (e0 :: ρ)).bind fun b ρ => .ok (.bool (!b)) ρ := notV_ap
theorem ifF_ap {F1 F2 : Rho → Res α} : ifF T1 F1 F2 ρ = (T1 ρ).bind fun b ρ => if b = true then F1 ρ else F2 ρ := id rfl
@[simp] theorem ifF_apc {F1 F2 : Rho → Res α} {e0 : Ent} : ifF T1 F1 F2 (e0 :: ρ) = (T1 (e0 :: ρ)).bind fun b ρ => if b = true then F1 ρ else F2 ρ := ifF_ap
theorem nilA_ap : nilA ρ = .ok [] ρ := id rfl
@[simp] theorem nilA_apc {e0 : Ent} : nilA (e0 :: ρ) = .ok [] (e0 :: ρ) := nilA_ap
theorem consA_ap : consA F A ρ = (F ρ).bind fun d ρ => (A ρ).bind fun ds ρ => .ok (d :: ds) ρ := id rfl
@[simp] theorem consA_apc {e0 : Ent} : consA F A (e0 :: ρ) = (F (e0 :: ρ)).bind fun d ρ => (A ρ).bind fun ds ρ => .ok (d :: ds) ρ := consA_ap
theorem line_le (h : n ≤ 16777216) : n ≤ sizeLine := by rw [sizeLine_eq]; exact h
theorem tupF_ap : tupF A ρ = (A ρ).bind fun ds ρ => if ds.length ≤ 16777216 then .ok (.tuple ds) ρ else .bad := by
  unfold tupF; rw [sizeLine_eq]
@[simp] theorem tupF_apc {e0 : Ent} : tupF A (e0 :: ρ) = (A (e0 :: ρ)).bind fun ds ρ => if ds.length ≤ 16777216 then .ok (.tuple ds) ρ else .bad := tupF_ap
theorem lstF_ap : lstF A ρ = (A ρ).bind fun ds ρ => if ds.length ≤ 16777216 then .ok (.list ds) ρ else .bad := by
  unfold lstF; rw [sizeLine_eq]
@[simp] theorem lstF_apc {e0 : Ent} : lstF A (e0 :: ρ) = (A (e0 :: ρ)).bind fun ds ρ => if ds.length ≤ 16777216 then .ok (.list ds) ρ else .bad := lstF_ap
theorem appF_ap : appF gs A ρ = (A ρ).bind fun ds ρ => optR (gs ds) ρ := id rfl
@[simp] theorem appF_apc {e0 : Ent} : appF gs A (e0 :: ρ) = (A (e0 :: ρ)).bind fun ds ρ => optR (gs ds) ρ := appF_ap
def frR : FR → Rho → Res PyData
  | .ok d, ρ => .ok d ρ
  | .ex e, ρ => .ex e ρ
  | .bad, _ => .bad
@[simp] theorem frR_ok : frR (.ok x) ρ = .ok x ρ := id rfl
@[simp] theorem frR_ex {e : Exn} : frR (.ex e) ρ = .ex e ρ := id rfl
theorem callF_ap : callF fn A ρ = (A ρ).bind fun ds ρ => frR (fn ds) ρ := by
  unfold callF
  congr 1
  funext ds ρ
  cases fn ds <;> rfl
@[simp] theorem callF_apc {e0 : Ent} : callF fn A (e0 :: ρ) = (A (e0 :: ρ)).bind fun ds ρ => frR (fn ds) ρ := callF_ap
@[simp] theorem app1_ap : app1 g1 [x] = g1 x := id rfl
@[simp] theorem app2_ap : app2 g2 [x, y] = g2 x y := id rfl
@[simp] theorem fn1_ap {g : PyData → FR} : fn1 g [x] = g x := id rfl
@[simp] theorem fn2_ap {g : PyData → PyData → FR} : fn2 g [x, y] = g x y := id rfl
@[simp] theorem fn3_ap {g : PyData → PyData → PyData → FR} : fn3 g [x, y, z] = g x y z := id rfl
@[simp] theorem fn4_ap {g : PyData → PyData → PyData → PyData → FR} {u : PyData} : fn4 g [x, y, z, u] = g x y z u := id rfl
theorem seqS_ap : seqS S1 S2 ρ = (S1 ρ).bind S2 := id rfl
@[simp] theorem seqS_apc {e0 : Ent} : seqS S1 S2 (e0 :: ρ) = (S1 (e0 :: ρ)).bind S2 := seqS_ap
theorem nxS_ap : nxS ρ = .nx ρ := id rfl
@[simp] theorem nxS_apc {e0 : Ent} : nxS (e0 :: ρ) = .nx (e0 :: ρ) := nxS_ap
@[simp] theorem optS_some : optS (some ρ) = .nx ρ := id rfl
@[simp] theorem optS_none : optS none = .bad := id rfl
theorem asgS_ap : asgS F T ρ = (F ρ).out fun d ρ => optS (T d ρ) := id rfl
@[simp] theorem asgS_apc {e0 : Ent} : asgS F T (e0 :: ρ) = (F (e0 :: ρ)).out fun d ρ => optS (T d ρ) := asgS_ap
@[simp] theorem nameT_ap : nameT i x ρ = if i < ρ.length then some (ρ.set i (.d x)) else none := id rfl
@[simp] theorem nilTs_ap : nilTs [] ρ = some ρ := id rfl
@[simp] theorem consTs_ap {U : Tgs} : consTs T U (x :: ds) ρ = (T x ρ).bind fun ρ => U ds ρ := id rfl
@[simp] theorem tupT_ap {U : Tgs} : tupT n U (.tuple ds) ρ = if ds.length = n then U ds ρ else none := id rfl
theorem ownS_ap : ownS A i ρ = (A ρ).out fun ds ρ => if ds.length ≤ 16777216 ∧ i < ρ.length then .nx (ρ.set i (.own ds)) else .bad := by
  unfold ownS; rw [sizeLine_eq]
@[simp] theorem ownS_apc {e0 : Ent} : ownS A i (e0 :: ρ) = (A (e0 :: ρ)).out fun ds ρ => if ds.length ≤ 16777216 ∧ i < ρ.length then .nx (ρ.set i (.own ds)) else .bad := ownS_ap
theorem parS_ap : parS A i j ρ = (A ρ).out fun ds ρ => match ds with
  | [d, e] => if i < ρ.length ∧ j < ρ.length then .nx ((ρ.set i (.d d)).set j (.d e)) else .bad
  | _ => .bad := id rfl
@[simp] theorem parS_apc {e0 : Ent} : parS A i j (e0 :: ρ) = (A (e0 :: ρ)).out fun ds ρ => match ds with
  | [d, e] => if i < ρ.length ∧ j < ρ.length then .nx ((ρ.set i (.d d)).set j (.d e)) else .bad
  | _ => .bad := parS_ap
theorem retS_ap : retS F ρ = (F ρ).out fun d _ => .rt d := id rfl
@[simp] theorem retS_apc {e0 : Ent} : retS F (e0 :: ρ) = (F (e0 :: ρ)).out fun d _ => .rt d := retS_ap
theorem dropS_ap : dropS F ρ = (F ρ).out fun _ ρ => .nx ρ := id rfl
@[simp] theorem dropS_apc {e0 : Ent} : dropS F (e0 :: ρ) = (F (e0 :: ρ)).out fun _ ρ => .nx ρ := dropS_ap
theorem ifS_ap : ifS T1 S1 S2 ρ = (T1 ρ).out fun b ρ => if b = true then S1 ρ else S2 ρ := id rfl
@[simp] theorem ifS_apc {e0 : Ent} : ifS T1 S1 S2 (e0 :: ρ) = (T1 (e0 :: ρ)).out fun b ρ => if b = true then S1 ρ else S2 ρ := ifS_ap
@[simp] theorem newDS_apc {e0 : Ent} : newDS i (e0 :: ρ) = if i < (e0 :: ρ).length then .nx ((e0 :: ρ).set i (.dct [])) else .bad := id rfl
@[simp] theorem isDct_dct {kvs : List (Key × PyData)} : isDct (some (.dct kvs)) = true := id rfl
@[simp] theorem dEnt_dct {kvs : List (Key × PyData)} : dEnt (some (.dct kvs)) = some kvs := id rfl
@[simp] theorem dEnt_rdd {kvs : List (Key × PyData)} : dEnt (some (.rdd kvs)) = some kvs := id rfl
@[simp] theorem keyOf_s {x : Str} : keyOf (.str x) = some (.inr x) := id rfl
@[simp] theorem keyOf_i {k : Int} : keyOf (.int k) = some (.inl k) := id rfl
theorem putS_ap {Fk Fv : Rho → Res PyData} : putS i Fk Fv ρ = (Fv ρ).out fun v ρ => if isDct ρ[i]? = true then (Fk ρ).out fun k ρ => match ρ[i]?, keyOf k with
  | some (.dct kvs), some k => if kvs.length < 16777216 then .nx (ρ.set i (.dct (putD kvs k v))) else .bad
  | _, _ => .bad
  else .bad := by
  unfold putS; rw [sizeLine_eq] <;> rfl
@[simp] theorem putS_apc {Fk Fv : Rho → Res PyData} {e0 : Ent} : putS i Fk Fv (e0 :: ρ) = (Fv (e0 :: ρ)).out fun v ρ => if isDct ρ[i]? = true then (Fk ρ).out fun k ρ => match ρ[i]?, keyOf k with
  | some (.dct kvs), some k => if kvs.length < 16777216 then .nx (ρ.set i (.dct (putD kvs k v))) else .bad
  | _, _ => .bad
  else .bad := putS_ap
@[simp] theorem dixF_apc {Fk : Rho → Res PyData} {e0 : Ent} : dixF i Fk (e0 :: ρ) = if (dEnt (e0 :: ρ)[i]?).isSome = true then (Fk (e0 :: ρ)).bind fun k ρ => match dEnt ρ[i]?, keyOf k with
  | some kvs, some k => optR (valD kvs k) ρ
  | _, _ => .bad
  else .bad := by unfold dixF; exact id rfl
@[simp] theorem dgetF_apc {Fk Fz : Rho → Res PyData} {e0 : Ent} : dgetF i Fk Fz (e0 :: ρ) = if (dEnt (e0 :: ρ)[i]?).isSome = true then (Fk (e0 :: ρ)).bind fun k ρ => (Fz ρ).bind fun z ρ => match dEnt ρ[i]?, keyOf k with
  | some kvs, some k => .ok ((valD kvs k).getD z) ρ
  | _, _ => .bad
  else .bad := by unfold dgetF; exact id rfl
@[simp] theorem dinF_apc {b : Bool} {Fk : Rho → Res PyData} {e0 : Ent} : dinF b i Fk (e0 :: ρ) = (Fk (e0 :: ρ)).bind fun k ρ => match dEnt ρ[i]?, keyOf k with
  | some kvs, some k => .ok (.bool (b != (valD kvs k).isSome)) ρ
  | _, _ => .bad := by unfold dinF; exact id rfl
@[simp] theorem dsortF_apc {e0 : Ent} : dsortF i (e0 :: ρ) = match (dEnt (e0 :: ρ)[i]?).bind keysS with
  | some ks => if ks.length < 64 then .ok (.list ((sortS ks).map PyData.str)) (e0 :: ρ) else .bad
  | none => .bad := by unfold dsortF; exact id rfl
@[simp] theorem dispF_apc {kvs : List (Str × Str)} {e0 : Ent} : dispF kvs i (e0 :: ρ) = match (e0 :: ρ)[i]? with
  | some (.d d) => match keyOf d with
    | some k => optR (valD (mergeD [] (kvD kvs)) k) (e0 :: ρ)
    | none => .bad
  | _ => .bad := by unfold dispF; exact id rfl
@[simp] theorem newS_apc {L : Rho → Res (List PyData)} {e0 : Ent} : newS L i (e0 :: ρ) = (L (e0 :: ρ)).out fun ds ρ => if i < ρ.length then .nx (ρ.set i (.own ds)) else .bad := id rfl
@[simp] theorem listL_apc {e0 : Ent} : listL F (e0 :: ρ) = (F (e0 :: ρ)).bind fun d ρ => match d with
  | .list xs => .ok xs ρ
  | .tuple xs => .ok xs ρ
  | _ => .bad := by unfold listL; exact id rfl
@[simp] theorem cutL_apc {L U : Po} {e0 : Ent} : cutL F L U (e0 :: ρ) = (F (e0 :: ρ)).bind fun d ρ => (L ρ).bind fun l ρ => (U ρ).bind fun u ρ => match d with
  | .list xs => .ok (cutD xs l u) ρ
  | _ => .bad := by unfold cutL; exact id rfl
theorem catL_ap : catL F1 F2 ρ = (F1 ρ).bind fun d ρ => (F2 ρ).bind fun e ρ => match d, e with
  | .list xs, .list ys => if xs.length + ys.length ≤ 16777216 then .ok (xs ++ ys) ρ else .bad
  | _, _ => .bad := by unfold catL; rw [sizeLine_eq] <;> rfl
@[simp] theorem catL_apc {e0 : Ent} : catL F1 F2 (e0 :: ρ) = (F1 (e0 :: ρ)).bind fun d ρ => (F2 ρ).bind fun e ρ => match d, e with
  | .list xs, .list ys => if xs.length + ys.length ≤ 16777216 then .ok (xs ++ ys) ρ else .bad
  | _, _ => .bad := catL_ap
@[simp] theorem lsetS_apc {Fk Fv : Rho → Res PyData} {e0 : Ent} : lsetS i Fk Fv (e0 :: ρ) = (Fv (e0 :: ρ)).out fun v ρ => if isOwn ρ[i]? = true then (Fk ρ).out fun k ρ => match ρ[i]?, k with
  | some (.own xs), .int k => (match ixN xs.length k with
    | some j => .nx (ρ.set i (.own (xs.set j v)))
    | none => .bad)
  | _, _ => .bad
  else .bad := by unfold lsetS; exact id rfl
theorem bStr_i {k : Int} (h : k.natAbs.log2 < 1920) : bStr (.int k) = some (.str (toString k)) := if_pos h
@[simp] theorem m1F_apc {e0 : Ent} : m1F g2 F1 F2 (e0 :: ρ) = (F1 (e0 :: ρ)).bind fun d ρ => if isS d = true then (F2 ρ).bind fun e ρ => optR (g2 d e) ρ else .bad := id rfl
@[simp] theorem m0F_apc {e0 : Ent} : m0F g1 F (e0 :: ρ) = (F (e0 :: ρ)).bind fun d ρ => if isS d = true then optR (g1 d) ρ else .bad := id rfl
@[simp] theorem isS_s {a : Str} : isS (.str a) = true := id rfl
@[simp] theorem isaF_apc {T : String} {e0 : Ent} : isaF T F (e0 :: ρ) = (F (e0 :: ρ)).bind fun d ρ => optR (isaD T d) ρ := id rfl
@[simp] theorem isaD_l : isaD "list" (.list xs) = some (.bool true) := id rfl
@[simp] theorem isaD_t : isaD "tuple" (.tuple xs) = some (.bool true) := id rfl
@[simp] theorem dictS_apc {e0 : Ent} : dictS F i (e0 :: ρ) = (F (e0 :: ρ)).out fun d ρ => match (itemsOf d).bind pairsD with
  | some kvs => if i < ρ.length then .nx (ρ.set i (.dct (mergeD [] kvs))) else .bad
  | none => .bad := by unfold dictS; exact id rfl
@[simp] theorem itemsOf_l : itemsOf (.list xs) = some xs := id rfl
@[simp] theorem itemsOf_t : itemsOf (.tuple xs) = some xs := id rfl
@[simp] theorem badS_ap : badS ρ = .bad := id rfl
@[simp] theorem badF_ap : badF ρ = .bad := id rfl
@[simp] theorem chainF_apc {F3 : Rho → Res PyData} {h2 : PyData → PyData → Option PyData} {e0 : Ent} : chainF g2 h2 F1 F2 F3 (e0 :: ρ) = (F1 (e0 :: ρ)).bind fun d ρ => (F2 ρ).bind fun e ρ => (optR ((g2 d e).bind isB) ρ).bind fun k ρ =>
  if k = true then (F3 ρ).bind fun f ρ => optR (h2 e f) ρ else .ok (.bool false) ρ := id rfl
@[simp] theorem augS_apc {f : Int → Int → Int} {e0 : Ent} : augS i f F (e0 :: ρ) = match (e0 :: ρ)[i]? with
  | some (.d (.int a)) => (F (e0 :: ρ)).out fun d ρ1 => match d with
    | .int b => if i < ρ1.length then .nx (ρ1.set i (.d (.int (f a b)))) else .bad
    | _ => .bad
  | _ => .bad := by unfold augS; exact id rfl
@[simp] theorem splitL_apc {e0 : Ent} : splitL F1 F2 (e0 :: ρ) = (F1 (e0 :: ρ)).bind fun d ρ => if isS d = true then (F2 ρ).bind fun e ρ => match dSplit d e with
  | some (.list ds) => .ok ds ρ
  | _ => .bad
  else .bad := by unfold splitL; exact id rfl
@[simp] theorem isOwn_own : isOwn (some (.own xs)) = true := id rfl
theorem appendS_ap : appendS i F ρ = if isOwn ρ[i]? = true then (F ρ).out fun d ρ => match ρ[i]? with
  | some (.own xs) => if xs.length < 16777216 then .nx (ρ.set i (.own (xs ++ [d]))) else .bad
  | _ => .bad
  else .bad := by
  unfold appendS; rw [sizeLine_eq] <;> rfl
@[simp] theorem appendS_apc {e0 : Ent} : appendS i F (e0 :: ρ) = if isOwn (e0 :: ρ)[i]? = true then (F (e0 :: ρ)).out fun d ρ => match ρ[i]? with
  | some (.own xs) => if xs.length < 16777216 then .nx (ρ.set i (.own (xs ++ [d]))) else .bad
  | _ => .bad
  else .bad := appendS_ap
theorem raiseS_ap {nm : Str} : raiseS nm ρ = .ex ⟨nm, []⟩ ρ := id rfl
@[simp] theorem raiseS_apc {nm : Str} {e0 : Ent} : raiseS nm (e0 :: ρ) = .ex ⟨nm, []⟩ (e0 :: ρ) := raiseS_ap
theorem forS_ap {Fi : Rho → Res (List PyData)} : forS Fi T S1 ρ = (Fi ρ).out fun ds ρ => loopS T S1 ds ρ := id rfl
@[simp] theorem forS_apc {Fi : Rho → Res (List PyData)} {e0 : Ent} : forS Fi T S1 (e0 :: ρ) = (Fi (e0 :: ρ)).out fun ds ρ => loopS T S1 ds ρ := forS_ap
@[simp] theorem loopS_nil : loopS T S1 [] ρ = .nx ρ := id rfl
theorem itemsF_ap : itemsF F ρ = (F ρ).bind fun d ρ => match d with
  | .list ds => .ok ds ρ
  | _ => .bad := id rfl
@[simp] theorem itemsF_apc {e0 : Ent} : itemsF F (e0 :: ρ) = (F (e0 :: ρ)).bind fun d ρ => match d with
  | .list ds => .ok ds ρ
  | _ => .bad := itemsF_ap
theorem revF_ap : revF F ρ = (F ρ).bind fun d ρ => match d with
  | .list ds => .ok ds.reverse ρ
  | .tuple ds => .ok ds.reverse ρ
  | _ => .bad := id rfl
@[simp] theorem revF_apc {e0 : Ent} : revF F (e0 :: ρ) = (F (e0 :: ρ)).bind fun d ρ => match d with
  | .list ds => .ok ds.reverse ρ
  | .tuple ds => .ok ds.reverse ρ
  | _ => .bad := revF_ap
@[simp] theorem range1F_apc {e0 : Ent} : range1F A (e0 :: ρ) = (A (e0 :: ρ)).bind rng1 := id rfl
@[simp] theorem range2F_apc {e0 : Ent} : range2F A (e0 :: ρ) = (A (e0 :: ρ)).bind rng2 := id rfl
theorem rng1_ok {j : Int} (h0 : -1000000 ≤ j) (h1 : j ≤ 1000000) : rng1 [.int j] ρ = .ok (rangeL 0 j.toNat) ρ := by
  exact iteC_pos (by constructor <;> omega)
theorem rng1_nat {n : Nat} (h : n ≤ 1000000) : rng1 [.int (n : Int)] ρ = .ok (rangeL 0 n) ρ := by
  rw [rng1_ok (by omega) (by omega)]
  simp
theorem rng2_ok {i j : Int} (h0 : -1000000 ≤ i ∧ i ≤ 1000000) (h1 : -1000000 ≤ j ∧ j ≤ 1000000) : rng2 [.int i, .int j] ρ = .ok (rangeL i (j - i).toNat) ρ := by
  exact iteC_pos (by refine ⟨?_, ?_, ?_, ?_⟩ <;> omega)
@[simp] theorem outFR_rt : outFR (.rt x) = .ok x := id rfl
@[simp] theorem outFR_nx : outFR (.nx ρ) = .ok .none := id rfl
@[simp] theorem outFR_ex {e : Exn} : outFR (.ex e ρ) = .ex e := id rfl
@[simp] theorem dAdd_i {a b : Int} : dAdd (.int a) (.int b) = some (.int (a + b)) := id rfl
@[simp] theorem dSub_i {a b : Int} : dSub (.int a) (.int b) = some (.int (a - b)) := id rfl
theorem dMod_i {a b : Int} : dMod (.int a) (.int b) = if b ≠ 0 then some (.int (a.fmod b)) else none := id rfl
theorem dPow_ok {a b : Int} (h : 0 ≤ b ∧ b ≤ 1000000 ∧ a.natAbs < 2 ^ 64) : dPow (.int a) (.int b) = some (.int (a ^ b.toNat)) := iteC_pos h
@[simp] theorem dNeg_i {a : Int} : dNeg (.int a) = some (.int (-a)) := id rfl
@[simp] theorem dLt_i {a b : Int} : dLt (.int a) (.int b) = some (.bool (decide (a < b))) := id rfl
@[simp] theorem dLe_i {a b : Int} : dLe (.int a) (.int b) = some (.bool (decide (a ≤ b))) := id rfl
@[simp] theorem dGt_i {a b : Int} : dGt (.int a) (.int b) = some (.bool (decide (b < a))) := id rfl
@[simp] theorem dGe_i {a b : Int} : dGe (.int a) (.int b) = some (.bool (decide (b ≤ a))) := id rfl
@[simp] theorem dEq_i {a b : Int} : dEq (.int a) (.int b) = some (.bool (a == b)) := id rfl
@[simp] theorem dNe_i {a b : Int} : dNe (.int a) (.int b) = some (.bool (!(a == b))) := id rfl
@[simp] theorem dEq_n : dEq .none .none = some (.bool true) := id rfl
@[simp] theorem dNe_n : dNe .none .none = some (.bool false) := id rfl
@[simp] theorem dIsN2_n : dIsN2 x .none = some (.bool (isNone x)) := id rfl
@[simp] theorem dNotN2_n : dNotN2 x .none = some (.bool (!isNone x)) := id rfl
@[simp] theorem isNone_n : isNone .none = true := id rfl
@[simp] theorem isNone_t : isNone (.tuple ds) = false := id rfl
@[simp] theorem isNone_i {a : Int} : isNone (.int a) = false := id rfl
@[simp] theorem dRev_l : dRev (.list xs) = some (.list xs.reverse) := id rfl
@[simp] theorem bLen_l : bLen (.list xs) = some (.int xs.length) := id rfl
@[simp] theorem bLen_t : bLen (.tuple xs) = some (.int xs.length) := id rfl
@[simp] theorem bMax_i {a b : Int} : bMax (.int a) (.int b) = some (.int (if b > a then b else a)) := id rfl
@[simp] theorem bMin_i {a b : Int} : bMin (.int a) (.int b) = some (.int (if b < a then b else a)) := id rfl
@[simp] theorem bInt_b {b : Bool} : bInt (.bool b) = some (.int (if b then 1 else 0)) := id rfl
@[simp] theorem bInt_i {a : Int} : bInt (.int a) = some (.int a) := id rfl
@[simp] theorem bGcd_i {a b : Int} : bGcd (.int a) (.int b) = some (.int ((Nat.gcd a.natAbs b.natAbs : Nat) : Int)) := id rfl
/-- an int of fewer than 400000 bits; one of fewer than 9000 -/
def Sm (a : Int) : Prop := a.natAbs.log2 < 400000
def Sd (a : Int) : Prop := a ≠ 0 ∧ a.natAbs.log2 < 9000
theorem dMul_ok {a b : Int} (ha : Sm a) (hb : Sm b) : dMul (.int a) (.int b) = some (.int (a * b)) := by
  refine iteC_pos ?_
  unfold Sm at ha hb
  omega
theorem dDiv_ok {a b : Int} (hb : Sd b) : dDiv (.int a) (.int b) = some (.int (a.fdiv b)) := by
  exact iteC_pos hb
theorem dMod_ok {a b : Int} (hb : b ≠ 0) : dMod (.int a) (.int b) = some (.int (a.fmod b)) := by
  rw [dMod_i, if_pos hb]
/-- fewer than n bits -/
def Bt (n : Nat) (a : Int) : Prop := a.natAbs < 2 ^ n
theorem Bt.log {n : Nat} {a : Int} (h : Bt n a) (h0 : 0 < n) : a.natAbs.log2 < n := PySem.Flt.log2_lt_of h0 h
theorem Bt.sm {n : Nat} {a : Int} (h : Bt n a) (hn : n ≤ 400000) : Sm a := by
  unfold Sm
  have : Bt (n + 1) a := Nat.lt_of_lt_of_le h (Nat.pow_le_pow_right (by decide) (Nat.le_succ n))
  by_cases h0 : 0 < n
  · exact Nat.lt_of_lt_of_le (h.log h0) hn
  · have e : n = 0 := by omega
    subst e
    unfold Bt at h
    have : a.natAbs = 0 := by simpa using h
    rw [this]
    decide
theorem Bt.sd {n : Nat} {a : Int} (h : Bt n a) (ha : a ≠ 0) (h0 : 0 < n) (hn : n ≤ 9000) : Sd a := ⟨ha, Nat.lt_of_lt_of_le (h.log h0) hn⟩
theorem Bt.mono {n k : Nat} {a : Int} (h : Bt n a) (hn : n ≤ k) : Bt k a := Nat.lt_of_lt_of_le h (Nat.pow_le_pow_right (by decide) hn)
theorem Bt.mul {n k : Nat} {a b : Int} (h : Bt n a) (q : Bt k b) : Bt (n + k) (a * b) := wide_lt h q
theorem Bt.add {n : Nat} {a b : Int} (h : Bt n a) (q : Bt n b) : Bt (n + 1) (a + b) := by
  unfold Bt at *
  rw [Nat.pow_succ]
  omega
theorem Bt.neg {n : Nat} {a : Int} (h : Bt n a) : Bt n (-a) := by
  unfold Bt at *
  omega
theorem Bt.sub {n : Nat} {a b : Int} (h : Bt n a) (q : Bt n b) : Bt (n + 1) (a - b) := by
  unfold Bt at *
  rw [Nat.pow_succ]
  omega
theorem Bt.le {n : Nat} {a b : Int} (h : Bt n b) (q : a.natAbs ≤ b.natAbs) : Bt n a := Nat.lt_of_le_of_lt q h
theorem ixN_nat (h : i < n) : ixN n (i : Int) = some i := by
  unfold ixN
  rw [if_pos (by omega), if_pos (by omega)]; simp
@[simp] theorem dIx_l0 : dIx (.list (x :: xs)) (.int 0) = some x := by
  show atI (x :: xs) ((0 : Nat) : Int) = _
  exact atI_nat rfl
@[simp] theorem dIx_t0 : dIx (.tuple (x :: xs)) (.int 0) = some x := by
  show atI (x :: xs) ((0 : Nat) : Int) = _
  exact atI_nat rfl
theorem dIx_l (h : xs[i]? = some x) : dIx (.list xs) (.int (i : Int)) = some x := atI_nat h
theorem dIx_t (h : xs[i]? = some x) : dIx (.tuple xs) (.int (i : Int)) = some x := atI_nat h
@[simp] theorem dIx_t1 : dIx (.tuple (x :: y :: xs)) (.int 1) = some y := dIx_t (i := 1) rfl
@[simp] theorem dIx_t2 : dIx (.tuple (x :: y :: z :: xs)) (.int 2) = some z := dIx_t (i := 2) rfl
@[simp] theorem dIx_l1 : dIx (.list (x :: y :: xs)) (.int 1) = some y := dIx_l (i := 1) rfl
@[simp] theorem dIx_l2 : dIx (.list (x :: y :: z :: xs)) (.int 2) = some z := dIx_l (i := 2) rfl
@[simp] theorem dIx_l3 {u : PyData} : dIx (.list (x :: y :: z :: u :: xs)) (.int 3) = some u := dIx_l (i := 3) rfl
@[simp] theorem dIx_l4 {u v : PyData} : dIx (.list (x :: y :: z :: u :: v :: xs)) (.int 4) = some v := dIx_l (i := 4) rfl
@[simp] theorem dIx_l5 {u v w : PyData} : dIx (.list (x :: y :: z :: u :: v :: w :: xs)) (.int 5) = some w := dIx_l (i := 5) rfl
@[simp] theorem dIx_l6 {u v w q : PyData} : dIx (.list (x :: y :: z :: u :: v :: w :: q :: xs)) (.int 6) = some q := dIx_l (i := 6) rfl
theorem loopS_cons {d : PyData} {ρ1 : Rho} (h : T d ρ = some ρ1) : loopS T S1 (d :: ds) ρ = match S1 ρ1 with
      | .nx ρ2 => loopS T S1 ds ρ2
      | .ct ρ2 => loopS T S1 ds ρ2
      | .bk ρ2 => .nx ρ2
      | o => o := by
  show (match T d ρ with
    | none => _
    | some ρ1 => _) = _
  rw [h] <;> rfl
/-- a loop by an invariant over the environments -/
theorem loopS_inv (I : Nat → Rho → Prop) (ds : List PyData) (h : ∀ (k : Nat) (d : PyData) (ρ : Rho), ds[k]? = some d → I k ρ → ∃ ρ1 ρ2, T d ρ = some ρ1 ∧ S1 ρ1 = .nx ρ2 ∧ I (k + 1) ρ2) :
    ∀ ρ, I 0 ρ → ∃ ρ', loopS T S1 ds ρ = .nx ρ' ∧ I ds.length ρ' := by
  induction ds generalizing I with
  | nil => intro ρ h0; exact ⟨ρ, rfl, h0⟩
  | cons d ds ih =>
    intro ρ h0
    obtain ⟨ρ1, ρ2, h1, h2, h3⟩ := h 0 d ρ rfl h0
    obtain ⟨ρ', e, q⟩ := ih (fun k => I (k + 1)) (fun k d ρ hd => h (k + 1) d ρ (by simpa using hd)) ρ2 h3
    refine ⟨ρ', ?_, q⟩
    rw [loopS_cons h1, h2]
    exact e
theorem rangeL_get {a : Int} {n k : Nat} {d : PyData} (h : (rangeL a n)[k]? = some d) : d = .int (a + k) ∧ k < n := by
  unfold rangeL at h
  rw [List.getElem?_map] at h
  have hk : k < n := by
    apply Classical.byContradiction
    intro z
    rw [List.getElem?_eq_none (by simp; omega)] at h
    cases h
  rw [List.getElem?_range hk] at h
  cases h
  exact ⟨rfl, hk⟩
@[simp] theorem rangeL_len {a : Int} {n : Nat} : (rangeL a n).length = n := by unfold rangeL; simp
end
end DL

/-! The laws' own helpers: a cell of the script, drawn digits, a fraction in lowest terms. -/
namespace DL
open PySem PySem.Spec PyProof.Rows L2 RT
noncomputable def lS_cell : Rho → Out := (seqS (ifS (testF (binF dLt (varF 1) (appF (app1 bLen) (consA (varF 0) nilA)))) (retS (binF dIx (varF 0) (varF 1))) nxS) (retS (cF (.int 0))))
noncomputable def lB_cell (a0 a1 : PyData) : FR := outFR (lS_cell [.d a0, .d a1])
noncomputable def lm_cell : Fn := fn2 lB_cell
noncomputable def lS_draw : Rho → Out := (seqS (asgS (callF lm_cell (consA (varF 0) (consA (varF 1) nilA))) (nameT 3)) (seqS (ifS (testF (binF dLt (varF 3) (cF (.int 0)))) (asgS (unF dNeg (varF 3)) (nameT 3)) nxS) (seqS (ownS nilA 4) (seqS (ifS (testF (binF dGe (varF 3) (binF dPow (cF (.int 10)) (cF (.int 18))))) (seqS (asgS (binF dSub (varF 3) (binF dPow (cF (.int 10)) (cF (.int 18)))) (nameT 3)) (seqS (forS (itemsQ (varF 2)) (nameT 5) (seqS (appendS 4 (binF dMod (varF 3) (varF 5))) (asgS (binF dDiv (varF 3) (varF 5)) (nameT 3)))) (retS (varF 4)))) nxS) (seqS (asgS (binF dMod (binF dAdd (binF dAdd (varF 3) (cF (.int 1))) (binF dMul (cF (.int 31)) (varF 1))) (cF (.int 2147483647))) (nameT 6)) (seqS (forS (range1F (consA (appF (app1 bLen) (consA (varF 2) nilA)) nilA)) (nameT 7) (seqS (asgS (binF dMod (binF dAdd (binF dAdd (binF dMul (varF 6) (cF (.int 48271))) (cF (.int 11))) (varF 7)) (cF (.int 2147483647))) (nameT 6)) (seqS (asgS (binF dMod (binF dAdd (binF dMul (varF 6) (cF (.int 69621))) (cF (.int 3))) (cF (.int 2147483647))) (nameT 6)) (appendS 4 (binF dMod (binF dDiv (varF 6) (cF (.int 7))) (binF dIx (varF 2) (varF 7))))))) (retS (varF 4))))))))
noncomputable def lB_draw (a0 a1 a2 : PyData) : FR := outFR (lS_draw [.d a0, .d a1, .d a2, .un, .un, .un, .un, .un])
noncomputable def lm_draw : Fn := fn3 lB_draw
noncomputable def lS_f : Rho → Out := (seqS (ifS (testF (binF dLt (varF 1) (cF (.int 0)))) (seqS (asgS (unF dNeg (varF 0)) (nameT 0)) (asgS (unF dNeg (varF 1)) (nameT 1))) nxS) (seqS (asgS (appF (app2 bMax) (consA (varF 0) (consA (unF dNeg (varF 0)) nilA))) (nameT 2)) (seqS (asgS (varF 1) (nameT 3)) (seqS (whileS (testF (binF dNe (varF 3) (cF (.int 0)))) (parS (consA (varF 3) (consA (binF dMod (varF 2) (varF 3)) nilA)) 2 3)) (retS (tupF (consA (binF dDiv (varF 0) (varF 2)) (consA (binF dDiv (varF 1) (varF 2)) nilA))))))))
noncomputable def lB_f (a0 a1 : PyData) : FR := outFR (lS_f [.d a0, .d a1, .un, .un])
noncomputable def lm_f : Fn := fn2 lB_f
abbrev iL (ns : List Int) : PyData := .list (ns.map PyData.int)
/-- digits below their sizes -/
def Dig : List Int → List Int → Prop
  | [], [] => True
  | d :: ds, z :: zs => (0 ≤ d ∧ d < z) ∧ Dig ds zs
  | _, _ => False
theorem Dig.snoc : ∀ {ds zs : List Int} {d z : Int}, Dig ds zs → 0 ≤ d → d < z → Dig (ds ++ [d]) (zs ++ [z])
  | [], [], _, _, _, h1, h2 => ⟨⟨h1, h2⟩, trivial⟩
  | _ :: _, _ :: _, _, _, h, h1, h2 => ⟨h.1, Dig.snoc h.2 h1 h2⟩
  | [], _ :: _, _, _, h, _, _ => h.elim
  | _ :: _, [], _, _, h, _, _ => h.elim
theorem Dig.app : ∀ {ds zs es ys : List Int}, Dig ds zs → Dig es ys → Dig (ds ++ es) (zs ++ ys)
  | [], [], _, _, _, h => h
  | _ :: _, _ :: _, _, _, h, q => ⟨h.1, Dig.app h.2 q⟩
  | [], _ :: _, _, _, h, _ => h.elim
  | _ :: _, [], _, _, h, _ => h.elim
theorem cell_ok (ns : List Int) (k : Nat) : ∃ c : Int, lB_cell (iL ns) (.int k) = .ok (.int c) := by
  by_cases h : k < ns.length
  · have e : (ns.map PyData.int)[k]? = some (.int ns[k]) := by simp [h]
    refine ⟨ns[k], ?_⟩
    simp [lB_cell, lS_cell, iL, h, dIx_l e]
  · refine ⟨0, ?_⟩
    simp [lB_cell, lS_cell, iL, h]
theorem fmod_digit {c z : Int} (hz : 0 < z) : 0 ≤ c.fmod z ∧ c.fmod z < z := by
  rw [Int.fmod_eq_emod_of_nonneg c (by omega)]
  exact ⟨Int.emod_nonneg c (by omega), Int.emod_lt_of_pos c hz⟩
theorem loop1 (e0 e1 e2 e6 e7 : Ent) : ∀ (zs acc : List Int) (c : Int) (e5 : Ent), (∀ z ∈ zs, 0 < z ∧ z < 1073741824) → acc.length + zs.length ≤ 1000 →
    ∃ ds e5' c', loopS (nameT 5) (seqS (appendS 4 (binF dMod (varF 3) (varF 5))) (asgS (binF dDiv (varF 3) (varF 5)) (nameT 3))) (zs.map PyData.int) [e0, e1, e2, .d (.int c), .own (acc.map PyData.int), e5, e6, e7] =
      .nx [e0, e1, e2, .d (.int c'), .own ((acc ++ ds).map PyData.int), e5', e6, e7] ∧ Dig ds zs
  | [], acc, c, e5, _, _ => ⟨[], e5, c, by simp, trivial⟩
  | z :: zs, acc, c, e5, hz, hl => by
    obtain ⟨hz1, hz2⟩ := hz z List.mem_cons_self
    have hl' : acc.length + (zs.length + 1) ≤ 1000 := hl
    obtain ⟨ds, e5', c', h1, h2⟩ := loop1 e0 e1 e2 e6 e7 zs (acc ++ [c.fmod z]) (c.fdiv z) (.d (.int z)) (fun y hy => hz y (List.mem_cons_of_mem _ hy)) (by simp; omega)
    refine ⟨c.fmod z :: ds, e5', c', ?_, ⟨fmod_digit hz1, h2⟩⟩
    have sd : Sd z := Bt.sd (n := 30) (by unfold Bt; omega) (by omega) (by decide) (by decide)
    have zn : z ≠ 0 := by omega
    have lt : acc.length < 16777216 := by omega
    rw [List.map_cons, loopS_cons (ρ1 := [e0, e1, e2, .d (.int c), .own (acc.map PyData.int), .d (.int z), e6, e7]) (by simp)]
    simp [dMod_ok, dDiv_ok, sd, zn, lt]
    simpa using h1
theorem Dig.len : ∀ {ds zs : List Int}, Dig ds zs → ds.length = zs.length
  | [], [], _ => rfl
  | _ :: _, _ :: _, h => by simp [Dig.len h.2]
  | [], _ :: _, h => h.elim
  | _ :: _, [], h => h.elim
theorem loop2 (M : Int) (hM : 0 < M ∧ M < 2147483648) (e0 e1 e3 e5 : Ent) (zs : List Int) (hz : ∀ z ∈ zs, 0 < z ∧ z < 1073741824) (hl : zs.length ≤ 1000) (s7 : Int) (h0 : 0 ≤ s7 ∧ s7 < M) (e7 : Ent) :
    ∃ ρ', loopS (nameT 7) (seqS (asgS (binF dMod (binF dAdd (binF dAdd (binF dMul (varF 6) (cF (.int 48271))) (cF (.int 11))) (varF 7)) (cF (.int M))) (nameT 6)) (seqS (asgS (binF dMod (binF dAdd (binF dMul (varF 6) (cF (.int 69621))) (cF (.int 3))) (cF (.int M))) (nameT 6)) (appendS 4 (binF dMod (binF dDiv (varF 6) (cF (.int 7))) (binF dIx (varF 2) (varF 7))))))
      (rangeL 0 zs.length) [e0, e1, .d (iL zs), e3, .own [], e5, .d (.int s7), e7] = .nx ρ' ∧ ∃ (ds : List Int) (s8 : Int) (e8 : Ent), ρ' = [e0, e1, .d (iL zs), e3, .own (ds.map PyData.int), e5, .d (.int s8), e8] ∧ Dig ds zs := by
  have L := loopS_inv (T := nameT 7) (S1 := (seqS (asgS (binF dMod (binF dAdd (binF dAdd (binF dMul (varF 6) (cF (.int 48271))) (cF (.int 11))) (varF 7)) (cF (.int M))) (nameT 6)) (seqS (asgS (binF dMod (binF dAdd (binF dMul (varF 6) (cF (.int 69621))) (cF (.int 3))) (cF (.int M))) (nameT 6)) (appendS 4 (binF dMod (binF dDiv (varF 6) (cF (.int 7))) (binF dIx (varF 2) (varF 7)))))))
    (fun k ρ => ∃ (ds : List Int) (s8 : Int) (e8 : Ent), ρ = [e0, e1, .d (iL zs), e3, .own (ds.map PyData.int), e5, .d (.int s8), e8] ∧ (0 ≤ s8 ∧ s8 < M) ∧ Dig ds (zs.take k)) (rangeL 0 zs.length) (fun k d ρ hd ⟨ds, s8, e8, hρ, hs, hg⟩ => ?_) [e0, e1, .d (iL zs), e3, .own [], e5, .d (.int s7), e7] ⟨[], s7, e7, rfl, h0, trivial⟩
  · obtain ⟨ρ', h1, ds, s8, e8, h2, _, h4⟩ := L
    rw [rangeL_len, List.take_length] at h4
    exact ⟨ρ', h1, ds, s8, e8, h2, h4⟩
  · obtain ⟨rfl, hk⟩ := rangeL_get hd
    subst hρ
    have sm1 : Sm s8 := Bt.sm (n := 31) (by unfold Bt; omega) (by decide)
    have sm2 : ∀ a : Int, Sm (a.fmod M) := fun a => by
      have := fmod_digit (c := a) (z := M) hM.1
      exact Bt.sm (n := 31) (by unfold Bt; omega) (by decide)
    have c1 : Sm 48271 := Bt.sm (n := 31) (by unfold Bt; decide) (by decide)
    have c2 : Sm 69621 := Bt.sm (n := 31) (by unfold Bt; decide) (by decide)
    have mn : M ≠ 0 := by omega
    have c7 : Sd 7 := Bt.sd (n := 31) (by unfold Bt; decide) (by decide) (by decide) (by decide)
    have ez : (zs.map PyData.int)[k]? = some (.int zs[k]) := by simp [hk]
    obtain ⟨hz1, hz2⟩ := hz zs[k] (List.getElem_mem hk)
    have zn : zs[k] ≠ 0 := by omega
    have hlen : ds.length < 16777216 := by
      rw [hg.len, List.length_take]
      omega
    have q := fmod_digit (c := ((s8 * 48271 + 11 + k).fmod M * 69621 + 3).fmod M |>.fdiv 7) hz1
    refine ⟨[e0, e1, .d (iL zs), e3, .own (ds.map PyData.int), e5, .d (.int s8), .d (.int (k : Int))],
      [e0, e1, .d (iL zs), e3, .own ((ds ++ [((((s8 * 48271 + 11 + k).fmod M * 69621 + 3).fmod M).fdiv 7).fmod zs[k]]).map PyData.int), e5, .d (.int (((s8 * 48271 + 11 + k).fmod M * 69621 + 3).fmod M)), .d (.int (k : Int))], by simp, ?_, _, _, _, rfl, fmod_digit hM.1, ?_⟩
    · simp [dMod_ok, dMul_ok, dDiv_ok, sm1, sm2, c1, c2, c7, dIx_l ez, zn, hlen, mn]
    · rw [List.take_succ_eq_append_getElem hk]
      exact hg.snoc q.1 q.2
theorem e18 : (10 : Int) ^ 18 = 1000000000000000000 := by decide +kernel
def e18I : Int := 1000000000000000000
theorem p10 : dPow (.int 10) (.int 18) = some (.int e18I) := by
  have : (10 : Int) ^ (18 : Int).toNat = e18I := e18
  rw [dPow_ok (by decide), this]
noncomputable def drawTail (M : Int) : Rho → Out := (seqS (ownS nilA 4) (seqS (ifS (testF (binF dGe (varF 3) (binF dPow (cF (.int 10)) (cF (.int 18))))) (seqS (asgS (binF dSub (varF 3) (binF dPow (cF (.int 10)) (cF (.int 18)))) (nameT 3)) (seqS (forS (itemsQ (varF 2)) (nameT 5) (seqS (appendS 4 (binF dMod (varF 3) (varF 5))) (asgS (binF dDiv (varF 3) (varF 5)) (nameT 3)))) (retS (varF 4)))) nxS) (seqS (asgS (binF dMod (binF dAdd (binF dAdd (varF 3) (cF (.int 1))) (binF dMul (cF (.int 31)) (varF 1))) (cF (.int M))) (nameT 6)) (seqS (forS (range1F (consA (appF (app1 bLen) (consA (varF 2) nilA)) nilA)) (nameT 7) (seqS (asgS (binF dMod (binF dAdd (binF dAdd (binF dMul (varF 6) (cF (.int 48271))) (cF (.int 11))) (varF 7)) (cF (.int M))) (nameT 6)) (seqS (asgS (binF dMod (binF dAdd (binF dMul (varF 6) (cF (.int 69621))) (cF (.int 3))) (cF (.int M))) (nameT 6)) (appendS 4 (binF dMod (binF dDiv (varF 6) (cF (.int 7))) (binF dIx (varF 2) (varF 7))))))) (retS (varF 4))))))
theorem lS_draw_eq : lS_draw = seqS (asgS (callF lm_cell (consA (varF 0) (consA (varF 1) nilA))) (nameT 3)) (seqS (ifS (testF (binF dLt (varF 3) (cF (.int 0)))) (asgS (unF dNeg (varF 3)) (nameT 3)) nxS) (drawTail 2147483647)) := rfl
section
variable (M : Int) (hM : 0 < M ∧ M < 2147483648) (ns : List Int) (k : Nat) (hk : k < 1000) (zs : List Int) (hz : ∀ z ∈ zs, 0 < z ∧ z < 1073741824) (hl : zs.length ≤ 1000) (c : Int)
include hz hl
theorem draw_a (h2 : e18I ≤ c) : ∃ ds : List Int, outFR (drawTail M [.d (iL ns), .d (.int k), .d (iL zs), .d (.int c), .un, .un, .un, .un]) = .ok (iL ds) ∧ Dig ds zs := by
  obtain ⟨ds, e5', c', h3, h4⟩ := loop1 (.d (iL ns)) (.d (.int k)) (.d (iL zs)) .un .un zs [] (c - e18I) .un hz (by simpa using hl)
  refine ⟨ds, ?_, h4⟩
  simp only [List.map_nil] at h3
  simp [drawTail, p10, h2, h3]
include hk hM
theorem draw_b (h2 : ¬ e18I ≤ c) : ∃ ds : List Int, outFR (drawTail M [.d (iL ns), .d (.int k), .d (iL zs), .d (.int c), .un, .un, .un, .un]) = .ok (iL ds) ∧ Dig ds zs := by
  have mn : M ≠ 0 := by omega
  have sk : Sm (k : Int) := Bt.sm (n := 31) (by unfold Bt; omega) (by decide)
  have c31 : Sm 31 := Bt.sm (n := 31) (by unfold Bt; decide) (by decide)
  obtain ⟨ρ', h3, ds, s8, e8, h4, h5⟩ := loop2 M hM (.d (iL ns)) (.d (.int k)) (.d (.int c)) .un zs hz hl ((c + 1 + 31 * k).fmod M) (fmod_digit hM.1) .un
  subst h4
  refine ⟨ds, ?_, h5⟩
  have hr : rng1 [.int ((zs.length : Nat) : Int)] = fun ρ => .ok (rangeL 0 zs.length) ρ := by
    funext ρ
    exact rng1_nat (by omega)
  simp [drawTail, p10, h2, dMul_ok, sk, c31, dMod_ok, iL, hr, mn] at h3 ⊢
  simp [h3]
omit hM in
theorem draw_ok : ∃ ds : List Int, lB_draw (iL ns) (.int k) (iL zs) = .ok (iL ds) ∧ Dig ds zs := by
  obtain ⟨c, hc⟩ := cell_ok ns k
  have hc2 : lm_cell [iL ns, .int k] = .ok (.int c) := hc
  have main : ∀ c : Int, ∃ ds : List Int, outFR (drawTail 2147483647 [.d (iL ns), .d (.int k), .d (iL zs), .d (.int c), .un, .un, .un, .un]) = .ok (iL ds) ∧ Dig ds zs := fun c => by
    by_cases h2 : e18I ≤ c
    · exact draw_a _ ns k zs hz hl c h2
    · exact draw_b _ (by decide) ns k hk zs hz hl c h2
  by_cases h1 : c < 0
  · obtain ⟨ds, e, q⟩ := main (-c)
    refine ⟨ds, ?_, q⟩
    rw [← e]
    simp [lB_draw, lS_draw_eq, hc2, h1]
  · obtain ⟨ds, e, q⟩ := main c
    refine ⟨ds, ?_, q⟩
    rw [← e]
    simp [lB_draw, lS_draw_eq, hc2, h1]
end
end DL

/-! Fractions in lowest terms. -/
namespace DL
open PySem PySem.Spec PyProof.Rows L2 RT
/-- t / b in lowest terms, the bottom above 0 -/
def nrm (t b : Int) : Int × Int := if b < 0 then (-t / (Nat.gcd t.natAbs b.natAbs : Int), -b / (Nat.gcd t.natAbs b.natAbs : Int)) else (t / (Nat.gcd t.natAbs b.natAbs : Int), b / (Nat.gcd t.natAbs b.natAbs : Int))
abbrev N (p : Int × Int) : PyData := .tuple [.int p.1, .int p.2]
theorem N_shaped (p : Int × Int) : SeqAt.shaped (N p) = true := id rfl
@[simp] theorem nn_shaped (a b : Int) : SeqAt.shaped (.tuple [.int a, .int b]) = true := id rfl
@[simp] theorem none_shaped : SeqAt.shaped .none = true := id rfl
@[simp] theorem eqv_nn (a b c d : Int) : PyData.eqv (.tuple [.int a, .int b]) (.tuple [.int c, .int d]) = (a == c && b == d) := by
  simp [PyData.eqv, PyData.eqvAll]
@[simp] theorem dNe_nn (a b c d : Int) : dNe (.tuple [.int a, .int b]) (.tuple [.int c, .int d]) = some (.bool (!(a == c && b == d))) := by
  simp [dNe]
@[simp] theorem dEq_nn (a b c d : Int) : dEq (.tuple [.int a, .int b]) (.tuple [.int c, .int d]) = some (.bool (a == c && b == d)) := by
  simp [dEq]
@[simp] theorem dNe_tn (a b : Int) : dNe (.tuple [.int a, .int b]) .none = some (.bool true) := id rfl
@[simp] theorem dNe_nt (a b : Int) : dNe .none (.tuple [.int a, .int b]) = some (.bool true) := id rfl
@[simp] theorem dEq_tn (a b : Int) : dEq (.tuple [.int a, .int b]) .none = some (.bool false) := id rfl
@[simp] theorem dEq_nt (a b : Int) : dEq .none (.tuple [.int a, .int b]) = some (.bool false) := id rfl
theorem gcd_pos {t b : Int} (hb : b ≠ 0) : 0 < (Nat.gcd t.natAbs b.natAbs : Int) := by
  have : 0 < Nat.gcd t.natAbs b.natAbs := Nat.gcd_pos_of_pos_right _ (by omega)
  omega
theorem gcd_dvd_t {t b : Int} : (Nat.gcd t.natAbs b.natAbs : Int) ∣ t := Int.natAbs_dvd_natAbs.mp (by simpa using Nat.gcd_dvd_left t.natAbs b.natAbs)
theorem gcd_dvd_b {t b : Int} : (Nat.gcd t.natAbs b.natAbs : Int) ∣ b := Int.natAbs_dvd_natAbs.mp (by simpa using Nat.gcd_dvd_right t.natAbs b.natAbs)
theorem gcd_bt {n : Nat} {t b : Int} (hb : b ≠ 0) (h : Bt n b) : Bt n (Nat.gcd t.natAbs b.natAbs : Int) := by
  refine h.le ?_
  have : Nat.gcd t.natAbs b.natAbs ≤ b.natAbs := Nat.le_of_dvd (by omega) (Nat.gcd_dvd_right _ _)
  simpa using this
/-- exact division -/
theorem fdiv_exact {x g : Int} (hg : 0 < g) (h : g ∣ x) : x.fdiv g = x / g := Int.fdiv_eq_ediv_of_nonneg x (by omega)
theorem fdiv_exact_neg {x g : Int} (hg : 0 < g) (h : g ∣ x) : x.fdiv (-g) = -x / g := by
  obtain ⟨y, rfl⟩ := h
  have e : -(g * y) = g * (-y) := by rw [Int.mul_neg]
  rw [e, Int.mul_ediv_cancel_left _ (by omega)]
  have : g * y = (-g) * (-y) := by rw [Int.neg_mul_neg]
  rw [this, Int.mul_fdiv_cancel_left _ (by omega)]
/-- the loop of Euclid -/
theorem euclid_loop (e0 e1 : Ent) : ∀ (n : Nat) (m : Nat), whileS (testF (binF dNe (varF 3) (cF (.int 0)))) (parS (consA (varF 3) (consA (binF dMod (varF 2) (varF 3)) nilA)) 2 3) [e0, e1, .d (.int (m : Int)), .d (.int (n : Int))] =
    .nx [e0, e1, .d (.int (Nat.gcd n m : Int)), .d (.int 0)] := by
  intro n
  induction n using Nat.strongRecOn with
  | _ n ih =>
    intro m
    rw [whileS_eq]
    by_cases h : n = 0
    · subst h
      simp
    · have h' : (n : Int) ≠ 0 := by omega
      have e : (m : Int).fmod (n : Int) = ((m % n : Nat) : Int) := by
        rw [Int.fmod_eq_emod_of_nonneg _ (by omega)]
        simp
      simp [h, dMod_ok, h', e]
      have q := ih (m % n) (Nat.mod_lt _ (by omega)) n
      rw [Nat.gcd_rec n m]
      simpa using q
theorem lawf_ok {t b : Int} (hb : b ≠ 0) {n : Nat} (h0 : 0 < n) (hn : n ≤ 9000) (h : Bt n b) : lB_f (.int t) (.int b) = .ok (N (nrm t b)) := by
  have g0 := gcd_pos (t := t) hb
  have sg : Sd (Nat.gcd t.natAbs b.natAbs : Int) := (gcd_bt hb h).sd (by omega) h0 hn
  unfold nrm
  by_cases h1 : b < 0
  · have eb : (-b) = ((-b).natAbs : Int) := by omega
    have et : (if -(-t) > -t then -(-t) else -t) = ((t.natAbs : Nat) : Int) := by split <;> omega
    have L := euclid_loop (.d (.int (-t))) (.d (.int (-b))) (-b).natAbs t.natAbs
    rw [Int.natAbs_neg] at L
    have e2 : ((b.natAbs : Nat) : Int) = -b := by omega
    rw [e2, Nat.gcd_comm] at L
    have sg' : Sd ((Nat.gcd b.natAbs t.natAbs : Nat) : Int) := by rw [Nat.gcd_comm]; exact sg
    have f1 : (-t).fdiv (Nat.gcd t.natAbs b.natAbs : Int) = -t / (Nat.gcd t.natAbs b.natAbs : Int) := Int.fdiv_eq_ediv_of_nonneg _ (by omega)
    have f2 : (-b).fdiv (Nat.gcd t.natAbs b.natAbs : Int) = -b / (Nat.gcd t.natAbs b.natAbs : Int) := Int.fdiv_eq_ediv_of_nonneg _ (by omega)
    have et' : (if -t < - -t then - -t else -t) = ((t.natAbs : Nat) : Int) := by split <;> omega
    rw [Int.neg_neg] at et'
    simp [lB_f, lS_f, h1, et', L, dDiv_ok, sg, f1, f2, N]
  · have et' : (if t < -t then -t else t) = ((t.natAbs : Nat) : Int) := by split <;> omega
    have L := euclid_loop (.d (.int t)) (.d (.int b)) b.natAbs t.natAbs
    have e2 : ((b.natAbs : Nat) : Int) = b := by omega
    rw [e2, Nat.gcd_comm] at L
    have f1 : t.fdiv (Nat.gcd t.natAbs b.natAbs : Int) = t / (Nat.gcd t.natAbs b.natAbs : Int) := Int.fdiv_eq_ediv_of_nonneg _ (by omega)
    have f2 : b.fdiv (Nat.gcd t.natAbs b.natAbs : Int) = b / (Nat.gcd t.natAbs b.natAbs : Int) := Int.fdiv_eq_ediv_of_nonneg _ (by omega)
    simp [lB_f, lS_f, h1, et', L, dDiv_ok, sg, f1, f2, N]
theorem nrm_pos {t b : Int} (hb : b ≠ 0) : 0 < (nrm t b).2 := by
  have g0 := gcd_pos (t := t) hb
  unfold nrm
  by_cases h : b < 0
  · rw [if_pos h]
    obtain ⟨y, hy⟩ := gcd_dvd_b (t := t) (b := b)
    generalize (Nat.gcd t.natAbs b.natAbs : Int) = g at *
    show 0 < -b / g
    rw [hy, ← Int.mul_neg, Int.mul_ediv_cancel_left _ (by omega)]
    apply Classical.byContradiction
    intro z
    have : 0 ≤ g * y := Int.mul_nonneg (by omega) (by omega)
    omega
  · rw [if_neg h]
    obtain ⟨y, hy⟩ := gcd_dvd_b (t := t) (b := b)
    generalize (Nat.gcd t.natAbs b.natAbs : Int) = g at *
    show 0 < b / g
    rw [hy, Int.mul_ediv_cancel_left _ (by omega)]
    apply Classical.byContradiction
    intro z
    have : 0 ≤ g * (-y) := Int.mul_nonneg (by omega) (by omega)
    rw [Int.mul_neg] at this
    omega
theorem nrm_cross {t b : Int} (hb : b ≠ 0) : (nrm t b).1 * b = t * (nrm t b).2 := by
  have g0 := gcd_pos (t := t) hb
  obtain ⟨y, hy⟩ := gcd_dvd_b (t := t) (b := b)
  obtain ⟨x, hx⟩ := gcd_dvd_t (t := t) (b := b)
  unfold nrm
  generalize (Nat.gcd t.natAbs b.natAbs : Int) = g at *
  by_cases h : b < 0
  · rw [if_pos h]
    show -t / g * b = t * (-b / g)
    rw [hx, hy, ← Int.mul_neg, Int.mul_ediv_cancel_left _ (by omega), ← Int.mul_neg, Int.mul_ediv_cancel_left _ (by omega)]
    rw [Int.neg_mul, Int.mul_neg, Int.neg_inj, Int.mul_left_comm, Int.mul_assoc]
  · rw [if_neg h]
    show t / g * b = t * (b / g)
    rw [hx, hy, Int.mul_ediv_cancel_left _ (by omega), Int.mul_ediv_cancel_left _ (by omega), Int.mul_left_comm, Int.mul_assoc]
theorem ediv_natAbs_le {x g : Int} (hg : 0 < g) (h : g ∣ x) : (x / g).natAbs ≤ x.natAbs := by
  obtain ⟨y, rfl⟩ := h
  rw [Int.mul_ediv_cancel_left _ (by omega), Int.natAbs_mul]
  exact Nat.le_mul_of_pos_left _ (by omega)
theorem nrm_bt1 {n : Nat} {t b : Int} (hb : b ≠ 0) (h : Bt n t) : Bt n (nrm t b).1 := by
  have g0 := gcd_pos (t := t) hb
  refine h.le ?_
  unfold nrm
  by_cases h : b < 0
  · rw [if_pos h]
    have := ediv_natAbs_le g0 (Int.dvd_neg.mpr (gcd_dvd_t (t := t) (b := b)))
    rw [Int.natAbs_neg] at this
    exact this
  · rw [if_neg h]
    exact ediv_natAbs_le g0 gcd_dvd_t
theorem nrm_bt2 {n : Nat} {t b : Int} (hb : b ≠ 0) (h : Bt n b) : Bt n (nrm t b).2 := by
  have g0 := gcd_pos (t := t) hb
  refine h.le ?_
  unfold nrm
  by_cases h : b < 0
  · rw [if_pos h]
    have := ediv_natAbs_le g0 (Int.dvd_neg.mpr (gcd_dvd_b (t := t) (b := b)))
    rw [Int.natAbs_neg] at this
    exact this
  · rw [if_neg h]
    exact ediv_natAbs_le g0 gcd_dvd_b
theorem nrm_scale {c t b : Int} (hc : 0 < c) (hb : b ≠ 0) : nrm (c * t) (c * b) = nrm t b := by
  have g0 := gcd_pos (t := t) hb
  obtain ⟨y, hy⟩ := gcd_dvd_b (t := t) (b := b)
  obtain ⟨x, hx⟩ := gcd_dvd_t (t := t) (b := b)
  have e : (Nat.gcd (c * t).natAbs (c * b).natAbs : Int) = c * (Nat.gcd t.natAbs b.natAbs : Int) := by
    rw [Int.natAbs_mul, Int.natAbs_mul, Nat.gcd_mul_left]
    have : ((c.natAbs : Nat) : Int) = c := by omega
    rw [Int.natCast_mul, this]
  unfold nrm
  rw [e]
  generalize (Nat.gcd t.natAbs b.natAbs : Int) = g at *
  have hs : c * b < 0 ↔ b < 0 := by
    constructor
    · intro z
      apply Classical.byContradiction
      intro w
      have := Int.mul_nonneg (show 0 ≤ c by omega) (show 0 ≤ b by omega)
      omega
    · intro z
      exact Int.mul_neg_of_pos_of_neg hc z
  by_cases h : b < 0
  · rw [if_pos h, if_pos (hs.mpr h), ← Int.mul_neg, ← Int.mul_neg, Int.mul_ediv_mul_of_pos _ _ hc, Int.mul_ediv_mul_of_pos _ _ hc]
  · rw [if_neg h, if_neg (fun z => h (hs.mp z)), Int.mul_ediv_mul_of_pos _ _ hc, Int.mul_ediv_mul_of_pos _ _ hc]
theorem nrm_one {m : Int} (hm : 0 < m) : nrm 1 m = (1, m) := by
  unfold nrm
  rw [if_neg (by omega)]
  have : (Nat.gcd (1 : Int).natAbs m.natAbs : Int) = 1 := by simp
  rw [this]
  simp
end DL

/-! math.lcm of two ints of fewer than 9000 bits. -/
namespace DL
open PySem PySem.Spec PyProof.Rows L2 RT
section
variable {X : L2.Cx} {B : Bx} {W : WX}
def rLcm : List V → Hp → VK → Prop := fun vs H Q => ∃ a b : Int, vs = [.int a, .int b] ∧ (a.natAbs.log2 < 9000 ∧ b.natAbs.log2 < 9000) ∧ Q (.int ((Nat.lcm a.natAbs b.natAbs : Nat) : Int)) H
theorem log_max {a b : Nat} (ha : a.log2 < 9000) (hb : b.log2 < 9000) : (max a b).log2 < 9000 := by
  rcases Nat.le_total a b with h | h
  · rw [Nat.max_eq_right h]; exact hb
  · rw [Nat.max_eq_left h]; exact ha
theorem log2_lt_pow {a n : Nat} (h0 : 0 < n) (h : a.log2 < n) : a < 2 ^ n := by
  by_cases h1 : a = 0
  · subst h1; exact Nat.pow_pos (by decide)
  · exact (Nat.log2_lt h1).mp h
theorem cr_lcm : CallR X (.builtin "math.lcm") rLcm := by
  intro pins s σ H vs us Q I r h
  obtain ⟨a, b, rfl, hl, q⟩ := h
  obtain ⟨t, u, rfl⟩ := Vals.int2 r
  have h1 : (max 1 a.natAbs).log2 < 9000 := log_max (by decide) hl.1
  have h2 : (max a.natAbs b.natAbs).log2 < 9000 := log_max hl.1 hl.2
  have e : (Nat.lcm 1 a.natAbs).lcm b.natAbs = Nat.lcm a.natAbs b.natAbs := by rw [Nat.lcm_one_left]
  have hsz : (((Nat.lcm 1 a.natAbs).lcm b.natAbs : Nat) : Int).natAbs.log2 < bitsLine := by
    rw [e, Int.natAbs_natCast]
    have l1 : Nat.lcm a.natAbs b.natAbs ≤ a.natAbs * b.natAbs := Nat.div_le_self _ _
    have l2 : a.natAbs * b.natAbs < 2 ^ 18000 := by
      have := Nat.mul_lt_mul'' (log2_lt_pow (by decide) hl.1) (log2_lt_pow (by decide) hl.2)
      rw [← Nat.pow_add] at this
      exact this
    have l3 : (Nat.lcm a.natAbs b.natAbs).log2 < 18000 := PySem.Flt.log2_lt_of (by decide) (Nat.lt_of_le_of_lt l1 l2)
    have l4 : 18000 ≤ bitsLine := by decide
    omega
  refine call_function_meets PySem.W.MGF.kind_lcm PySem.W.MGF.plain_lcm PySem.W.MGF.entry_lcm (PySem.W.MGF.args_lcm _ _) (PySem.W.mg_run_lcm a t b u (by omega) (by omega) hsz).meets ?_
  rw [e]
  exact ⟨.int _, H, I.tok _, ⟨_, rfl⟩, q⟩
noncomputable def bLcm : PyData → PyData → Option PyData
  | .int a, .int b => iteC (a.natAbs.log2 < 9000 ∧ b.natAbs.log2 < 9000) (some (.int ((Nat.lcm a.natAbs b.natAbs : Nat) : Int))) none
  | _, _ => none
theorem rd_lcm : RDs X.K rLcm (app2 bLcm) := by
  refine rds2 fun G H x y d e z Q gh h1 h2 hz q => ?_
  cases d <;> cases e <;> first | (cases hz; done) | skip
  rename_i a b
  by_cases hc : a.natAbs.log2 < 9000 ∧ b.natAbs.log2 < 9000
  · rw [show bLcm (.int a) (.int b) = some (.int ((Nat.lcm a.natAbs b.natAbs : Nat) : Int)) from iteC_pos hc] at hz
    cases h1; cases h2; cases hz
    exact ⟨_, _, rfl, hc, q _ _ _ (Ext.refl gh) (.int _)⟩
  · rw [show bLcm (.int a) (.int b) = none from iteC_neg hc] at hz
    cases hz
end
theorem bLcm_ok {a b : Int} {n : Nat} (ha : Bt n a) (hb : Bt n b) (h0 : 0 < n) (hn : n ≤ 9000) : bLcm (.int a) (.int b) = some (.int ((Nat.lcm a.natAbs b.natAbs : Nat) : Int)) :=
  iteC_pos ⟨Nat.lt_of_lt_of_le (ha.log h0) hn, Nat.lt_of_lt_of_le (hb.log h0) hn⟩

/-! e or f, the first one of any kind that has a truth -/
section
variable {X : L2.Cx} {B : Bx} {W : WX}
def orL (F1 F2 : Rho → Res PyData) : Rho → Res PyData := fun ρ => (F1 ρ).bind fun d ρ => (optR (truth d) ρ).bind fun b ρ => if b = true then .ok d ρ else F2 ρ
@[simp] theorem orL_apc {F1 F2 : Rho → Res PyData} {e0 : Ent} {ρ : Rho} : orL F1 F2 (e0 :: ρ) = (F1 (e0 :: ρ)).bind fun d ρ => (optR (truth d) ρ).bind fun b ρ => if b = true then .ok d ρ else F2 ρ := id rfl
theorem truV_of {G H : Hp} {v : V} {d : PyData} {k : Bool} (dp1 : Dq X.K G v d) (gh : Same G H) (hk : truth d = some k) : TruV X.K v H k := by
  cases d <;> first | (cases hk; done) | skip
  · cases hk; cases dp1; exact rfl
  · cases hk; cases dp1; exact rfl
  · cases hk; cases dp1; exact rfl
  · cases dp1
    obtain ⟨hl, rfl⟩ := of_if hk
    exact ⟨hl, rfl⟩
  · cases hk
    cases dp1 with
    | lst a1 a2 => exact .inl ⟨_, gh.seq a1, by rw [empty_dp a2]⟩
  · cases hk
    cases dp1 with
    | tup a1 a2 => exact .inr (.inl ⟨_, seqT_same gh a1, by rw [empty_dp a2]⟩)
variable {a b : Expr} {rest : List Expr} {pos : Pos} {F1 F2 : Rho → Res PyData}
theorem pd_orL (ha : PE X a (tD (km X) B W F1)) (hb : PE X (.BoolOp .Or (b :: rest) pos) (tD (km X) B W F2)) : PE X (.BoolOp .Or (a :: b :: rest) pos) (tD (km X) B W (orL F1 F2)) := by
  refine (pe_orT ha hb).of ?_
  rintro σ H Q ⟨G, ρ, E, S⟩
  refine ⟨G, ρ, E, (Sat.bind S).imp fun d ρ1 s1 v G1 H1 E1 g1 dp1 => ?_⟩
  obtain ⟨k, hk, q⟩ := sat_opt (Sat.bind s1)
  refine ⟨k, truV_of dp1 E1.base.gh hk, ?_⟩
  cases k with
  | true =>
    rw [if_pos rfl] at q ⊢
    exact q v G1 H1 E1 g1 dp1
  | false =>
    rw [if_neg (by decide)] at q ⊢
    exact ⟨G1, ρ1, E1, (q.up g1).imp fun c2 ρ2 s2 v G2 H2 E2 g2 => s2 v G2 H2 E2 (g1.trans g2)⟩
end

/-! a list comprehension that reads no list of the frame's own: these stay its own -/
def hidE : Ent → Ent
  | .own _ => .un
  | e => e
def hid (ρ : Rho) : Rho := ρ.map hidE
def blkO (ρ : Rho) : Rho := (hid ρ).map roE
section
variable {m : KM} {B : Bx} {G H G' H' : Hp} {σ : L2.St} {ρ : Rho}
theorem hid_get {i : Nat} {e : Ent} (h : (hid ρ)[i]? = some e) : ∃ e', ρ[i]? = some e' ∧ e = hidE e' := by
  unfold hid at h
  rw [List.getElem?_map] at h
  cases q : ρ[i]? with
  | none => rw [q] at h; cases h
  | some z => rw [q] at h; cases h; exact ⟨z, rfl, rfl⟩
theorem hid_noOwn (ρ : Rho) : noOwn (hid ρ) := fun i xs h => by
  obtain ⟨e', _, h2⟩ := hid_get h
  cases e' <;> cases h2
theorem DEnv.hid (E : DEnv m B G H σ ρ) : DEnv m B G H σ (DL.hid ρ) := by
  refine ⟨E.base, by unfold DL.hid; rw [List.length_map]; exact E.len, fun i e h => ?_, fun i j a xs ys h => absurd h (hid_noOwn ρ i xs), ?_⟩
  · obtain ⟨e', h1, rfl⟩ := hid_get h
    have q := E.ent i e' h1
    cases e' <;> first | exact .un | exact q
  · intro i j a kvs f h1 h2 h3
    obtain ⟨e1, a1, b1⟩ := hid_get h1
    obtain ⟨e2, a2, b2⟩ := hid_get h2
    have c1 : e1 = .dct kvs := by cases e1 <;> first | exact b1.symm | cases b1
    have c2 : dE e2 = true := by rw [b2] at h3; cases e2 <;> first | exact h3 | cases h3
    exact E.disD i j a kvs e2 (by rw [a1, c1]) a2 c2
theorem DEnv.frzNew2 {D : Addr} {o : List V} (E : DEnv m B G H σ ρ) (n : ∀ (i : Nat) (a : Addr) (xs : List PyData), ρ[i]? = some (.own xs) → σ[i]? = some (some (.ref a)) → a ≠ D) (hG : G D = none) (hH : H D = some (.lst o)) (hB : B.H D = none) : DEnv m B (upd G D (.lst o)) H σ ρ := by
  have sg : Same G (upd G D (.lst o)) := upd_same_of hG
  refine ⟨⟨E.base.g.trans sg, E.base.h, fun b u e => ?_, fun b h1 h2 => ?_⟩, E.len, fun i e h => ?_, E.dis, E.disD⟩
  · by_cases hb : b = D
    · subst hb; rw [upd_same] at e; cases e; exact hH
    · rw [upd_ne hb] at e; exact E.base.gh _ _ e
  · rw [upd_ne (fun z => h1 (by rw [z]; exact hB))]
    exact E.base.cap b h1 h2
  · have q := E.ent i e h
    generalize hs : σ[i]? = o2 at q
    cases q with
    | un => exact .un
    | d z => exact .d (dp_same sg _ _ z)
    | own z1 z2 z3 z4 =>
      refine .own z1 ?_ z3 (dpAll_same sg _ _ z4)
      rw [upd_ne (n i _ _ h hs)]
      exact z2
    | dct z1 z2 z3 z4 =>
      refine .dct z1 ?_ z3 (dk_same sg z4)
      rw [upd_ne (ne_of z1 hH fun z => nomatch z)]
      exact z2
    | rdd z1 z4 => exact .rdd z1 (dk_same sg z4)
end
section
variable {X : L2.Cx} {B : Bx} {W : WX} {pos : Pos} {vs : List Nat}
theorem t_lcO {Fi : Rho → Res (List PyData)} {T : Tg} {Tt : Rho → Res Bool} {F : Rho → Res PyData} {σ : L2.St} {H G : Hp} {ρ : Rho} {Q : VK} (E : DEnv (km X) B G H σ ρ) (S : Sat (km X) B W G σ (Fi ρ) fun ds ρ1 => (∀ v ∈ vs, v < ρ1.length) ∧ ∃ r, compL T Tt F (wipeR (blkO ρ1) vs) ds [] = some r ∧
      ∀ D accV G' H', DEnv (km X) B G' H' σ ρ1 → (∀ (i : Nat) (a : Addr) (xs : List PyData), ρ1[i]? = some (.own xs) → σ[i]? = some (some (.ref a)) → a ≠ D) → Same G G' → H' D = some (.lst accV) → G' D = none → B.H D = none → DqAll X.K G' accV r → Q (.ref D) H') :
    tLc (iD (km X) B W Fi) (gW (km X) vs T) (exT (km X) Tt) (exE (km X) F) vs σ H Q := by
  refine ⟨G, ρ, E, S.imp fun ds ρ1 s1 J G1 H1 E1 g1 wk D hD => ?_⟩
  obtain ⟨hv, r, hr, q⟩ := s1
  have Ef := E1.hid
  have no := hid_noOwn ρ1
  have hD0 : B.H D = none := E1.base.h.free hD
  have nd : ∀ (i : Nat) (a : Addr) (xs : List PyData), ρ1[i]? = some (.own xs) → σ[i]? = some (some (.ref a)) → a ≠ D := fun i a xs h hs e => by
    have q := E1.ent i _ h
    rw [hs] at q
    cases q with
    | own z1 z2 z3 z4 => rw [e, hD] at z1; cases z1
  refine ⟨fun i m H => m = ds.length - i ∧ i ≤ ds.length ∧ ∃ G acc accV, Ext G1 H1 G H ∧ H D = some (.lst accV) ∧ G D = none ∧ DqAll X.K G accV acc ∧ compL T Tt F (wipeR (blkO ρ1) vs) (ds.drop i) acc = some r,
    ⟨_, rfl, Nat.zero_le _, G1, [], [], Ext.newOwn Ef.base.gh hD, upd_same, Ef.base.gh.free hD, .nil, hr⟩, ?_⟩
  rintro i m H2 ⟨rfl, hi, G2, acc, accV, x2, hH, hG, da, hc⟩
  by_cases hl : i < ds.length
  · have hd : ds[i]? = some ds[i] := List.getElem?_eq_getElem hl
    obtain ⟨w1, w2⟩ := wk.go i _ G2 H2 x2.g x2.gh hd
    refine .inr ⟨w1, fun H' => ∃ G acc accV, Ext G1 H1 G H' ∧ H' D = some (.lst accV) ∧ G D = none ∧ DqAll X.K G accV acc ∧ compL T Tt F (wipeR (blkO ρ1) vs) (ds.drop (i + 1)) acc = some r, fun H' n => ⟨ds.length - (i + 1), by omega, rfl, hl, n⟩, fun v H3 y => ?_⟩
    obtain ⟨G3, x3, dp⟩ := w2 v H3 y
    have hH3 : H3 D = some (.lst accV) := x3.h _ _ hH
    have hG3 : G3 D = none := x3.cap D (by rw [hH]; exact fun z => nomatch z) hG
    have E3 : DEnv (km X) ⟨G3, H3⟩ G3 H3 σ (blkO ρ1) := Ef.anew no (x2.g.trans x3.g) (x2.h.trans x3.h) x3.gh
    have E3w := (E3.wipe vs (by unfold blkO DL.hid; rw [List.length_map, List.length_map]; exact hv)).1
    rw [List.drop_eq_getElem_cons hl] at hc
    unfold compL at hc
    cases hT : T ds[i] (wipeR (blkO ρ1) vs) with
    | none => rw [hT] at hc; cases hc
    | some ρ2 =>
      rw [hT] at hc
      dsimp only at hc
      refine ⟨⟨G3, H3⟩, G3, _, ds[i], ρ2, E3w, dp, hT, fun σ2 E2 w => ⟨?_, ?_⟩⟩
      · exact w.trans wipe_idem
      · refine ⟨⟨G3, H3⟩, G3, ρ2, E2, ?_⟩
        cases hTt : Tt ρ2 with
        | bad => rw [hTt] at hc; cases hc
        | ex x ρ3 => rw [hTt] at hc; cases hc
        | ok b ρ3 =>
          rw [hTt] at hc
          intro G4 H4 E4 g4
          have x4 : Ext G3 H3 G4 H4 := E4.base
          cases b with
          | false =>
            rw [if_neg (by decide)]
            exact ⟨G4, acc, accV, x2.trans (x3.trans x4), x4.h _ _ hH3, x4.cap D (by rw [hH3]; exact fun z => nomatch z) hG3, dpAll_same (x3.g.trans x4.g) _ _ da, hc⟩
          | true =>
            rw [if_pos rfl]
            dsimp only at hc
            refine ⟨⟨G3, H3⟩, G4, ρ3, E4, ?_⟩
            cases hF : F ρ3 with
            | bad => rw [hF] at hc; cases hc
            | ex x ρ4 => rw [hF] at hc; cases hc
            | ok y ρ4 =>
              rw [hF] at hc
              intro u G5 H5 E5 g5 dp5
              dsimp only at hc
              have x5 : Ext G3 H3 G5 H5 := E5.base
              have hH5 : H5 D = some (.lst accV) := x5.h _ _ hH3
              have hG5 : G5 D = none := x5.cap D (by rw [hH3]; exact fun z => nomatch z) hG3
              have x : Ext G1 H1 G5 H5 := x2.trans (x3.trans x5)
              by_cases hlen : acc.length < sizeLine
              · rw [if_pos hlen] at hc
                refine ⟨accV, hH5, by rw [da.len]; exact hlen, G5, acc ++ [y], accV ++ [u], ⟨x.g, fun b o e => ?_, fun b o e => ?_, x.cap⟩, upd_same, hG5, (dpAll_same (x3.g.trans x5.g) _ _ da).append (.cons dp5 .nil), hc⟩
                · rw [upd_ne (ne_of_none e hD)]
                  exact x.h _ _ e
                · rw [upd_ne (ne_of_none e hG5)]
                  exact x.gh _ _ e
              · rw [if_neg hlen] at hc
                cases hc
  · have hi' : i = ds.length := by omega
    subst hi'
    rw [List.drop_length] at hc
    unfold compL at hc
    cases hc
    exact .inl ⟨wk.stop _ G2 H2 x2.g x2.gh rfl, q D accV G2 H2 (E1.ext x2) nd (g1.trans x2.g) hH hG hD0 da⟩
def lcO (vs : List Nat) (Fi : Rho → Res (List PyData)) (T : Tg) (Tt : Rho → Res Bool) (F : Rho → Res PyData) : Rho → Res PyData := fun ρ => (Fi ρ).bind fun ds ρ1 =>
  if (∀ v ∈ vs, v < ρ1.length) then (match compL T Tt F (wipeR (blkO ρ1) vs) ds [] with
    | some r => .ok (.list r) ρ1
    | none => .bad) else .bad
theorem pd_lcO {elt tg iter : Expr} {ifs : List Expr} {scope : Scope} {own : List (Str × Nat)} {Fi : Rho → Res (List PyData)} {T : Tg} {Tt : Rho → Res Bool} {F : Rho → Res PyData} (hc : X.calm = true) (hN : X.N.Nodup) (hi : PI X tg iter (iD (km X) B W Fi)) (ok : BlkOk X.N X.env.scope scope own)
    (hg : ∀ (s : Shared) (H : Hp) (C : Addr) (cl : List (Str × Addr)) (fp : List Addr), PG (X.blk s H scope (compEnvC scope cl C X.env) fp) tg (gW (km X) (own.map (·.2)) T)) (ht : ∀ (s : Shared) (H : Hp) (C : Addr) (cl : List (Str × Addr)) (fp : List Addr), PTs (X.blk s H scope (compEnvC scope cl C X.env) fp) ifs (exT (km X) Tt))
    (he : ∀ (s : Shared) (H : Hp) (C : Addr) (cl : List (Str × Addr)) (fp : List Addr) (B : Bx), PE (X.blk s H scope (compEnvC scope cl C X.env) fp) elt (tD (km X) B (fun _ _ _ _ => False) F)) (hs : ∀ x, foldedSetIterable iter X.env x = pure x := by intro _; rfl) :
    PE X (.ListComp elt [⟨tg, iter, ifs, 0⟩] scope pos) (tD (km X) B W (lcO (own.map (·.2)) Fi T Tt F)) := by
  refine (pe_lc (te := exE (km X) F) hc hN hi ok hg ht (fun s H C cl fp => pe_ex (X := X.blk s H scope (compEnvC scope cl C X.env) fp) (he s H C cl fp)) hs).of ?_
  rintro σ H Q ⟨G, ρ, E, S⟩
  refine t_lcO E ((Sat.bind S).imp fun ds ρ1 s1 => ?_)
  by_cases hv : ∀ v ∈ own.map (·.2), v < ρ1.length
  · rw [if_pos hv] at s1
    refine ⟨hv, ?_⟩
    cases hr : compL T Tt F (wipeR (blkO ρ1) (own.map (·.2))) ds [] with
    | none => rw [hr] at s1; exact s1.elim
    | some r =>
      rw [hr] at s1
      refine ⟨r, rfl, fun D accV G' H' E' nd g' hH hG hB da => ?_⟩
      have sg : Same G' (upd G' D (.lst accV)) := upd_same_of hG
      exact s1 (.ref D) (upd G' D (.lst accV)) H' (E'.frzNew2 nd hG hH hB) (g'.trans sg) (.lst (SqL.of upd_same) (dpAll_same sg _ _ da))
  · rw [if_neg hv] at s1
    exact s1.elim
end
@[simp] theorem lcO_apc {vs : List Nat} {Fi : Rho → Res (List PyData)} {T : Tg} {Tt : Rho → Res Bool} {F : Rho → Res PyData} {e0 : Ent} {ρ : Rho} : lcO vs Fi T Tt F (e0 :: ρ) = (Fi (e0 :: ρ)).bind fun ds ρ1 =>
  if (∀ v ∈ vs, v < ρ1.length) then (match compL T Tt F (wipeR (blkO ρ1) vs) ds [] with
    | some r => .ok (.list r) ρ1
    | none => .bad) else .bad := id rfl
@[simp] theorem hidE_d {x : PyData} : hidE (.d x) = .d x := id rfl
@[simp] theorem hidE_un : hidE .un = .un := id rfl
@[simp] theorem hidE_own {xs : List PyData} : hidE (.own xs) = .un := id rfl
@[simp] theorem hidE_dct {kvs : List (Key × PyData)} : hidE (.dct kvs) = .dct kvs := id rfl
@[simp] theorem blkO_nil : blkO [] = [] := id rfl
@[simp] theorem blkO_cons {e : Ent} {ρ : Rho} : blkO (e :: ρ) = roE (hidE e) :: blkO ρ := id rfl
end DL

/-! The laws' helpers (LH) and the program's own functions (PG), read once for all laws. -/
namespace DL
open PySem PySem.Spec PyProof.Rows L2 RT
noncomputable def PG.S_number : Rho → Out := (seqS (ifS (testF (binF dEq (varF 1) (cF (.int 0)))) (raiseS "NumberError") nxS) (seqS (asgS (appF (app2 bGcd) (consA (varF 0) (consA (varF 1) nilA))) (nameT 2)) (seqS (ifS (testF (binF dLt (varF 1) (cF (.int 0)))) (asgS (unF dNeg (varF 2)) (nameT 2)) nxS) (retS (tupF (consA (binF dDiv (varF 0) (varF 2)) (consA (binF dDiv (varF 1) (varF 2)) nilA)))))))
noncomputable def PG.B_number (a0 a1 : PyData) : FR := outFR (PG.S_number [.d a0, .d a1, .un])
noncomputable def PG.m_number : Fn := fn2 PG.B_number
noncomputable def PG.S_plus : Rho → Out := (seqS (asgS (varF 0) (tupT 2 (consTs (nameT 2) (consTs (nameT 3) nilTs)))) (seqS (asgS (varF 1) (tupT 2 (consTs (nameT 4) (consTs (nameT 5) nilTs)))) (retS (callF PG.m_number (consA (binF dAdd (binF dMul (varF 2) (varF 5)) (binF dMul (varF 4) (varF 3))) (consA (binF dMul (varF 3) (varF 5)) nilA))))))
noncomputable def PG.B_plus (a0 a1 : PyData) : FR := outFR (PG.S_plus [.d a0, .d a1, .un, .un, .un, .un])
noncomputable def PG.m_plus : Fn := fn2 PG.B_plus
noncomputable def PG.S_minus : Rho → Out := (seqS (asgS (varF 0) (tupT 2 (consTs (nameT 2) (consTs (nameT 3) nilTs)))) (seqS (asgS (varF 1) (tupT 2 (consTs (nameT 4) (consTs (nameT 5) nilTs)))) (retS (callF PG.m_number (consA (binF dSub (binF dMul (varF 2) (varF 5)) (binF dMul (varF 4) (varF 3))) (consA (binF dMul (varF 3) (varF 5)) nilA))))))
noncomputable def PG.B_minus (a0 a1 : PyData) : FR := outFR (PG.S_minus [.d a0, .d a1, .un, .un, .un, .un])
noncomputable def PG.m_minus : Fn := fn2 PG.B_minus
noncomputable def PG.S_times : Rho → Out := (retS (callF PG.m_number (consA (binF dMul (binF dIx (varF 0) (cF (.int 0))) (binF dIx (varF 1) (cF (.int 0)))) (consA (binF dMul (binF dIx (varF 0) (cF (.int 1))) (binF dIx (varF 1) (cF (.int 1)))) nilA))))
noncomputable def PG.B_times (a0 a1 : PyData) : FR := outFR (PG.S_times [.d a0, .d a1])
noncomputable def PG.m_times : Fn := fn2 PG.B_times
noncomputable def PG.S_compare : Rho → Out := (seqS (asgS (binF dMul (binF dIx (varF 0) (cF (.int 0))) (binF dIx (varF 1) (cF (.int 1)))) (nameT 2)) (seqS (asgS (binF dMul (binF dIx (varF 1) (cF (.int 0))) (binF dIx (varF 0) (cF (.int 1)))) (nameT 3)) (seqS (ifS (testF (binF dLt (varF 2) (varF 3))) (retS (unF dNeg (cF (.int 1)))) nxS) (seqS (ifS (testF (binF dGt (varF 2) (varF 3))) (retS (cF (.int 1))) nxS) (retS (cF (.int 0)))))))
noncomputable def PG.B_compare (a0 a1 : PyData) : FR := outFR (PG.S_compare [.d a0, .d a1, .un, .un])
noncomputable def PG.m_compare : Fn := fn2 PG.B_compare
noncomputable def PG.L_whole_factor_1 : Rho → Out := (seqS (asgS (appF (app2 bGcd) (consA (varF 1) (consA (varF 3) nilA))) (nameT 1)) (asgS (appF (app2 bLcm) (consA (varF 2) (consA (varF 4) nilA))) (nameT 2)))
noncomputable def PG.S_whole_factor : Rho → Out := (seqS (asgS (tupF (consA (cF (.int 0)) (consA (cF (.int 1)) nilA))) (tupT 2 (consTs (nameT 1) (consTs (nameT 2) nilTs)))) (seqS (forS (itemsQ (varF 0)) (tupT 2 (consTs (nameT 3) (consTs (nameT 4) nilTs))) PG.L_whole_factor_1) (retS (callF PG.m_number (consA (varF 2) (consA (varF 1) nilA))))))
noncomputable def PG.B_whole_factor (a0 : PyData) : FR := outFR (PG.S_whole_factor [.d a0, .un, .un, .un, .un])
noncomputable def PG.m_whole_factor : Fn := fn1 PG.B_whole_factor
noncomputable def PG.S_multiplied : Rho → Out := (retS (appF (app1 bTuple) (consA (lcF [2, 3] (itemsQ (varF 0)) (tupT 2 (consTs (nameT 2) (consTs (nameT 3) nilTs))) yesT (tupF (consA (varF 2) (consA (callF PG.m_times (consA (varF 3) (consA (varF 1) nilA))) nilA)))) nilA)))
noncomputable def PG.B_multiplied (a0 a1 : PyData) : FR := outFR (PG.S_multiplied [.d a0, .d a1, .un, .un])
noncomputable def PG.m_multiplied : Fn := fn2 PG.B_multiplied
noncomputable def PG.S_normal_factor : Rho → Out := (seqS (asgS (varF 0) (tupT 3 (consTs (nameT 1) (consTs (nameT 2) (consTs (nameT 3) nilTs))))) (seqS (ifS (andT (notT (truF (varF 1))) (testF (binF dEq (varF 3) (cF (.tuple [.int 0, .int 1]))))) (retS (cF (.tuple [.int 1, .int 1]))) nxS) (seqS (asgS (orL (lcF [5, 6] (itemsQ (varF 1)) (tupT 2 (consTs (nameT 5) (consTs (nameT 6) nilTs))) yesT (varF 6)) (lstF (consA (varF 3) nilA))) (nameT 4)) (seqS (asgS (callF PG.m_whole_factor (consA (varF 4) nilA)) (nameT 7)) (seqS (ifS (andT (testF (binF dEq (varF 2) (cF (.str "=")))) (testF (binF dLt (callF PG.m_compare (consA (binF dIx (varF 4) (cF (.int 0))) (consA (cF (.tuple [.int 0, .int 1])) nilA))) (cF (.int 0))))) (retS (callF PG.m_minus (consA (cF (.tuple [.int 0, .int 1])) (consA (varF 7) nilA)))) nxS) (retS (varF 7)))))))
noncomputable def PG.B_normal_factor (a0 : PyData) : FR := outFR (PG.S_normal_factor [.d a0, .un, .un, .un, .un, .un, .un, .un])
noncomputable def PG.m_normal_factor : Fn := fn1 PG.B_normal_factor
noncomputable def PG.S_normal : Rho → Out := (seqS (asgS (varF 0) (tupT 3 (consTs (nameT 1) (consTs (nameT 2) (consTs (nameT 3) nilTs))))) (seqS (asgS (callF PG.m_normal_factor (consA (varF 0) nilA)) (nameT 4)) (retS (tupF (consA (callF PG.m_multiplied (consA (varF 1) (consA (varF 4) nilA))) (consA (varF 2) (consA (callF PG.m_times (consA (varF 3) (consA (varF 4) nilA))) nilA)))))))
noncomputable def PG.B_normal (a0 : PyData) : FR := outFR (PG.S_normal [.d a0, .un, .un, .un, .un])
noncomputable def PG.m_normal : Fn := fn1 PG.B_normal
noncomputable def PG.L_value_1 : Rho → Out := (asgS (callF PG.m_plus (consA (varF 3) (consA (callF PG.m_times (consA (varF 6) (consA (dgetF 4 (varF 5) (cF (.tuple [.int 0, .int 1]))) nilA))) nilA))) (nameT 3))
noncomputable def PG.S_value : Rho → Out := (seqS (asgS (varF 0) (tupT 2 (consTs (nameT 2) (consTs (nameT 3) nilTs)))) (seqS (dictS (varF 1) 4) (seqS (forS (itemsQ (varF 2)) (tupT 2 (consTs (nameT 5) (consTs (nameT 6) nilTs))) PG.L_value_1) (retS (varF 3)))))
noncomputable def PG.B_value (a0 a1 : PyData) : FR := outFR (PG.S_value [.d a0, .d a1, .un, .un, .un, .un, .un])
noncomputable def PG.m_value : Fn := fn2 PG.B_value
noncomputable def PG.S_holds : Rho → Out := (seqS (asgS (varF 0) (tupT 3 (consTs (nameT 2) (consTs (nameT 3) (consTs (nameT 4) nilTs))))) (seqS (asgS (callF PG.m_compare (consA (callF PG.m_value (consA (tupF (consA (varF 2) (consA (cF (.tuple [.int 0, .int 1])) nilA))) (consA (varF 1) nilA))) (consA (varF 4) nilA))) (nameT 5)) (seqS (ifS (testF (binF dEq (varF 3) (cF (.str "=")))) (retS (binF dEq (varF 5) (cF (.int 0)))) nxS) (seqS (ifS (testF (binF dEq (varF 3) (cF (.str "<")))) (retS (binF dLt (varF 5) (cF (.int 0)))) nxS) (retS (binF dLe (varF 5) (cF (.int 0))))))))
noncomputable def PG.B_holds (a0 a1 : PyData) : FR := outFR (PG.S_holds [.d a0, .d a1, .un, .un, .un, .un])
noncomputable def PG.m_holds : Fn := fn2 PG.B_holds
noncomputable def PG.L_is_paper_1 : Rho → Out := (seqS (ifS (orT (testF (binF dLe (varF 3) (varF 2))) (testF (binF dGe (varF 3) (appF (app1 bLen) (consA (varF 0) nilA))))) (retS (cF (.bool false))) nxS) (seqS (asgS (callF PG.m_compare (consA (varF 4) (consA (cF (.tuple [.int 0, .int 1])) nilA))) (nameT 5)) (seqS (ifS (orT (testF (binF dEq (varF 5) (cF (.int 0)))) (andT (testF (binF dLt (varF 5) (cF (.int 0)))) (testF (binF dNe (binF dIx (binF dIx (varF 0) (varF 3)) (cF (.int 1))) (cF (.str "=")))))) (retS (cF (.bool false))) nxS) (asgS (varF 3) (nameT 2)))))
noncomputable def PG.S_is_paper : Rho → Out := (seqS (asgS (unF dNeg (cF (.int 1))) (nameT 2)) (seqS (forS (itemsQ (varF 1)) (tupT 2 (consTs (nameT 3) (consTs (nameT 4) nilTs))) PG.L_is_paper_1) (retS (cF (.bool true)))))
noncomputable def PG.B_is_paper (a0 a1 : PyData) : FR := outFR (PG.S_is_paper [.d a0, .d a1, .un, .un, .un, .un])
noncomputable def PG.m_is_paper : Fn := fn2 PG.B_is_paper
noncomputable def LH.S_add : Rho → Out := (retS (callF lm_f (consA (binF dAdd (binF dMul (binF dIx (varF 0) (cF (.int 0))) (binF dIx (varF 1) (cF (.int 1)))) (binF dMul (binF dIx (varF 1) (cF (.int 0))) (binF dIx (varF 0) (cF (.int 1))))) (consA (binF dMul (binF dIx (varF 0) (cF (.int 1))) (binF dIx (varF 1) (cF (.int 1)))) nilA))))
noncomputable def LH.B_add (a0 a1 : PyData) : FR := outFR (LH.S_add [.d a0, .d a1])
noncomputable def LH.m_add : Fn := fn2 LH.B_add
noncomputable def LH.S_sub : Rho → Out := (retS (callF lm_f (consA (binF dSub (binF dMul (binF dIx (varF 0) (cF (.int 0))) (binF dIx (varF 1) (cF (.int 1)))) (binF dMul (binF dIx (varF 1) (cF (.int 0))) (binF dIx (varF 0) (cF (.int 1))))) (consA (binF dMul (binF dIx (varF 0) (cF (.int 1))) (binF dIx (varF 1) (cF (.int 1)))) nilA))))
noncomputable def LH.B_sub (a0 a1 : PyData) : FR := outFR (LH.S_sub [.d a0, .d a1])
noncomputable def LH.m_sub : Fn := fn2 LH.B_sub
noncomputable def LH.S_mul : Rho → Out := (retS (callF lm_f (consA (binF dMul (binF dIx (varF 0) (cF (.int 0))) (binF dIx (varF 1) (cF (.int 0)))) (consA (binF dMul (binF dIx (varF 0) (cF (.int 1))) (binF dIx (varF 1) (cF (.int 1)))) nilA))))
noncomputable def LH.B_mul (a0 a1 : PyData) : FR := outFR (LH.S_mul [.d a0, .d a1])
noncomputable def LH.m_mul : Fn := fn2 LH.B_mul
noncomputable def LH.S_div : Rho → Out := (retS (callF lm_f (consA (binF dMul (binF dIx (varF 0) (cF (.int 0))) (binF dIx (varF 1) (cF (.int 1)))) (consA (binF dMul (binF dIx (varF 0) (cF (.int 1))) (binF dIx (varF 1) (cF (.int 0)))) nilA))))
noncomputable def LH.B_div (a0 a1 : PyData) : FR := outFR (LH.S_div [.d a0, .d a1])
noncomputable def LH.m_div : Fn := fn2 LH.B_div
noncomputable def LH.S_less : Rho → Out := (retS (binF dLt (binF dMul (binF dIx (varF 0) (cF (.int 0))) (binF dIx (varF 1) (cF (.int 1)))) (binF dMul (binF dIx (varF 1) (cF (.int 0))) (binF dIx (varF 0) (cF (.int 1))))))
noncomputable def LH.B_less (a0 a1 : PyData) : FR := outFR (LH.S_less [.d a0, .d a1])
noncomputable def LH.m_less : Fn := fn2 LH.B_less
noncomputable def LH.S_scaled : Rho → Out := (retS (tupF (consA (appF (app1 bTuple) (consA (lcF [2, 3] (itemsQ (binF dIx (varF 0) (cF (.int 0)))) (tupT 2 (consTs (nameT 2) (consTs (nameT 3) nilTs))) yesT (tupF (consA (varF 2) (consA (callF LH.m_mul (consA (varF 3) (consA (varF 1) nilA))) nilA)))) nilA)) (consA (binF dIx (varF 0) (cF (.int 1))) (consA (callF LH.m_mul (consA (binF dIx (varF 0) (cF (.int 2))) (consA (varF 1) nilA))) nilA)))))
noncomputable def LH.B_scaled (a0 a1 : PyData) : FR := outFR (LH.S_scaled [.d a0, .d a1, .un, .un])
noncomputable def LH.m_scaled : Fn := fn2 LH.B_scaled
noncomputable def LH.L_factor_1 : Rho → Out := (asgS (binF dMul (varF 5) (binF dIx (varF 7) (cF (.int 1)))) (nameT 5))
noncomputable def LH.L_factor_2 : Rho → Out := (parS (consA (varF 10) (consA (binF dMod (varF 9) (varF 10)) nilA)) 9 10)
noncomputable def LH.L_factor_3 : Rho → Out := (seqS (asgS (binF dMul (appF (app2 bMax) (consA (binF dIx (varF 7) (cF (.int 0))) (consA (unF dNeg (binF dIx (varF 7) (cF (.int 0)))) nilA))) (binF dDiv (varF 5) (binF dIx (varF 7) (cF (.int 1))))) (nameT 9)) (seqS (asgS (varF 8) (nameT 10)) (seqS (whileS (testF (binF dNe (varF 10) (cF (.int 0)))) LH.L_factor_2) (asgS (varF 9) (nameT 8)))))
noncomputable def LH.S_factor : Rho → Out := (seqS (asgS (varF 0) (tupT 3 (consTs (nameT 1) (consTs (nameT 2) (consTs (nameT 3) nilTs))))) (seqS (ifS (testF (binF dEq (appF (app1 bLen) (consA (varF 1) nilA)) (cF (.int 0)))) (seqS (ifS (testF (binF dEq (binF dIx (varF 3) (cF (.int 0))) (cF (.int 0)))) (retS (tupF (consA (cF (.int 1)) (consA (cF (.int 1)) nilA)))) nxS) (seqS (asgS (callF LH.m_div (consA (tupF (consA (cF (.int 1)) (consA (cF (.int 1)) nilA))) (consA (callF lm_f (consA (appF (app2 bMax) (consA (binF dIx (varF 3) (cF (.int 0))) (consA (unF dNeg (binF dIx (varF 3) (cF (.int 0)))) nilA))) (consA (binF dIx (varF 3) (cF (.int 1))) nilA))) nilA))) (nameT 4)) (seqS (ifS (andT (testF (binF dEq (varF 2) (cF (.str "=")))) (testF (binF dLt (binF dIx (varF 3) (cF (.int 0))) (cF (.int 0))))) (asgS (callF LH.m_mul (consA (varF 4) (consA (tupF (consA (unF dNeg (cF (.int 1))) (consA (cF (.int 1)) nilA))) nilA))) (nameT 4)) nxS) (retS (varF 4))))) nxS) (seqS (asgS (cF (.int 1)) (nameT 5)) (seqS (forS (itemsQ (varF 1)) (tupT 2 (consTs (nameT 6) (consTs (nameT 7) nilTs))) LH.L_factor_1) (seqS (asgS (cF (.int 0)) (nameT 8)) (seqS (forS (itemsQ (varF 1)) (tupT 2 (consTs (nameT 6) (consTs (nameT 7) nilTs))) LH.L_factor_3) (seqS (asgS (callF lm_f (consA (varF 5) (consA (varF 8) nilA))) (nameT 4)) (seqS (ifS (andT (testF (binF dEq (varF 2) (cF (.str "=")))) (testF (binF dLt (binF dIx (binF dIx (binF dIx (varF 1) (cF (.int 0))) (cF (.int 1))) (cF (.int 0))) (cF (.int 0))))) (asgS (callF LH.m_mul (consA (varF 4) (consA (tupF (consA (unF dNeg (cF (.int 1))) (consA (cF (.int 1)) nilA))) nilA))) (nameT 4)) nxS) (retS (varF 4))))))))))
noncomputable def LH.B_factor (a0 : PyData) : FR := outFR (LH.S_factor [.d a0, .un, .un, .un, .un, .un, .un, .un, .un, .un, .un])
noncomputable def LH.m_factor : Fn := fn1 LH.B_factor
noncomputable def LH.S_normal : Rho → Out := (retS (callF LH.m_scaled (consA (varF 0) (consA (callF LH.m_factor (consA (varF 0) nilA)) nilA))))
noncomputable def LH.B_normal (a0 : PyData) : FR := outFR (LH.S_normal [.d a0])
noncomputable def LH.m_normal : Fn := fn1 LH.B_normal
noncomputable def LH.L_parts_1 : Rho → Out := (putS 1 (varF 2) (callF LH.m_add (consA (dgetF 1 (varF 2) (tupF (consA (cF (.int 0)) (consA (cF (.int 1)) nilA)))) (consA (varF 3) nilA))))
noncomputable def LH.S_parts : Rho → Out := (seqS (newDS 1) (seqS (forS (itemsQ (varF 0)) (tupT 2 (consTs (nameT 2) (consTs (nameT 3) nilTs))) LH.L_parts_1) (retS (appF (app1 bTuple) (consA (lcF [2] (itemsQ (dsortF 1)) (nameT 2) (testF (binF dNe (binF dIx (dixF 1 (varF 2)) (cF (.int 0))) (cF (.int 0)))) (tupF (consA (varF 2) (consA (dixF 1 (varF 2)) nilA)))) nilA)))))
noncomputable def LH.B_parts (a0 : PyData) : FR := outFR (LH.S_parts [.d a0, .un, .un, .un])
noncomputable def LH.m_parts : Fn := fn1 LH.B_parts
noncomputable def LH.S_row : Rho → Out := (seqS (ifS (orT (testF (binF dEq (varF 1) (cF (.str ">=")))) (testF (binF dEq (varF 1) (cF (.str ">"))))) (seqS (lcS 0 [3, 4] (itemsQ (varF 0)) (tupT 2 (consTs (nameT 3) (consTs (nameT 4) nilTs))) yesT (tupF (consA (varF 3) (consA (callF LH.m_sub (consA (tupF (consA (cF (.int 0)) (consA (cF (.int 1)) nilA))) (consA (varF 4) nilA))) nilA)))) (seqS (asgS (callF LH.m_sub (consA (tupF (consA (cF (.int 0)) (consA (cF (.int 1)) nilA))) (consA (varF 2) nilA))) (nameT 2)) (asgS (dispF [(">=", "<="), (">", "<")] 1) (nameT 1)))) nxS) (retS (callF LH.m_normal (consA (tupF (consA (callF LH.m_parts (consA (varF 0) nilA)) (consA (varF 1) (consA (varF 2) nilA)))) nilA))))
noncomputable def LH.B_row (a0 a1 a2 : PyData) : FR := outFR (LH.S_row [.d a0, .d a1, .d a2, .un, .un])
noncomputable def LH.m_row : Fn := fn3 LH.B_row
noncomputable def LH.L_at_1 : Rho → Out := (asgS (callF LH.m_add (consA (varF 3) (consA (callF LH.m_mul (consA (varF 5) (consA (dgetF 2 (varF 4) (tupF (consA (cF (.int 0)) (consA (cF (.int 1)) nilA)))) nilA))) nilA))) (nameT 3))
noncomputable def LH.S_at : Rho → Out := (seqS (dictS (varF 1) 2) (seqS (asgS (tupF (consA (cF (.int 0)) (consA (cF (.int 1)) nilA))) (nameT 3)) (seqS (forS (itemsQ (varF 0)) (tupT 2 (consTs (nameT 4) (consTs (nameT 5) nilTs))) LH.L_at_1) (retS (varF 3)))))
noncomputable def LH.B_at (a0 a1 : PyData) : FR := outFR (LH.S_at [.d a0, .d a1, .un, .un, .un, .un])
noncomputable def LH.m_at : Fn := fn2 LH.B_at
noncomputable def LH.S_true : Rho → Out := (seqS (asgS (callF LH.m_at (consA (binF dIx (varF 0) (cF (.int 0))) (consA (varF 1) nilA))) (nameT 2)) (seqS (ifS (testF (binF dEq (binF dIx (varF 0) (cF (.int 1))) (cF (.str "=")))) (retS (binF dEq (varF 2) (binF dIx (varF 0) (cF (.int 2))))) nxS) (seqS (ifS (testF (binF dEq (binF dIx (varF 0) (cF (.int 1))) (cF (.str "<")))) (retS (callF LH.m_less (consA (varF 2) (consA (binF dIx (varF 0) (cF (.int 2))) nilA)))) nxS) (retS (notV (callF LH.m_less (consA (binF dIx (varF 0) (cF (.int 2))) (consA (varF 2) nilA))))))))
noncomputable def LH.B_true (a0 a1 : PyData) : FR := outFR (LH.S_true [.d a0, .d a1, .un])
noncomputable def LH.m_true : Fn := fn2 LH.B_true
noncomputable def LH.L_pairs_1 : Rho → Out := (ifS (testF (binF dNe (binF dIx (varF 0) (varF 2)) (cF (.int 3)))) (appendS 1 (tupF (consA (binF dIx (lstF (consA (cF (.str "x")) (consA (cF (.str "b1")) (consA (cF (.str "total")) nilA)))) (varF 2)) (consA (callF lm_f (consA (binF dSub (binF dIx (varF 0) (varF 2)) (cF (.int 3))) (consA (binF dAdd (cF (.int 1)) (binF dDiv (binF dIx (varF 0) (cF (.int 3))) (cF (.int 5)))) nilA))) nilA)))) nxS)
noncomputable def LH.S_pairs : Rho → Out := (seqS (ownS nilA 1) (seqS (forS (range1F (consA (cF (.int 3)) nilA)) (nameT 2) LH.L_pairs_1) (retS (varF 1))))
noncomputable def LH.B_pairs (a0 : PyData) : FR := outFR (LH.S_pairs [.d a0, .un, .un])
noncomputable def LH.m_pairs : Fn := fn1 LH.B_pairs
noncomputable def LH.S_anyrow : Rho → Out := (seqS (asgS (binF dIx (lstF (consA (cF (.str "<=")) (consA (cF (.str "<=")) (consA (cF (.str "<")) (consA (cF (.str "=")) (consA (cF (.str ">=")) (consA (cF (.str ">")) nilA))))))) (binF dIx (varF 0) (cF (.int 4)))) (nameT 1)) (retS (callF LH.m_row (consA (callF LH.m_pairs (consA (cutF (varF 0) noP (someP (cF (.int 4)))) nilA)) (consA (varF 1) (consA (callF lm_f (consA (binF dSub (binF dIx (varF 0) (cF (.int 5))) (cF (.int 5))) (consA (binF dAdd (cF (.int 1)) (binF dIx (varF 0) (cF (.int 6)))) nilA))) nilA))))))
noncomputable def LH.B_anyrow (a0 : PyData) : FR := outFR (LH.S_anyrow [.d a0, .un])
noncomputable def LH.m_anyrow : Fn := fn1 LH.B_anyrow
noncomputable def LH.L_system_1 : Rho → Out := (seqS (newS (cutL (varF 3) (someP (binF dAdd (cF (.int 2)) (binF dMul (cF (.int 7)) (varF 5)))) (someP (binF dAdd (cF (.int 9)) (binF dMul (cF (.int 7)) (varF 5))))) 6) (seqS (ifS (testF (binF dGt (binF dIx (varF 3) (cF (.int 1))) (cF (.int 0)))) (ownS (consA (binF dAdd (binF dDiv (binF dIx (varF 6) (cF (.int 0))) (cF (.int 2))) (cF (.int 2))) (consA (binF dIx (varF 6) (cF (.int 1))) (consA (binF dIx (varF 6) (cF (.int 2))) (consA (binF dMul (binF dIx (varF 6) (cF (.int 3))) (binF dMod (binF dIx (varF 6) (cF (.int 3))) (cF (.int 2)))) (consA (binF dIx (varF 6) (cF (.int 4))) (consA (binF dIx (varF 6) (cF (.int 5))) (consA (binF dIx (varF 6) (cF (.int 6))) nilA))))))) 6) nxS) (seqS (ifS (testF (binF dEq (binF dIx (varF 3) (cF (.int 1))) (cF (.int 3)))) (lsetS 6 (cF (.int 2)) (cF (.int 3))) nxS) (appendS 4 (callF LH.m_anyrow (consA (varF 6) nilA))))))
noncomputable def LH.S_system : Rho → Out := (seqS (asgS (callF lm_draw (consA (varF 0) (consA (varF 1) (consA (binF dAdd (lstF (consA (varF 2) (consA (cF (.int 4)) nilA))) (repF (consA (cF (.int 7)) (consA (cF (.int 7)) (consA (cF (.int 7)) (consA (cF (.int 7)) (consA (cF (.int 6)) (consA (cF (.int 11)) (consA (cF (.int 2)) nilA))))))) (cF (.int 6)))) nilA)))) (nameT 3)) (seqS (ownS nilA 4) (seqS (forS (range1F (consA (binF dAdd (cF (.int 1)) (binF dIx (varF 3) (cF (.int 0)))) nilA)) (nameT 5) LH.L_system_1) (retS (varF 4)))))
noncomputable def LH.B_system (a0 a1 a2 : PyData) : FR := outFR (LH.S_system [.d a0, .d a1, .d a2, .un, .un, .un, .un])
noncomputable def LH.m_system : Fn := fn3 LH.B_system
noncomputable def LH.L_grid_1 : Rho → Out := (seqS (asgS (callF lm_draw (consA (varF 0) (consA (binF dAdd (varF 1) (varF 4)) (consA (lstF (consA (cF (.int 17)) (consA (cF (.int 17)) (consA (cF (.int 17)) (consA (cF (.int 17)) (consA (cF (.int 3)) nilA)))))) nilA)))) (nameT 5)) (appendS 3 (appF (app1 bTuple) (consA (lcO [6] (range1F (consA (appF (app1 bLen) (consA (varF 2) nilA)) nilA)) (nameT 6) yesT (tupF (consA (binF dIx (varF 2) (varF 6)) (consA (callF lm_f (consA (binF dSub (binF dIx (varF 5) (binF dMod (varF 6) (cF (.int 4)))) (cF (.int 8))) (consA (binF dAdd (cF (.int 1)) (binF dIx (varF 5) (cF (.int 4)))) nilA))) nilA)))) nilA))))
noncomputable def LH.S_grid : Rho → Out := (seqS (ownS nilA 3) (seqS (forS (range1F (consA (cF (.int 6)) nilA)) (nameT 4) LH.L_grid_1) (retS (varF 3))))
noncomputable def LH.B_grid (a0 a1 a2 : PyData) : FR := outFR (LH.S_grid [.d a0, .d a1, .d a2, .un, .un, .un, .un])
noncomputable def LH.m_grid : Fn := fn3 LH.B_grid
noncomputable def LH.L_paper_1 : Rho → Out := (seqS (asgS (callF lm_f (consA (binF dSub (binF dIx (varF 3) (binF dAdd (cF (.int 1)) (binF dMul (cF (.int 3)) (varF 5)))) (cF (.int 2))) (consA (binF dAdd (cF (.int 1)) (binF dIx (varF 3) (binF dAdd (cF (.int 2)) (binF dMul (cF (.int 3)) (varF 5))))) nilA))) (nameT 6)) (ifS (andT (testF (binF dGt (binF dIx (varF 3) (binF dMul (cF (.int 3)) (varF 5))) (cF (.int 0)))) (orT (testF (binF dGt (binF dIx (varF 6) (cF (.int 0))) (cF (.int 0)))) (andT (testF (binF dLt (binF dIx (varF 6) (cF (.int 0))) (cF (.int 0)))) (testF (binF dEq (binF dIx (binF dIx (varF 2) (varF 5)) (cF (.int 1))) (cF (.str "="))))))) (appendS 4 (tupF (consA (varF 5) (consA (varF 6) nilA)))) nxS))
noncomputable def LH.S_paper : Rho → Out := (seqS (asgS (callF lm_draw (consA (varF 0) (consA (varF 1) (consA (repF (consA (cF (.int 3)) (consA (cF (.int 9)) (consA (cF (.int 4)) nilA))) (cF (.int 8))) nilA)))) (nameT 3)) (seqS (ownS nilA 4) (seqS (forS (range1F (consA (appF (app1 bLen) (consA (varF 2) nilA)) nilA)) (nameT 5) LH.L_paper_1) (retS (appF (app1 bTuple) (consA (varF 4) nilA))))))
noncomputable def LH.B_paper (a0 a1 a2 : PyData) : FR := outFR (LH.S_paper [.d a0, .d a1, .d a2, .un, .un, .un, .un])
noncomputable def LH.m_paper : Fn := fn3 LH.B_paper
noncomputable def LH.L_fine_1 : Rho → Out := (seqS (asgS (binF dIx (varF 1) (varF 2)) (tupT 2 (consTs (nameT 3) (consTs (nameT 4) nilTs)))) (seqS (ifS (orT (testF (binF dLt (varF 3) (cF (.int 0)))) (orT (testF (binF dGe (varF 3) (appF (app1 bLen) (consA (varF 0) nilA)))) (andT (testF (binF dGt (varF 2) (cF (.int 0)))) (testF (binF dLe (varF 3) (binF dIx (binF dIx (varF 1) (binF dSub (varF 2) (cF (.int 1)))) (cF (.int 0)))))))) (retS (cF (.bool false))) nxS) (ifS (orT (testF (binF dEq (binF dIx (varF 4) (cF (.int 0))) (cF (.int 0)))) (andT (testF (binF dLt (binF dIx (varF 4) (cF (.int 0))) (cF (.int 0)))) (testF (binF dNe (binF dIx (binF dIx (varF 0) (varF 3)) (cF (.int 1))) (cF (.str "=")))))) (retS (cF (.bool false))) nxS)))
noncomputable def LH.S_fine : Rho → Out := (seqS (forS (range1F (consA (appF (app1 bLen) (consA (varF 1) nilA)) nilA)) (nameT 2) LH.L_fine_1) (retS (cF (.bool true))))
noncomputable def LH.B_fine (a0 a1 : PyData) : FR := outFR (LH.S_fine [.d a0, .d a1, .un, .un, .un])
noncomputable def LH.m_fine : Fn := fn2 LH.B_fine
end DL

/-! Numbers: pairs of ints with a bottom above 0; what the functions of numbers give. -/
namespace DL
open PySem PySem.Spec PyProof.Rows L2 RT
abbrev Qn := Int × Int
structure Sz (n : Nat) (q : Qn) : Prop where
  pos : 0 < q.2
  b1 : Bt n q.1
  b2 : Bt n q.2
theorem Sz.mono {n m : Nat} {q : Qn} (h : Sz n q) (k : n ≤ m) : Sz m q := ⟨h.pos, h.b1.mono k, h.b2.mono k⟩
theorem Sz.ne {n : Nat} {q : Qn} (h : Sz n q) : q.2 ≠ 0 := by have := h.pos; omega
theorem Sz.nrm {n : Nat} {t b : Int} (hb : b ≠ 0) (h1 : Bt n t) (h2 : Bt n b) : Sz n (nrm t b) := ⟨nrm_pos hb, nrm_bt1 hb h1, nrm_bt2 hb h2⟩
def qadd (p q : Qn) : Qn := nrm (p.1 * q.2 + q.1 * p.2) (p.2 * q.2)
def qsub (p q : Qn) : Qn := nrm (p.1 * q.2 - q.1 * p.2) (p.2 * q.2)
def qmul (p q : Qn) : Qn := nrm (p.1 * q.1) (p.2 * q.2)
def qdiv (p q : Qn) : Qn := nrm (p.1 * q.2) (p.2 * q.1)
section
variable {n m : Nat} {p q : Qn}
theorem Sz.add (hp : Sz n p) (hq : Sz m q) : Sz (n + m + 1) (qadd p q) :=
  .nrm (Int.mul_ne_zero hp.ne hq.ne) ((hp.b1.mul hq.b2).add ((hq.b1.mul hp.b2).mono (by omega))) ((hp.b2.mul hq.b2).mono (by omega))
theorem Sz.sub (hp : Sz n p) (hq : Sz m q) : Sz (n + m + 1) (qsub p q) :=
  .nrm (Int.mul_ne_zero hp.ne hq.ne) ((hp.b1.mul hq.b2).sub ((hq.b1.mul hp.b2).mono (by omega))) ((hp.b2.mul hq.b2).mono (by omega))
theorem Sz.mul (hp : Sz n p) (hq : Sz m q) : Sz (n + m) (qmul p q) :=
  .nrm (Int.mul_ne_zero hp.ne hq.ne) (hp.b1.mul hq.b1) (hp.b2.mul hq.b2)
theorem Sz.div (hp : Sz n p) (hq : Sz m q) (h0 : q.1 ≠ 0) : Sz (n + m) (qdiv p q) :=
  .nrm (Int.mul_ne_zero hp.ne h0) (hp.b1.mul hq.b2) (hp.b2.mul hq.b1)
theorem sz01 : Sz 1 (0, 1) := ⟨by decide, by unfold Bt; decide, by unfold Bt; decide⟩
theorem sz11 : Sz 1 (1, 1) := ⟨by decide, by unfold Bt; decide, by unfold Bt; decide⟩
theorem szm1 : Sz 1 (-1, 1) := ⟨by decide, by unfold Bt; decide, by unfold Bt; decide⟩
end
section
variable {p q : Qn} (hp : Sz 4000 p) (hq : Sz 4000 q)
include hp hq
theorem lh_add : LH.B_add (N p) (N q) = .ok (N (qadd p q)) := by
  have e : lm_f [.int (p.1 * q.2 + q.1 * p.2), .int (p.2 * q.2)] = .ok (N (qadd p q)) := lawf_ok (Int.mul_ne_zero hp.ne hq.ne) (n := 9000) (by decide) (by decide) ((hp.b2.mul hq.b2).mono (by decide))
  simp [LH.B_add, LH.S_add, dMul_ok, hp.b1.sm, hp.b2.sm, hq.b1.sm, hq.b2.sm, e]
theorem lh_sub : LH.B_sub (N p) (N q) = .ok (N (qsub p q)) := by
  have e : lm_f [.int (p.1 * q.2 - q.1 * p.2), .int (p.2 * q.2)] = .ok (N (qsub p q)) := lawf_ok (Int.mul_ne_zero hp.ne hq.ne) (n := 9000) (by decide) (by decide) ((hp.b2.mul hq.b2).mono (by decide))
  simp [LH.B_sub, LH.S_sub, dMul_ok, hp.b1.sm, hp.b2.sm, hq.b1.sm, hq.b2.sm, e]
theorem lh_mul : LH.B_mul (N p) (N q) = .ok (N (qmul p q)) := by
  have e : lm_f [.int (p.1 * q.1), .int (p.2 * q.2)] = .ok (N (qmul p q)) := lawf_ok (Int.mul_ne_zero hp.ne hq.ne) (n := 9000) (by decide) (by decide) ((hp.b2.mul hq.b2).mono (by decide))
  simp [LH.B_mul, LH.S_mul, dMul_ok, hp.b1.sm, hp.b2.sm, hq.b1.sm, hq.b2.sm, e]
theorem lh_div (h0 : q.1 ≠ 0) : LH.B_div (N p) (N q) = .ok (N (qdiv p q)) := by
  have e : lm_f [.int (p.1 * q.2), .int (p.2 * q.1)] = .ok (N (qdiv p q)) := lawf_ok (Int.mul_ne_zero hp.ne h0) (n := 9000) (by decide) (by decide) ((hp.b2.mul hq.b1).mono (by decide))
  simp [LH.B_div, LH.S_div, dMul_ok, hp.b1.sm, hp.b2.sm, hq.b1.sm, hq.b2.sm, e]
theorem lh_less : LH.B_less (N p) (N q) = .ok (.bool (decide (p.1 * q.2 < q.1 * p.2))) := by
  simp [LH.B_less, LH.S_less, dMul_ok, hp.b1.sm, hp.b2.sm, hq.b1.sm, hq.b2.sm]
end
theorem pg_number {t b : Int} (hb : b ≠ 0) (h : Bt 9000 b) : PG.B_number (.int t) (.int b) = .ok (N (nrm t b)) := by
  have g0 := gcd_pos (t := t) hb
  have h1 : Sd (Nat.gcd t.natAbs b.natAbs : Int) := (gcd_bt hb h).sd (by omega) (by decide) (by decide)
  have h2 : Sd (-(Nat.gcd t.natAbs b.natAbs : Int)) := (gcd_bt hb h).neg.sd (by omega) (by decide) (by decide)
  by_cases h3 : b < 0
  · simp [PG.B_number, PG.S_number, hb, dDiv_ok, h1, h2, h3, N, nrm, fdiv_exact_neg g0 gcd_dvd_t, fdiv_exact_neg g0 gcd_dvd_b]
  · simp [PG.B_number, PG.S_number, hb, dDiv_ok, h1, h2, h3, N, nrm, fdiv_exact g0 gcd_dvd_t, fdiv_exact g0 gcd_dvd_b]
section
variable {p q : Qn} (hp : Sz 4000 p) (hq : Sz 4000 q)
include hp hq
theorem pg_plus : PG.B_plus (N p) (N q) = .ok (N (qadd p q)) := by
  have e : PG.m_number [.int (p.1 * q.2 + q.1 * p.2), .int (p.2 * q.2)] = .ok (N (qadd p q)) := pg_number (Int.mul_ne_zero hp.ne hq.ne) ((hp.b2.mul hq.b2).mono (by decide))
  simp [PG.B_plus, PG.S_plus, dMul_ok, hp.b1.sm, hp.b2.sm, hq.b1.sm, hq.b2.sm, e]
theorem pg_minus : PG.B_minus (N p) (N q) = .ok (N (qsub p q)) := by
  have e : PG.m_number [.int (p.1 * q.2 - q.1 * p.2), .int (p.2 * q.2)] = .ok (N (qsub p q)) := pg_number (Int.mul_ne_zero hp.ne hq.ne) ((hp.b2.mul hq.b2).mono (by decide))
  simp [PG.B_minus, PG.S_minus, dMul_ok, hp.b1.sm, hp.b2.sm, hq.b1.sm, hq.b2.sm, e]
theorem pg_times : PG.B_times (N p) (N q) = .ok (N (qmul p q)) := by
  have e : PG.m_number [.int (p.1 * q.1), .int (p.2 * q.2)] = .ok (N (qmul p q)) := pg_number (Int.mul_ne_zero hp.ne hq.ne) ((hp.b2.mul hq.b2).mono (by decide))
  simp [PG.B_times, PG.S_times, dMul_ok, hp.b1.sm, hp.b2.sm, hq.b1.sm, hq.b2.sm, e]
def qcmp (p q : Qn) : Int := if p.1 * q.2 < q.1 * p.2 then -1 else if q.1 * p.2 < p.1 * q.2 then 1 else 0
theorem pg_compare : PG.B_compare (N p) (N q) = .ok (.int (qcmp p q)) := by
  unfold qcmp
  by_cases h1 : p.1 * q.2 < q.1 * p.2
  · simp [PG.B_compare, PG.S_compare, dMul_ok, hp.b1.sm, hp.b2.sm, hq.b1.sm, hq.b2.sm, h1]
  · by_cases h2 : q.1 * p.2 < p.1 * q.2
    · simp [PG.B_compare, PG.S_compare, dMul_ok, hp.b1.sm, hp.b2.sm, hq.b1.sm, hq.b2.sm, h1, h2]
    · simp [PG.B_compare, PG.S_compare, dMul_ok, hp.b1.sm, hp.b2.sm, hq.b1.sm, hq.b2.sm, h1, h2]
end
/-! loops and comprehensions over lists of any kind -/
section
variable {α : Type} {T : Tg} {S1 : Rho → Out} {Tt : Rho → Res Bool} {F : Rho → Res PyData} {ρ : Rho}
theorem loopS_list (I : List α → Rho → Prop) (g : α → PyData) (xs : List α) (h : ∀ (pre : List α) (x : α) (post : List α) (ρ : Rho), xs = pre ++ x :: post → I pre ρ → ∃ ρ1 ρ2, T (g x) ρ = some ρ1 ∧ S1 ρ1 = .nx ρ2 ∧ I (pre ++ [x]) ρ2) (ρ : Rho) (h0 : I [] ρ) :
    ∃ ρ', loopS T S1 (xs.map g) ρ = .nx ρ' ∧ I xs ρ' := by
  have main : ∀ (post pre : List α) (ρ : Rho), xs = pre ++ post → I pre ρ → ∃ ρ', loopS T S1 (post.map g) ρ = .nx ρ' ∧ I xs ρ' := by
    intro post
    induction post with
    | nil => intro pre ρ e i; rw [List.append_nil] at e; subst e; exact ⟨ρ, rfl, i⟩
    | cons x post ih =>
      intro pre ρ e i
      obtain ⟨ρ1, ρ2, h1, h2, h3⟩ := h pre x post ρ e i
      obtain ⟨ρ', q1, q2⟩ := ih (pre ++ [x]) ρ2 (by simp [e]) h3
      refine ⟨ρ', ?_, q2⟩
      rw [List.map_cons, loopS_cons h1, h2]
      exact q1
  exact main xs [] ρ rfl h0
def valR {β : Type} : Res β → Option β
  | .ok a _ => some a
  | _ => none
@[simp] theorem valR_ok {β : Type} {a : β} {ρ : Rho} : valR (Res.ok a ρ) = some a := id rfl
def stepC (T : Tg) (Tt : Rho → Res Bool) (F : Rho → Res PyData) (ρ : Rho) (d : PyData) : Option (Option PyData) := (T d ρ).bind fun ρ2 => match Tt ρ2 with
  | .ok false _ => some none
  | .ok true ρ3 => (valR (F ρ3)).map some
  | _ => none
theorem compL_filter (p : α → Bool) (g f : α → PyData) : ∀ (xs : List α) (acc : List PyData), (∀ x ∈ xs, stepC T Tt F ρ (g x) = some (if p x = true then some (f x) else none)) → acc.length + xs.length ≤ 16777216 →
    compL T Tt F ρ (xs.map g) acc = some (acc ++ (xs.filter p).map f)
  | [], acc, _, _ => by simp [compL]
  | x :: xs, acc, h, hl => by
    have h1 := h x List.mem_cons_self
    have hl' : acc.length + (xs.length + 1) ≤ 16777216 := hl
    have z := compL_filter p g f xs
    unfold stepC at h1
    rw [List.map_cons]
    unfold compL
    cases e1 : T (g x) ρ with
    | none => rw [e1] at h1; cases h1
    | some ρ2 =>
      rw [e1, Option.bind_some] at h1
      dsimp only
      cases e2 : Tt ρ2 with
      | bad => rw [e2] at h1; cases h1
      | ex _ _ => rw [e2] at h1; cases h1
      | ok b ρ3 =>
        rw [e2] at h1
        cases b with
        | false =>
          dsimp only at h1 ⊢
          cases e : p x with
          | true => rw [e] at h1; cases h1
          | false =>
            rw [z acc (fun y hy => h y (List.mem_cons_of_mem _ hy)) (by omega)]
            simp [e]
        | true =>
          dsimp only at h1 ⊢
          cases e3 : F ρ3 with
          | bad => rw [e3] at h1; cases h1
          | ex _ _ => rw [e3] at h1; cases h1
          | ok y ρ4 =>
            rw [e3] at h1
            simp only [valR, Option.map_some] at h1
            cases e : p x with
            | false => rw [e] at h1; cases h1
            | true =>
              rw [e, if_pos rfl] at h1
              cases h1
              have hs : acc.length < sizeLine := by rw [sizeLine_eq]; omega
              dsimp only
              rw [if_pos hs, z (acc ++ [f x]) (fun y hy => h y (List.mem_cons_of_mem _ hy)) (by simp; omega)]
              simp [e]
theorem compL_map (g f : α → PyData) (xs : List α) (h : ∀ x ∈ xs, ((T (g x) ρ).bind fun ρ2 => valR (F ρ2)) = some (f x)) (hl : xs.length ≤ 16777216) : compL T yesT F ρ (xs.map g) [] = some (xs.map f) := by
  have z := compL_filter (T := T) (Tt := yesT) (F := F) (ρ := ρ) (fun _ => true) g f xs [] (fun x hx => by
    have h1 := h x hx
    unfold stepC yesT
    cases e1 : T (g x) ρ with
    | none => rw [e1] at h1; cases h1
    | some ρ2 =>
      rw [e1, Option.bind_some] at h1
      rw [Option.bind_some]
      dsimp only
      rw [h1]
      rfl) (by simpa using hl)
  rw [z, List.filter_eq_self.mpr (fun _ _ => rfl)]
  rfl
end
/-! parts, rows -/
abbrev Pt := Str × Qn
abbrev pD (p : Pt) : PyData := .tuple [.str p.1, .tuple [.int p.2.1, .int p.2.2]]
abbrev psD (ps : List Pt) : PyData := .tuple (ps.map pD)
abbrev Rw := List Pt × Str × Qn
abbrev rD (r : Rw) : PyData := .tuple [psD r.1, .str r.2.1, .tuple [.int r.2.2.1, .int r.2.2.2]]
def scaleM (r : Rw) (f : Qn) : Rw := (r.1.map fun p => (p.1, qmul p.2 f), r.2.1, qmul r.2.2 f)
structure SzR (n : Nat) (r : Rw) : Prop where
  ps : ∀ p ∈ r.1, Sz n p.2
  bd : Sz n r.2.2
theorem SzR.mono {n m : Nat} {r : Rw} (h : SzR n r) (k : n ≤ m) : SzR m r := ⟨fun p hp => (h.ps p hp).mono k, h.bd.mono k⟩
@[simp] theorem lcF_apc {vs : List Nat} {Fi : Rho → Res (List PyData)} {T : Tg} {Tt : Rho → Res Bool} {F : Rho → Res PyData} {e0 : Ent} {ρ : Rho} : lcF vs Fi T Tt F (e0 :: ρ) = (Fi (e0 :: ρ)).bind fun ds ρ1 =>
  if (∀ v ∈ vs, v < ρ1.length) then (match compL T Tt F (wipeR (blkR ρ1) vs) ds [] with
    | some r => .ok (.list r) (frz ρ1)
    | none => .bad) else .bad := id rfl
section
variable {xs : List PyData} {x : PyData} {e : Ent} {ρ : Rho} {v : Nat} {vs : List Nat} {kvs : List (Key × PyData)}
@[simp] theorem frzE_d : frzE (.d x) = .d x := id rfl
@[simp] theorem frzE_un : frzE .un = .un := id rfl
@[simp] theorem frzE_own : frzE (.own xs) = .d (.list xs) := id rfl
@[simp] theorem frzE_dct : frzE (.dct kvs) = .dct kvs := id rfl
@[simp] theorem roE_d : roE (.d x) = .d x := id rfl
@[simp] theorem roE_un : roE .un = .un := id rfl
@[simp] theorem roE_dct : roE (.dct kvs) = .rdd kvs := id rfl
@[simp] theorem frz_nil : frz [] = [] := id rfl
@[simp] theorem frz_cons : frz (e :: ρ) = frzE e :: frz ρ := id rfl
@[simp] theorem blkR_nil : blkR [] = [] := id rfl
@[simp] theorem blkR_cons : blkR (e :: ρ) = roE (frzE e) :: blkR ρ := id rfl
@[simp] theorem wipeR_nil : wipeR ρ [] = ρ := id rfl
@[simp] theorem wipeR_cons : wipeR ρ (v :: vs) = (wipeR ρ vs).set v .un := id rfl
end
theorem str_shaped {a : Str} (h : PySem.PyData.strOk a = true) : SeqAt.shaped (.str a) = true := by
  simp [SeqAt.shaped, PyData.canLay0, h, PyData.depth]
theorem dEq_s {a b : Str} (ha : PySem.PyData.strOk a = true) (hb : PySem.PyData.strOk b = true) : dEq (.str a) (.str b) = some (.bool (a == b)) := by
  simp [dEq, str_shaped, ha, hb, PyData.eqv]
theorem dNe_s {a b : Str} (ha : PySem.PyData.strOk a = true) (hb : PySem.PyData.strOk b = true) : dNe (.str a) (.str b) = some (.bool (!(a == b))) := by
  simp [dNe, str_shaped, ha, hb, PyData.eqv]
def Sgn (s : Str) : Prop := s = "<=" ∨ s = "<" ∨ s = "="
theorem ok_eq : PySem.PyData.strOk "=" = true := by decide +kernel
theorem ok_lt : PySem.PyData.strOk "<" = true := by decide +kernel
theorem ok_le : PySem.PyData.strOk "<=" = true := by decide +kernel
theorem ok_gt : PySem.PyData.strOk ">" = true := by decide +kernel
theorem ok_ge : PySem.PyData.strOk ">=" = true := by decide +kernel
theorem Sgn.ok {s : Str} (h : Sgn s) : PySem.PyData.strOk s = true := by rcases h with rfl | rfl | rfl <;> first | exact ok_le | exact ok_lt | exact ok_eq
theorem lh_scaled {r : Rw} {f : Qn} (h : SzR 4000 r) (hf : Sz 4000 f) (hl : r.1.length ≤ 1000) : LH.B_scaled (rD r) (N f) = .ok (rD (scaleM r f)) := by
  have c : compL (tupT 2 (consTs (nameT 2) (consTs (nameT 3) nilTs))) yesT (tupF (consA (varF 2) (consA (callF LH.m_mul (consA (varF 3) (consA (varF 1) nilA))) nilA))) [.d (rD r), .d (N f), .un, .un] (r.1.map pD) [] = some ((scaleM r f).1.map pD) := by
    rw [compL_map pD (fun p => pD (p.1, qmul p.2 f)) r.1 (fun p hp => ?_) (by omega)]
    · simp [scaleM]
    · have e : LH.m_mul [.tuple [.int p.2.1, .int p.2.2], .tuple [.int f.1, .int f.2]] = .ok (N (qmul p.2 f)) := lh_mul (h.ps p hp) hf
      simp [e]
  have e : LH.m_mul [.tuple [.int r.2.2.1, .int r.2.2.2], .tuple [.int f.1, .int f.2]] = .ok (N (qmul r.2.2 f)) := lh_mul h.bd hf
  simp [LH.B_scaled, LH.S_scaled, e, c]
  simp [scaleM]
/-! the factor of the normal form, by the laws -/
def comM (ps : List Pt) (c : Int) : Int := ps.foldl (fun c p => c * p.2.2) c
def shM (C : Int) (ps : List Pt) (s : Nat) : Nat := ps.foldl (fun s p => Nat.gcd s (p.2.1.natAbs * (C / p.2.2).natAbs)) s
def sgnM (b : Bool) (f : Qn) : Qn := if b = true then qmul f (-1, 1) else f
def factorM (r : Rw) : Qn := match r.1 with
  | [] => if r.2.2.1 = 0 then (1, 1) else sgnM (r.2.1 == "=" && decide (r.2.2.1 < 0)) (qdiv (1, 1) (nrm (r.2.2.1.natAbs : Int) r.2.2.2))
  | p :: ps => sgnM (r.2.1 == "=" && decide (p.2.1 < 0)) (nrm (comM (p :: ps) 1) (shM (comM (p :: ps) 1) (p :: ps) 0))
theorem comM_pos : ∀ (ps : List Pt) {c : Int} {n : Nat}, (∀ p ∈ ps, Sz n p.2) → 0 < c → 0 < comM ps c
  | [], c, _, _, h => h
  | p :: ps, c, n, hp, h => comM_pos ps (c := c * p.2.2) (n := n) (fun q hq => hp q (List.mem_cons_of_mem _ hq)) (Int.mul_pos h (hp p List.mem_cons_self).pos)
theorem comM_bt : ∀ (ps : List Pt) {c : Int} {n k : Nat}, (∀ p ∈ ps, Sz n p.2) → Bt k c → Bt (k + n * ps.length) (comM ps c)
  | [], c, n, k, _, h => by simpa [comM] using h
  | p :: ps, c, n, k, hp, h => by
    have z := comM_bt ps (c := c * p.2.2) (n := n) (k := k + n) (fun q hq => hp q (List.mem_cons_of_mem _ hq)) (h.mul (hp p List.mem_cons_self).b2)
    have e : k + n * (p :: ps).length = k + n + n * ps.length := by rw [List.length_cons, Nat.mul_succ]; omega
    rw [e]
    exact z
section
variable {d0 d1 d2 d3 e4 e8 e9 e10 : Ent}
theorem fac1 : ∀ (ps : List Pt) {c : Int} {n k : Nat} (e6 e7 : Ent), (∀ p ∈ ps, Sz n p.2) → Bt k c → k + n * ps.length ≤ 40000 →
    ∃ e6' e7', loopS (tupT 2 (consTs (nameT 6) (consTs (nameT 7) nilTs))) LH.L_factor_1 (ps.map pD) [d0, d1, d2, d3, e4, .d (.int c), e6, e7, e8, e9, e10] = .nx [d0, d1, d2, d3, e4, .d (.int (comM ps c)), e6', e7', e8, e9, e10]
  | [], c, n, k, e6, e7, _, _, _ => ⟨e6, e7, rfl⟩
  | p :: ps, c, n, k, e6, e7, hp, h, hk => by
    have h1 := hp p List.mem_cons_self
    have hk' : k + n * (ps.length + 1) ≤ 40000 := hk
    rw [Nat.mul_succ] at hk'
    obtain ⟨e6', e7', z⟩ := fac1 ps (c := c * p.2.2) (n := n) (k := k + n) (.d (.str p.1)) (.d (N p.2)) (fun q hq => hp q (List.mem_cons_of_mem _ hq)) (h.mul h1.b2) (by omega)
    refine ⟨e6', e7', ?_⟩
    rw [List.map_cons, loopS_cons (ρ1 := [d0, d1, d2, d3, e4, .d (.int c), .d (.str p.1), .d (N p.2), e8, e9, e10]) (by simp)]
    simp [LH.L_factor_1, dMul_ok, h.sm (by omega), h1.b2.sm (by omega)]
    exact z
end
theorem euclid9 (e0 e1 e2 e3 e4 e5 e6 e7 e8 : Ent) : ∀ (n : Nat) (m : Nat), whileS (testF (binF dNe (varF 10) (cF (.int 0)))) LH.L_factor_2 [e0, e1, e2, e3, e4, e5, e6, e7, e8, .d (.int (m : Int)), .d (.int (n : Int))] =
    .nx [e0, e1, e2, e3, e4, e5, e6, e7, e8, .d (.int (Nat.gcd n m : Int)), .d (.int 0)] := by
  intro n
  induction n using Nat.strongRecOn with
  | _ n ih =>
    intro m
    rw [whileS_eq]
    by_cases h : n = 0
    · subst h
      simp
    · have h' : (n : Int) ≠ 0 := by omega
      have e : (m : Int).fmod (n : Int) = ((m % n : Nat) : Int) := by
        rw [Int.fmod_eq_emod_of_nonneg _ (by omega)]
        simp
      simp [LH.L_factor_2, h, dMod_ok, h', e]
      have q := ih (m % n) (Nat.mod_lt _ (by omega)) n
      rw [Nat.gcd_rec n m]
      simpa [LH.L_factor_2] using q
theorem max_abs (t : Int) : (if t < -t then -t else t) = ((t.natAbs : Nat) : Int) := by split <;> omega
section
variable {d0 d1 d2 d3 e4 : Ent}
theorem fac3 {C : Int} (hC : 0 < C) (bC : Bt 4000 C) : ∀ (ps : List Pt) (s : Nat) (e6 e7 e9 e10 : Ent), (∀ p ∈ ps, Sz 4000 p.2) →
    ∃ e6' e7' e9' e10', loopS (tupT 2 (consTs (nameT 6) (consTs (nameT 7) nilTs))) LH.L_factor_3 (ps.map pD) [d0, d1, d2, d3, e4, .d (.int C), e6, e7, .d (.int (s : Int)), e9, e10] = .nx [d0, d1, d2, d3, e4, .d (.int C), e6', e7', .d (.int (shM C ps s : Int)), e9', e10']
  | [], s, e6, e7, e9, e10, _ => ⟨e6, e7, e9, e10, rfl⟩
  | p :: ps, s, e6, e7, e9, e10, hp => by
    have h1 := hp p List.mem_cons_self
    have sd : Sd p.2.2 := h1.b2.sd h1.ne (by decide) (by decide)
    have f1 : C.fdiv p.2.2 = C / p.2.2 := Int.fdiv_eq_ediv_of_nonneg _ (by have := h1.pos; omega)
    have f0 : 0 ≤ C / p.2.2 := Int.ediv_nonneg (by omega) (by have := h1.pos; omega)
    obtain ⟨m, hm⟩ : ∃ m : Nat, m = p.2.1.natAbs * (C / p.2.2).natAbs := ⟨_, rfl⟩
    have e1 : ((p.2.1.natAbs : Nat) : Int) * (C / p.2.2) = (m : Int) := by
      rw [hm, Int.natCast_mul]
      congr 1
      omega
    have sm1 : Sm ((p.2.1.natAbs : Nat) : Int) := (Bt.le (n := 4000) h1.b1 (by simp)).sm (by decide)
    have sm2 : Sm (C / p.2.2) := (Bt.le (n := 4000) bC (by rw [Int.natAbs_ediv_of_nonneg (by omega)]; exact Nat.div_le_self _ _)).sm (by decide)
    obtain ⟨e6', e7', e9', e10', z⟩ := fac3 hC bC ps (Nat.gcd s m) (.d (.str p.1)) (.d (N p.2)) (.d (.int (Nat.gcd s m : Int))) (.d (.int 0)) (fun q hq => hp q (List.mem_cons_of_mem _ hq))
    refine ⟨e6', e7', e9', e10', ?_⟩
    have W := euclid9 d0 d1 d2 d3 e4 (.d (.int C)) (.d (.str p.1)) (.d (N p.2)) (.d (.int (s : Int))) s m
    have e2 : shM C (p :: ps) s = shM C ps (Nat.gcd s m) := by rw [hm]; rfl
    rw [e2]
    rw [List.map_cons, loopS_cons (ρ1 := [d0, d1, d2, d3, e4, .d (.int C), .d (.str p.1), .d (N p.2), .d (.int (s : Int)), e9, e10]) (by simp)]
    simp [LH.L_factor_3, max_abs, dDiv_ok, sd, f1, dMul_ok, sm1, sm2, e1, W]
    exact z
end
theorem shM_pos (C : Int) : ∀ (ps : List Pt) (s : Nat), 0 < s → 0 < shM C ps s
  | [], s, h => h
  | p :: ps, s, h => shM_pos C ps _ (Nat.gcd_pos_of_pos_left _ h)
theorem shM_le (C : Int) : ∀ (ps : List Pt) (s : Nat), 0 < s → shM C ps s ≤ s
  | [], s, h => Nat.le_refl _
  | p :: ps, s, h => Nat.le_trans (shM_le C ps _ (Nat.gcd_pos_of_pos_left _ h)) (Nat.gcd_le_left _ h)
end DL

/-! The laws' rows: factor, normal form, parts, a row, a system. -/
namespace DL
open PySem PySem.Spec PyProof.Rows L2 RT
theorem Sz.sgn {n : Nat} {f : Qn} (b : Bool) (h : Sz n f) : Sz (n + 1) (sgnM b f) := by
  unfold sgnM
  cases b with
  | true => rw [if_pos rfl]; exact h.mul szm1
  | false => rw [if_neg (by decide)]; exact h.mono (by omega)
theorem bt_nat {n : Nat} {a : Int} (h : Bt n a) : Bt n (a.natAbs : Int) := h.le (by simp)
theorem shM_bt {C : Int} (hC : 0 < C) {k n : Nat} (bC : Bt k C) {p : Pt} {ps : List Pt} (hp : Sz n p.2) (p0 : p.2.1 ≠ 0) (hb : p.2.2 ∣ C) : (0 < shM C (p :: ps) 0) ∧ Bt (n + k) (shM C (p :: ps) 0 : Int) := by
  have e : shM C (p :: ps) 0 = shM C ps (p.2.1.natAbs * (C / p.2.2).natAbs) := by
    show shM C ps (Nat.gcd 0 _) = _
    rw [Nat.gcd_zero_left]
  have f0 : 0 < C / p.2.2 := by
    obtain ⟨y, hy⟩ := hb
    have := hp.pos
    rw [hy, Int.mul_ediv_cancel_left _ (by omega)]
    apply Classical.byContradiction
    intro z
    have : 0 ≤ p.2.2 * (-y) := Int.mul_nonneg (by omega) (by omega)
    rw [Int.mul_neg] at this
    omega
  have m0 : 0 < p.2.1.natAbs * (C / p.2.2).natAbs := Nat.mul_pos (by omega) (by omega)
  rw [e]
  refine ⟨shM_pos C ps _ m0, ?_⟩
  have b1 : Bt (n + k) (p.2.1 * (C / p.2.2)) := hp.b1.mul (Bt.le bC (by rw [Int.natAbs_ediv_of_nonneg (by omega)]; exact Nat.div_le_self _ _))
  refine b1.le ?_
  rw [Int.natAbs_mul, Int.natAbs_natCast]
  exact shM_le C ps _ m0
theorem comM_dvd : ∀ (ps : List Pt) (c : Int), c ∣ comM ps c
  | [], c => Int.dvd_refl c
  | p :: ps, c => Int.dvd_trans (Int.dvd_mul_right c p.2.2) (comM_dvd ps (c * p.2.2))
theorem comM_head (p : Pt) (ps : List Pt) : p.2.2 ∣ comM (p :: ps) 1 := by
  have := comM_dvd ps (1 * p.2.2)
  rw [Int.one_mul] at this
  show p.2.2 ∣ comM ps (1 * p.2.2)
  rw [Int.one_mul]
  exact this
theorem lh_factor {r : Rw} {n : Nat} (h : SzR n r) (hs : PySem.PyData.strOk r.2.1 = true) (nz : ∀ p ∈ r.1, p.2.1 ≠ 0) (hl : r.1.length ≤ 1000) (hn : n * (r.1.length + 1) + 4 ≤ 3900) :
    LH.B_factor (rD r) = .ok (N (factorM r)) ∧ Sz (n * (r.1.length + 1) + 4) (factorM r) := by
  obtain ⟨ps, sg, bd⟩ := r
  simp only at h hs nz hl hn ⊢
  have n1 : n ≤ 3900 := by
    have : n * 1 ≤ n * (ps.length + 1) := Nat.mul_le_mul_left _ (by omega)
    omega
  have hb := h.bd
  simp only at hb
  cases ps with
  | nil =>
    by_cases b0 : bd.1 = 0
    · constructor
      · simp [LH.B_factor, LH.S_factor, b0, factorM]
      · simp only [factorM, if_pos b0]
        exact sz11.mono (by simp)
    · have bt1 : Bt n bd.2 := hb.b2
      have e1 : lm_f [.int (bd.1.natAbs : Int), .int bd.2] = .ok (N (nrm (bd.1.natAbs : Int) bd.2)) := lawf_ok hb.ne (n := 3901) (by omega) (by omega) (bt1.mono (by omega))
      have z1 : Sz n (nrm (bd.1.natAbs : Int) bd.2) := .nrm hb.ne (bt_nat hb.b1) hb.b2
      have z0 : (nrm (bd.1.natAbs : Int) bd.2).1 ≠ 0 := by
        intro z
        have := nrm_cross (t := (bd.1.natAbs : Int)) hb.ne
        rw [z, Int.zero_mul] at this
        have q : (bd.1.natAbs : Int) ≠ 0 := by omega
        have := Int.mul_ne_zero q z1.ne
        omega
      have e2 : LH.m_div [.tuple [.int 1, .int 1], .tuple [.int (nrm (bd.1.natAbs : Int) bd.2).1, .int (nrm (bd.1.natAbs : Int) bd.2).2]] = .ok (N (qdiv (1, 1) (nrm (bd.1.natAbs : Int) bd.2))) := lh_div (sz11.mono (by decide)) (z1.mono (by omega)) z0
      have z2 := sz11.div z1 z0
      have e3 : LH.m_mul [.tuple [.int (qdiv (1, 1) (nrm (bd.1.natAbs : Int) bd.2)).1, .int (qdiv (1, 1) (nrm (bd.1.natAbs : Int) bd.2)).2], .tuple [.int (-1), .int 1]] = .ok (N (qmul (qdiv (1, 1) (nrm (bd.1.natAbs : Int) bd.2)) (-1, 1))) := lh_mul (z2.mono (by omega)) (szm1.mono (by decide))
      constructor
      · simp only [factorM, if_neg b0]
        cases hq : (sg == "=") with
        | false => simp [LH.B_factor, LH.S_factor, b0, max_abs, e1, e2, dEq_s hs ok_eq, hq, sgnM]
        | true =>
          by_cases h0 : bd.1 < 0
          · simp [LH.B_factor, LH.S_factor, b0, max_abs, e1, e2, dEq_s hs ok_eq, hq, sgnM, h0, e3]
          · simp [LH.B_factor, LH.S_factor, b0, max_abs, e1, e2, dEq_s hs ok_eq, hq, sgnM, h0]
      · simp only [factorM, if_neg b0]
        exact (z2.sgn _).mono (by simp; omega)
  | cons p ps =>
    have hp := h.ps
    simp only at hp
    have C0 := comM_pos (p :: ps) (c := 1) hp (by decide)
    have bC := comM_bt (p :: ps) (c := 1) (k := 1) hp (by unfold Bt; decide)
    have e0 : n * ((p :: ps).length + 1) = n * (p :: ps).length + n := Nat.mul_succ _ _
    rw [e0] at hn ⊢
    have hm : n * (p :: ps).length ≤ 3900 := by omega
    obtain ⟨s0, sB⟩ := shM_bt C0 bC (ps := ps) (hp p List.mem_cons_self) (nz p List.mem_cons_self) (comM_head p ps)
    have W1 := fun d0 d1 d2 d3 e4 e8 e9 e10 e6 e7 => fac1 (d0 := d0) (d1 := d1) (d2 := d2) (d3 := d3) (e4 := e4) (e8 := e8) (e9 := e9) (e10 := e10) (p :: ps) (c := 1) (k := 1) e6 e7 hp (by unfold Bt; decide) (by omega)
    generalize hCC : comM (p :: ps) 1 = C at *
    have W2 := fun d0 d1 d2 d3 e4 e6 e7 e9 e10 => fac3 (d0 := d0) (d1 := d1) (d2 := d2) (d3 := d3) (e4 := e4) C0 (bC.mono (by omega)) (p :: ps) 0 e6 e7 e9 e10 (fun q hq => (hp q hq).mono (by omega))
    obtain ⟨a6, a7, W1⟩ := W1 (.d (rD (p :: ps, sg, bd))) (.d (psD (p :: ps))) (.d (.str sg)) (.d (N bd)) .un .un .un .un .un .un
    obtain ⟨a6', a7', a9', a10', W2⟩ := W2 (.d (rD (p :: ps, sg, bd))) (.d (psD (p :: ps))) (.d (.str sg)) (.d (N bd)) .un a6 a7 .un .un
    have Fs : factorM (p :: ps, sg, bd) = sgnM (sg == "=" && decide (p.2.1 < 0)) (nrm C (shM C (p :: ps) 0)) := by
      simp only [factorM]
      rw [hCC]
    rw [Fs]
    generalize shM C (p :: ps) 0 = S at *
    have e1 : lm_f [.int C, .int (S : Int)] = .ok (N (nrm C (S : Int))) := lawf_ok (by omega) (n := 9000) (by omega) (by omega) (sB.mono (by omega))
    have z1 : Sz (n + (1 + n * (p :: ps).length)) (nrm C (S : Int)) := .nrm (by omega) (bC.mono (by omega)) sB
    have e3 : LH.m_mul [.tuple [.int (nrm C (S : Int)).1, .int (nrm C (S : Int)).2], .tuple [.int (-1), .int 1]] = .ok (N (qmul (nrm C (S : Int)) (-1, 1))) := lh_mul (z1.mono (by omega)) (szm1.mono (by decide))
    have hl2 : ¬ ((ps.length : Int) + 1 = 0) := by omega
    have hi : dIx (psD (p :: ps)) (.int 0) = some (pD p) := dIx_t0
    rw [show ((0 : Nat) : Int) = 0 from rfl] at W2
    simp only [List.map_cons] at W1 W2
    constructor
    · cases hq : (sg == "=") with
      | false => simp [LH.B_factor, LH.S_factor, hl2, hi, e1, W1, W2, dEq_s hs ok_eq, hq, sgnM]
      | true =>
        by_cases h0 : p.2.1 < 0
        · simp [LH.B_factor, LH.S_factor, hl2, hi, e1, W1, W2, dEq_s hs ok_eq, hq, sgnM, h0, e3]
        · simp [LH.B_factor, LH.S_factor, hl2, hi, e1, W1, W2, dEq_s hs ok_eq, hq, sgnM, h0]
    · exact (z1.sgn _).mono (by omega)
end DL

namespace DL
open PySem PySem.Spec PyProof.Rows L2 RT
def normM (r : Rw) : Rw := scaleM r (factorM r)
theorem lh_normal {r : Rw} {n : Nat} (h : SzR n r) (hs : PySem.PyData.strOk r.2.1 = true) (nz : ∀ p ∈ r.1, p.2.1 ≠ 0) (hl : r.1.length ≤ 1000) (hn : n * (r.1.length + 1) + 4 ≤ 3900) :
    LH.B_normal (rD r) = .ok (rD (normM r)) := by
  obtain ⟨e, z⟩ := lh_factor h hs nz hl hn
  have n1 : n ≤ 3900 := by
    have : n * 1 ≤ n * (r.1.length + 1) := Nat.mul_le_mul_left _ (by omega)
    omega
  have e1 : LH.m_factor [rD r] = .ok (N (factorM r)) := e
  have e2 : LH.m_scaled [rD r, N (factorM r)] = .ok (rD (normM r)) := lh_scaled (h.mono (by omega)) (z.mono (by omega)) hl
  simp [LH.B_normal, LH.S_normal, e1, e2]
theorem SzR.norm {r : Rw} {n : Nat} (h : SzR n r) (hs : PySem.PyData.strOk r.2.1 = true) (nz : ∀ p ∈ r.1, p.2.1 ≠ 0) (hl : r.1.length ≤ 1000) (hn : n * (r.1.length + 1) + 4 ≤ 3900) : SzR (n + (n * (r.1.length + 1) + 4)) (normM r) := by
  obtain ⟨e, z⟩ := lh_factor h hs nz hl hn
  refine ⟨fun p hp => ?_, h.bd.mul z⟩
  obtain ⟨q, hq, rfl⟩ := List.mem_map.mp hp
  exact (h.ps q hq).mul z
/-! parts: added up, ascending, without 0 -/
def getQ (kvs : List Pt) (x : Str) : Qn := ((kvs.find? fun kv => decide (kv.1 = x)).map (·.2)).getD (0, 1)
def putQ (kvs : List Pt) (x : Str) (v : Qn) : List Pt :=
  if (kvs.any fun kv => decide (kv.1 = x)) = true then kvs.map (fun kv => if kv.1 = x then (kv.1, v) else kv) else kvs ++ [(x, v)]
def dQ (kvs : List Pt) : List (Key × PyData) := kvs.map fun p => (Sum.inr p.1, N p.2)
theorem valD_dQ : ∀ (kvs : List Pt) (x : Str), (valD (dQ kvs) (.inr x)).getD (N (0, 1)) = N (getQ kvs x)
  | [], x => rfl
  | p :: kvs, x => by
    have z := valD_dQ kvs x
    by_cases h : p.1 = x
    · simp [dQ, valD, getQ, h]
    · simp [dQ, valD, getQ, h] at z ⊢
      exact z
theorem valD_dQ2 : ∀ (kvs : List Pt) (x : Str), x ∈ kvs.map (·.1) → valD (dQ kvs) (.inr x) = some (N (getQ kvs x))
  | p :: kvs, x, hx => by
    by_cases h : p.1 = x
    · simp [dQ, valD, getQ, h]
    · have z := valD_dQ2 kvs x (by simpa [Ne.symm h] using hx)
      simp [dQ, valD, getQ, h] at z ⊢
      exact z
theorem putD_dQ (kvs : List Pt) (x : Str) (v : Qn) : putD (dQ kvs) (.inr x) (N v) = dQ (putQ kvs x v) := by
  unfold putD putQ
  have e : ((dQ kvs).any fun kv => decide (kv.1 = Sum.inr x)) = (kvs.any fun kv => decide (kv.1 = x)) := by simp [dQ, List.any_map, Function.comp_def]
  rw [e]
  split
  · simp only [dQ, List.map_map]
    apply List.map_congr_left
    intro p _
    by_cases h : p.1 = x <;> simp [h]
  · simp [dQ]
def addQ (kvs : List Pt) (p : Pt) : List Pt := putQ kvs p.1 (qadd (getQ kvs p.1) p.2)
def sumQ (ps kvs : List Pt) : List Pt := ps.foldl addQ kvs
def partsM (ps : List Pt) : List Pt := ((sortS ((sumQ ps []).map (·.1))).map fun x => (x, getQ (sumQ ps []) x)).filter fun p => decide (p.2.1 ≠ 0)
theorem putQ_len (kvs : List Pt) (x : Str) (v : Qn) : (putQ kvs x v).length ≤ kvs.length + 1 := by
  unfold putQ
  split <;> simp
theorem mem_putQ {kvs : List Pt} {x : Str} {v : Qn} {p : Pt} (h : p ∈ putQ kvs x v) : p ∈ kvs ∨ p = (x, v) := by
  unfold putQ at h
  split at h
  · obtain ⟨q, hq, e⟩ := List.mem_map.mp h
    by_cases z : q.1 = x
    · rw [if_pos z] at e
      right; rw [← e, z]
    · rw [if_neg z] at e
      left; rw [← e]; exact hq
  · rcases List.mem_append.mp h with h | h
    · exact .inl h
    · right; simpa using h
theorem getQ_mem {kvs : List Pt} {x : Str} : getQ kvs x = (0, 1) ∨ ∃ p ∈ kvs, p.1 = x ∧ getQ kvs x = p.2 := by
  unfold getQ
  cases e : kvs.find? fun kv => decide (kv.1 = x) with
  | none => left; rfl
  | some p =>
    right
    exact ⟨p, List.mem_of_find?_eq_some e, by simpa using List.find?_some e, rfl⟩
theorem Sz.get {n : Nat} {kvs : List Pt} (h : ∀ p ∈ kvs, Sz (n + 1) p.2) (x : Str) : Sz (n + 1) (getQ kvs x) := by
  rcases getQ_mem (kvs := kvs) (x := x) with e | ⟨p, hp, _, e⟩
  · rw [e]; exact sz01.mono (by omega)
  · rw [e]; exact h p hp
theorem Sz.addQ {n k : Nat} {kvs : List Pt} (h : ∀ p ∈ kvs, Sz (k + 1) p.2) {p : Pt} (hp : Sz n p.2) : ∀ q ∈ addQ kvs p, Sz (k + (n + 1) + 1) q.2 := by
  intro q hq
  rcases mem_putQ hq with hq | rfl
  · exact (h q hq).mono (by omega)
  · exact ((Sz.get h p.1).add hp).mono (by omega)
theorem Sz.sumQ {n : Nat} : ∀ (ps : List Pt) {k : Nat} {kvs : List Pt}, (∀ p ∈ kvs, Sz (k + 1) p.2) → (∀ p ∈ ps, Sz n p.2) → ∀ q ∈ sumQ ps kvs, Sz (k + (n + 1) * ps.length + 1) q.2
  | [], k, kvs, h, _ => by simpa [DL.sumQ] using h
  | p :: ps, k, kvs, h, hp => by
    have z := Sz.sumQ (n := n) ps (k := k + (n + 1)) (kvs := DL.addQ kvs p) (Sz.addQ h (hp p List.mem_cons_self)) (fun q hq => hp q (List.mem_cons_of_mem _ hq))
    have e : k + (n + 1) * (p :: ps).length + 1 = k + (n + 1) + (n + 1) * ps.length + 1 := by rw [List.length_cons, Nat.mul_succ]; omega
    rw [e]
    exact z
theorem sumQ_len : ∀ (ps kvs : List Pt), (sumQ ps kvs).length ≤ kvs.length + ps.length
  | [], kvs => by simp [sumQ]
  | p :: ps, kvs => by
    have z := sumQ_len ps (addQ kvs p)
    have := putQ_len kvs p.1 (qadd (getQ kvs p.1) p.2)
    simp only [sumQ, List.foldl_cons, List.length_cons] at z ⊢
    unfold addQ at z ⊢
    omega
theorem Sz.parts {n : Nat} {ps : List Pt} (h : ∀ p ∈ ps, Sz n p.2) : ∀ q ∈ partsM ps, Sz ((n + 1) * ps.length + 1) q.2 := by
  intro q hq
  obtain ⟨q1, _⟩ := List.mem_filter.mp hq
  obtain ⟨x, hx, rfl⟩ := List.mem_map.mp q1
  have z := Sz.sumQ (n := n) ps (k := 0) (kvs := []) (fun _ h => by cases h) h
  simp only [Nat.zero_add] at z
  exact Sz.get z x
theorem partsM_nz {ps : List Pt} : ∀ q ∈ partsM ps, q.2.1 ≠ 0 := fun q hq => by simpa using (List.mem_filter.mp hq).2
theorem partsM_len (ps : List Pt) : (partsM ps).length ≤ ps.length := by
  have z := sumQ_len ps []
  have := List.length_filter_le (fun p : Pt => decide (p.2.1 ≠ 0)) ((sortS ((sumQ ps []).map (·.1))).map fun x => (x, getQ (sumQ ps []) x))
  unfold partsM
  rw [List.length_map, (sortS_perm _).length_eq, List.length_map] at this
  simp only [List.length_nil] at z
  omega
theorem keysS_dQ : ∀ kvs : List Pt, keysS (dQ kvs) = some (kvs.map (·.1))
  | [] => rfl
  | p :: kvs => by
    have z := keysS_dQ kvs
    simp only [dQ, List.map_cons, keysS] at z ⊢
    rw [z]
    rfl
section
variable {e0 : Ent} (PS : Rho → Out)
theorem sum_loop (A : Fn) (hA : ∀ p q : Qn, Sz 4000 p → Sz 4000 q → A [N p, N q] = .ok (N (qadd p q))) (Z : Rho → Res PyData) (hZ : ∀ e0 ρ, Z (e0 :: ρ) = .ok (N (0, 1)) (e0 :: ρ))
    (hPS : PS = putS 1 (varF 2) (callF A (consA (dgetF 1 (varF 2) Z) (consA (varF 3) nilA)))) : ∀ (ps kvs : List Pt) {n k : Nat} (e2 e3 : Ent), (∀ p ∈ kvs, Sz (k + 1) p.2) → (∀ p ∈ ps, Sz n p.2) → k + (n + 1) * ps.length + 1 ≤ 3900 → n ≤ 3900 → kvs.length + ps.length ≤ 1000 →
    ∃ e2' e3', loopS (tupT 2 (consTs (nameT 2) (consTs (nameT 3) nilTs))) PS (ps.map pD) [e0, .dct (dQ kvs), e2, e3] = .nx [e0, .dct (dQ (sumQ ps kvs)), e2', e3']
  | [], kvs, n, k, e2, e3, _, _, _, _, _ => ⟨e2, e3, rfl⟩
  | p :: ps, kvs, n, k, e2, e3, hk, hp, hn, hn1, hl => by
    have e : (n + 1) * (p :: ps).length = (n + 1) * ps.length + (n + 1) := Nat.mul_succ _ _
    rw [e] at hn
    have hl' : kvs.length + (ps.length + 1) ≤ 1000 := hl
    have h1 := hp p List.mem_cons_self
    have hlen : (addQ kvs p).length ≤ kvs.length + 1 := putQ_len _ _ _
    obtain ⟨e2', e3', z⟩ := sum_loop A hA Z hZ hPS ps (addQ kvs p) (n := n) (k := k + (n + 1)) (.d (.str p.1)) (.d (N p.2)) (Sz.addQ hk h1) (fun q hq => hp q (List.mem_cons_of_mem _ hq)) (by omega) hn1 (by omega)
    refine ⟨e2', e3', ?_⟩
    have c : A [N (getQ kvs p.1), N p.2] = .ok (N (qadd (getQ kvs p.1) p.2)) := hA _ _ ((Sz.get hk p.1).mono (by omega)) (h1.mono (by omega))
    have v := valD_dQ kvs p.1
    have hq : (dQ kvs).length < 16777216 := by simp [dQ]; omega
    rw [List.map_cons, loopS_cons (ρ1 := [e0, .dct (dQ kvs), .d (.str p.1), .d (N p.2)]) (by simp)]
    simp only [N] at c v hZ z
    have g : putD (dQ kvs) (.inr p.1) (.tuple [.int (qadd (getQ kvs p.1) p.2).1, .int (qadd (getQ kvs p.1) p.2).2]) = dQ (addQ kvs p) := putD_dQ kvs p.1 _
    have zz : loopS (tupT 2 (consTs (nameT 2) (consTs (nameT 3) nilTs))) PS (ps.map pD) [e0, .dct (dQ (addQ kvs p)), .d (.str p.1), .d (N p.2)] = _ := z
    rw [hPS] at zz ⊢
    simp [hZ, v, c, hq, g]
    exact zz
theorem keys_part (Z : Rho → Res Bool) (kvs : List Pt) {e2 e3 : Ent} (hZ : ∀ x ∈ kvs.map (·.1), Z [e0, .rdd (dQ kvs), .d (.str x), e3] = .ok (decide ((getQ kvs x).1 ≠ 0)) [e0, .rdd (dQ kvs), .d (.str x), e3]) (hl : kvs.length ≤ 1000) :
    compL (nameT 2) Z (tupF (consA (varF 2) (consA (dixF 1 (varF 2)) nilA))) [e0, .rdd (dQ kvs), .un, e3] ((sortS (kvs.map (·.1))).map PyData.str) [] = some ((((sortS (kvs.map (·.1))).map fun x => (x, getQ kvs x)).filter fun p => decide (p.2.1 ≠ 0)).map pD) := by
  have hm : ∀ x ∈ sortS (kvs.map (·.1)), x ∈ kvs.map (·.1) := fun x hx => (sortS_perm _).mem_iff.mp hx
  have hlen : (sortS (kvs.map (·.1))).length = kvs.length := by rw [(sortS_perm _).length_eq, List.length_map]
  rw [compL_filter (fun x => decide ((getQ kvs x).1 ≠ 0)) PyData.str (fun x => pD (x, getQ kvs x)) _ _ (fun x hx => ?_) (by simp only [List.length_nil, hlen]; omega)]
  · simp [List.filter_map, Function.comp_def]
  · have v := valD_dQ2 kvs x (hm x hx)
    simp only [N] at v
    have hz := hZ x (hm x hx)
    unfold stepC
    by_cases h0 : (getQ kvs x).1 = 0
    · simp [h0] at hz
      simp [hz, h0]
    · simp [h0] at hz
      simp [hz, h0, v]
end
theorem lh_parts {ps : List Pt} {n : Nat} (c : List PyData → PyData) (hc : c = PyData.list ∨ c = PyData.tuple) (h : ∀ p ∈ ps, Sz n p.2) (hn : (n + 1) * ps.length + 1 ≤ 3900) (hn1 : n ≤ 3900) (hl : ps.length < 60) : LH.B_parts (c (ps.map pD)) = .ok (psD (partsM ps)) := by
  have L := sum_loop (e0 := .d (c (ps.map pD))) LH.L_parts_1 LH.m_add (fun p q hp hq => lh_add hp hq) (tupF (consA (cF (.int 0)) (consA (cF (.int 1)) nilA))) (fun e0 ρ => by simp) rfl ps [] (n := n) (k := 0) .un .un (fun _ h => by cases h) h (by omega) hn1 (by simp; omega)
  obtain ⟨e2', e3', L⟩ := L
  have hlen := sumQ_len ps []
  simp only [List.length_nil, Nat.zero_add] at hlen
  have Kp := keys_part (e0 := .d (c (ps.map pD))) (testF (binF dNe (binF dIx (dixF 1 (varF 2)) (cF (.int 0))) (cF (.int 0)))) (sumQ ps []) (e2 := e2') (e3 := frzE e3' |> roE) (fun x hx => by
    have v := valD_dQ2 (sumQ ps []) x hx
    simp only [N] at v
    simp [v]
    by_cases h0 : (getQ (sumQ ps []) x).1 = 0 <;> simp [h0]) (by omega)
  have k1 := keysS_dQ (sumQ ps [])
  have hl2 : (sumQ ps []).length < 64 := by omega
  simp only [show dQ [] = [] from rfl] at L
  rcases hc with rfl | rfl
  · simp [LH.B_parts, LH.S_parts, L, k1, hl2, Kp]
    simp [partsM]
  · simp [LH.B_parts, LH.S_parts, L, k1, hl2, Kp]
    simp [partsM]
end DL

namespace DL
open PySem PySem.Spec PyProof.Rows L2 RT
def rowM (ps : List Pt) (sg : Str) (b : Qn) : Rw := normM (partsM ps, sg, b)
def flipM (ps : List Pt) : List Pt := ps.map fun p => (p.1, qsub (0, 1) p.2)
def Nam (x : Str) : Prop := x = "x" ∨ x = "b1" ∨ x = "total"
/-- a drawn row -/
def Good (r : Rw) : Prop := ∃ ps sg b, r = rowM ps sg b ∧ Sgn sg ∧ (∀ p ∈ ps, Sz 6 p.2 ∧ Nam p.1) ∧ ps.length ≤ 3 ∧ Sz 6 b
theorem szR_parts {ps : List Pt} {sg : Str} {b : Qn} {n : Nat} (h : ∀ p ∈ ps, Sz n p.2) (hb : Sz n b) : SzR ((n + 1) * ps.length + 1 + n) (partsM ps, sg, b) :=
  ⟨fun p hp => (Sz.parts h p hp).mono (by omega), hb.mono (by show n ≤ _; omega)⟩
theorem lh_normal_parts {ps : List Pt} {sg : Str} {b : Qn} (h : ∀ p ∈ ps, Sz 6 p.2) (hb : Sz 6 b) (hl : ps.length ≤ 20) (hs : PySem.PyData.strOk sg = true) :
    LH.B_normal (rD (partsM ps, sg, b)) = .ok (rD (rowM ps sg b)) := by
  have hl2 := partsM_len ps
  have z : SzR 150 (partsM ps, sg, b) := (szR_parts (n := 6) h hb).mono (by omega)
  refine lh_normal (n := 150) z hs (fun p hp => partsM_nz p hp) (by show (partsM ps).length ≤ _; omega) ?_
  show 150 * ((partsM ps).length + 1) + 4 ≤ 3900
  have : 150 * ((partsM ps).length + 1) ≤ 150 * 21 := Nat.mul_le_mul_left _ (by omega)
  omega
theorem strb {a b : Str} (h : a ≠ b) : (a == b) = false := by simpa using h
theorem lh_row0 {ps : List Pt} {sg : Str} {b : Qn} (h : ∀ p ∈ ps, Sz 6 p.2) (hb : Sz 6 b) (hl : ps.length ≤ 20) (hs : Sgn sg) :
    LH.B_row (.list (ps.map pD)) (.str sg) (N b) = .ok (rD (rowM ps sg b)) := by
  have e1 : LH.m_parts [.list (ps.map pD)] = .ok (psD (partsM ps)) := lh_parts (n := 6) PyData.list (.inl rfl) h (by omega) (by decide) (by omega)
  have e2 : LH.m_normal [.tuple [psD (partsM ps), .str sg, .tuple [.int b.1, .int b.2]]] = .ok (rD (rowM ps sg b)) := lh_normal_parts h hb hl hs.ok
  have n1 : (sg == ">=") = false := by rcases hs with rfl | rfl | rfl <;> decide
  have n2 : (sg == ">") = false := by rcases hs with rfl | rfl | rfl <;> decide
  simp [LH.B_row, LH.S_row, e1, e2, dEq_s hs.ok ok_ge, dEq_s hs.ok ok_gt, n1, n2]
theorem lcS_apc {i : Nat} {vs : List Nat} {Fi : Rho → Res (List PyData)} {T : Tg} {Tt : Rho → Res Bool} {F : Rho → Res PyData} {e0 : Ent} {ρ : Rho} : lcS i vs Fi T Tt F (e0 :: ρ) = (Fi (e0 :: ρ)).out fun ds ρ1 =>
  if (∀ v ∈ vs, v < ρ1.length) ∧ i < ρ1.length then (match compL T Tt F (wipeR (blkR ρ1) vs) ds [] with
    | some r => .nx ((frz ρ1).set i (.own r))
    | none => .bad) else .bad := id rfl
theorem disp_ge : valD (mergeD [] (kvD [(">=", "<="), (">", "<")])) (.inr ">=") = some (.str "<=") := by rfl
theorem disp_gt : valD (mergeD [] (kvD [(">=", "<="), (">", "<")])) (.inr ">") = some (.str "<") := by rfl
theorem lh_row1 {ps : List Pt} {sg sg2 : Str} {b : Qn} (h : ∀ p ∈ ps, Sz 4 p.2) (hb : Sz 4 b) (hl : ps.length ≤ 20) (hs : (sg = ">=" ∧ sg2 = "<=") ∨ (sg = ">" ∧ sg2 = "<")) :
    LH.B_row (.list (ps.map pD)) (.str sg) (N b) = .ok (rD (rowM (flipM ps) sg2 (qsub (0, 1) b))) := by
  have hf : ∀ p ∈ flipM ps, Sz 6 p.2 := fun p hp => by
    obtain ⟨q, hq, rfl⟩ := List.mem_map.mp hp
    exact sz01.sub (h q hq)
  have hfl : (flipM ps).length = ps.length := by simp [flipM]
  have e1 : LH.m_parts [.list ((flipM ps).map pD)] = .ok (psD (partsM (flipM ps))) := lh_parts (n := 6) PyData.list (.inl rfl) hf (by omega) (by decide) (by omega)
  have s2 : Sgn sg2 := by rcases hs with ⟨_, rfl⟩ | ⟨_, rfl⟩ <;> simp [Sgn]
  have e2 : LH.m_normal [.tuple [psD (partsM (flipM ps)), .str sg2, .tuple [.int (qsub (0, 1) b).1, .int (qsub (0, 1) b).2]]] = .ok (rD (rowM (flipM ps) sg2 (qsub (0, 1) b))) := lh_normal_parts hf (sz01.sub hb) (by omega) s2.ok
  have e3 : LH.m_sub [.tuple [.int 0, .int 1], .tuple [.int b.1, .int b.2]] = .ok (N (qsub (0, 1) b)) := lh_sub (sz01.mono (by decide)) (hb.mono (by decide))
  have c : compL (tupT 2 (consTs (nameT 3) (consTs (nameT 4) nilTs))) yesT (tupF (consA (varF 3) (consA (callF LH.m_sub (consA (tupF (consA (cF (.int 0)) (consA (cF (.int 1)) nilA))) (consA (varF 4) nilA))) nilA))) [.d (.list (ps.map pD)), .d (.str sg), .d (N b), .un, .un] (ps.map pD) [] = some ((flipM ps).map pD) := by
    rw [compL_map pD (fun p => pD (p.1, qsub (0, 1) p.2)) ps (fun p hp => ?_) (by omega)]
    · simp [flipM]
    · have e : LH.m_sub [.tuple [.int 0, .int 1], .tuple [.int p.2.1, .int p.2.2]] = .ok (N (qsub (0, 1) p.2)) := lh_sub (sz01.mono (by decide)) ((h p hp).mono (by decide))
      simp [e]
  rcases hs with ⟨rfl, rfl⟩ | ⟨rfl, rfl⟩
  · simp [LH.B_row, LH.S_row, lcS_apc, dEq_s ok_ge ok_ge, c, e3, disp_ge, e1, e2]
  · have n1 : ((">" : Str) == ">=") = false := by decide
    simp [LH.B_row, LH.S_row, lcS_apc, dEq_s ok_gt ok_ge, dEq_s ok_gt ok_gt, n1, c, e3, disp_gt, e1, e2]
theorem frac3 {t b : Int} (ht : -5 ≤ t ∧ t ≤ 5) (hb : 0 < b ∧ b ≤ 3) : ∃ q : Qn, lm_f [.int t, .int b] = .ok (.tuple [.int q.1, .int q.2]) ∧ Sz 3 q := by
  have bb : Bt 3 b := by unfold Bt; omega
  have bt : Bt 3 t := by unfold Bt; omega
  exact ⟨nrm t b, lawf_ok (n := 10) (by omega) (by decide) (by decide) (bb.mono (by decide)), .nrm (by omega) bt bb⟩
theorem sd5 : Sd 5 := Bt.sd (n := 31) (by unfold Bt; decide) (by decide) (by decide) (by decide)
theorem loopS_name {i : Nat} {S1 : Rho → Out} {d : PyData} {ds : List PyData} {ρ : Rho} (h : i < ρ.length) : loopS (nameT i) S1 (d :: ds) ρ = match S1 (ρ.set i (.d d)) with
      | .nx ρ2 => loopS (nameT i) S1 ds ρ2
      | .ct ρ2 => loopS (nameT i) S1 ds ρ2
      | .bk ρ2 => .nx ρ2
      | o => o := by
  rw [loopS_cons (ρ1 := ρ.set i (.d d)) (by rw [nameT_ap, if_pos h])] <;> rfl
theorem lh_pairs {a b c d : Int} (ha : 0 ≤ a ∧ a < 7) (hb : 0 ≤ b ∧ b < 7) (hc : 0 ≤ c ∧ c < 7) (hd : 0 ≤ d ∧ d < 7) :
    ∃ ps : List Pt, LH.B_pairs (.list [.int a, .int b, .int c, .int d]) = .ok (.list (ps.map pD)) ∧ (∀ p ∈ ps, Sz 3 p.2 ∧ Nam p.1) ∧ ps.length ≤ 3 := by
  have f5 : d.fdiv 5 = d / 5 := Int.fdiv_eq_ediv_of_nonneg _ (by decide)
  obtain ⟨qa, e1, z1⟩ := frac3 (t := a - 3) (b := 1 + d / 5) (by omega) (by omega)
  obtain ⟨qb, e2, z2⟩ := frac3 (t := b - 3) (b := 1 + d / 5) (by omega) (by omega)
  obtain ⟨qc, e3, z3⟩ := frac3 (t := c - 3) (b := 1 + d / 5) (by omega) (by omega)
  have r3 : rangeL 0 3 = [.int 0, .int 1, .int 2] := rfl
  have hr : ∀ ρ, rng1 [.int 3] ρ = .ok [.int 0, .int 1, .int 2] ρ := fun ρ => rng1_nat (n := 3) (by decide)
  refine ⟨(if a = 3 then [] else [(("x" : Str), qa)]) ++ (if b = 3 then [] else [(("b1" : Str), qb)]) ++ (if c = 3 then [] else [(("total" : Str), qc)]), ?_, ?_, ?_⟩
  rotate_left 1
  · intro p hp
    by_cases h1 : a = 3 <;> by_cases h2 : b = 3 <;> by_cases h3 : c = 3 <;> simp [h1, h2, h3] at hp <;> (try rcases hp with rfl | rfl | rfl) <;> (try rcases hp with rfl | rfl) <;> (try subst hp) <;> first | exact ⟨z1, by simp [Nam]⟩ | exact ⟨z2, by simp [Nam]⟩ | exact ⟨z3, by simp [Nam]⟩
  · split <;> split <;> split <;> simp
  · have L : ∀ (e : Ent) (ρ : Rho), True := fun _ _ => trivial
    by_cases h1 : a = 3 <;> by_cases h2 : b = 3 <;> by_cases h3 : c = 3 <;>
      simp [LH.B_pairs, LH.S_pairs, LH.L_pairs_1, hr, loopS_name, h1, h2, h3, dDiv_ok, sd5, f5, e1, e2, e3]
end DL

namespace DL
open PySem PySem.Spec PyProof.Rows L2 RT
section
variable {F : Rho → Res PyData} {L U : Po} {ρ : Rho} {e0 : Ent}
theorem cutF_apc : cutF F L U (e0 :: ρ) = (F (e0 :: ρ)).bind fun d ρ => (L ρ).bind fun l ρ => (U ρ).bind fun u ρ => optR (dCut d l u) ρ := id rfl
theorem noP_apc : noP (e0 :: ρ) = .ok none (e0 :: ρ) := id rfl
theorem someP_apc : someP F (e0 :: ρ) = (F (e0 :: ρ)).bind fun d ρ => match d with
  | .int i => .ok (some i) ρ
  | _ => .bad := id rfl
theorem repF_apc {A : Rho → Res (List PyData)} {ds : List PyData} {k : Nat} {ρ1 ρ2 : Rho} (h1 : A ρ = .ok ds ρ1) (h2 : F ρ1 = .ok (.int (k : Int)) ρ2) (hk : k ≤ 1000) (hd : ds.length ≤ 1000) : repF A F ρ = .ok (.list (List.replicate k ds).flatten) ρ2 := by
  unfold repF
  rw [h1, bind_ok, if_pos (by omega), h2, bind_ok]
  have : ds.length * k ≤ 1000 * 1000 := Nat.mul_le_mul hd hk
  exact iteC_pos (by simp only [Int.toNat_natCast]; omega)
end
theorem lh_anyrow {d0 d1 d2 d3 d4 d5 d6 : Int} (h0 : 0 ≤ d0 ∧ d0 < 7) (h1 : 0 ≤ d1 ∧ d1 < 7) (h2 : 0 ≤ d2 ∧ d2 < 7) (h3 : 0 ≤ d3 ∧ d3 < 7) (h4 : 0 ≤ d4 ∧ d4 < 6) (h5 : 0 ≤ d5 ∧ d5 < 11) (h6 : 0 ≤ d6 ∧ d6 < 2) :
    ∃ r : Rw, LH.B_anyrow (.list [.int d0, .int d1, .int d2, .int d3, .int d4, .int d5, .int d6]) = .ok (rD r) ∧ Good r := by
  obtain ⟨ps, e1, hp, hl⟩ := lh_pairs h0 h1 h2 h3
  obtain ⟨b, e2, hb⟩ := frac3 (t := d5 - 5) (b := 1 + d6) (by omega) (by omega)
  have e1' : LH.m_pairs [.list [.int d0, .int d1, .int d2, .int d3]] = .ok (.list (ps.map pD)) := e1
  have ec : dCut (.list [.int d0, .int d1, .int d2, .int d3, .int d4, .int d5, .int d6]) none (some 4) = some (.list [.int d0, .int d1, .int d2, .int d3]) := id rfl
  have main : ∀ (sg : Str) (r : Rw), dIx (.list [.str "<=", .str "<=", .str "<", .str "=", .str ">=", .str ">"]) (.int d4) = some (.str sg) → LH.B_row (.list (ps.map pD)) (.str sg) (N b) = .ok (rD r) → Good r →
      ∃ r : Rw, LH.B_anyrow (.list [.int d0, .int d1, .int d2, .int d3, .int d4, .int d5, .int d6]) = .ok (rD r) ∧ Good r := by
    intro sg r ei er g
    have er' : LH.m_row [.list (ps.map pD), .str sg, .tuple [.int b.1, .int b.2]] = .ok (rD r) := er
    exact ⟨r, by simp [LH.B_anyrow, LH.S_anyrow, cutF_apc, noP_apc, someP_apc, ec, e1', e2, ei, er'], g⟩
  have h6' : ∀ p ∈ ps, Sz 6 p.2 := fun p h => (hp p h).1.mono (by decide)
  have g0 : ∀ sg, Sgn sg → Good (rowM ps sg b) := fun sg hs => ⟨ps, sg, b, rfl, hs, fun p h => ⟨h6' p h, (hp p h).2⟩, hl, hb.mono (by decide)⟩
  have g1 : ∀ sg, Sgn sg → Good (rowM (flipM ps) sg (qsub (0, 1) b)) := fun sg hs => by
    refine ⟨flipM ps, sg, _, rfl, hs, fun p h => ?_, by simpa [flipM] using hl, (sz01.sub hb).mono (by decide)⟩
    obtain ⟨q, hq, rfl⟩ := List.mem_map.mp h
    exact ⟨(sz01.sub (hp q hq).1).mono (by decide), (hp q hq).2⟩
  have r0 := fun sg hs => lh_row0 (sg := sg) h6' (hb.mono (by decide)) (by omega) hs
  have h4' : ∀ p ∈ ps, Sz 4 p.2 := fun p h => (hp p h).1.mono (by decide)
  have r1 := fun sg sg2 hs => lh_row1 (sg := sg) (sg2 := sg2) h4' (hb.mono (by decide)) (by omega) hs
  have c : d4 = 0 ∨ d4 = 1 ∨ d4 = 2 ∨ d4 = 3 ∨ d4 = 4 ∨ d4 = 5 := by omega
  rcases c with rfl | rfl | rfl | rfl | rfl | rfl
  · exact main "<=" _ (by simp) (r0 _ (.inl rfl)) (g0 _ (.inl rfl))
  · exact main "<=" _ (by simp) (r0 _ (.inl rfl)) (g0 _ (.inl rfl))
  · exact main "<" _ (by simp) (r0 _ (.inr (.inl rfl))) (g0 _ (.inr (.inl rfl)))
  · exact main "=" _ (by simp) (r0 _ (.inr (.inr rfl))) (g0 _ (.inr (.inr rfl)))
  · exact main ">=" _ (by simp) (r1 _ "<=" (.inl ⟨rfl, rfl⟩)) (g1 _ (.inl rfl))
  · exact main ">" _ (by simp) (r1 _ "<" (.inr ⟨rfl, rfl⟩)) (g1 _ (.inr (.inl rfl)))
theorem dAdd_ll {xs ys : List PyData} (h : xs.length + ys.length ≤ 16777216) : dAdd (.list xs) (.list ys) = some (.list (xs ++ ys)) := if_pos (by rw [sizeLine_eq]; exact h)
/-! a system -/
theorem Dig.drop : ∀ {ds zs : List Int} (n : Nat), Dig ds zs → Dig (ds.drop n) (zs.drop n)
  | _, _, 0, h => h
  | [], [], _ + 1, _ => trivial
  | _ :: _, _ :: _, n + 1, h => Dig.drop n h.2
  | [], _ :: _, _ + 1, h => h.elim
  | _ :: _, [], _ + 1, h => h.elim
theorem Dig.take : ∀ {ds zs : List Int} (n : Nat), Dig ds zs → Dig (ds.take n) (zs.take n)
  | _, _, 0, _ => trivial
  | [], [], _ + 1, _ => trivial
  | _ :: _, _ :: _, n + 1, h => ⟨h.1, Dig.take n h.2⟩
  | [], _ :: _, _ + 1, h => h.elim
  | _ :: _, [], _ + 1, h => h.elim
theorem cutD_nat {xs : List PyData} {a b : Nat} (h : a ≤ b) (hb : b ≤ xs.length) : cutD xs (some (a : Int)) (some (b : Int)) = (xs.drop a).take (b - a) := by
  unfold cutD
  rw [HT.sIx_nat, HT.sIx_nat, Nat.min_eq_left (show a ≤ xs.length by omega), Nat.min_eq_left hb]
def sysZ (most : Int) : List Int := [most, 4] ++ (List.replicate 6 [7, 7, 7, 7, 6, 11, 2]).flatten
theorem sysZ_line (most : Int) : ∀ j : Nat, j < 6 → ((sysZ most).drop (2 + 7 * j)).take 7 = [7, 7, 7, 7, 6, 11, 2]
  | 0, _ => rfl
  | 1, _ => rfl
  | 2, _ => rfl
  | 3, _ => rfl
  | 4, _ => rfl
  | 5, _ => rfl
  | n + 6, h => by omega
theorem sd2 : Sd 2 := Bt.sd (n := 31) (by unfold Bt; decide) (by decide) (by decide) (by decide)
theorem lh_system (ns : List Int) (k : Nat) (hk : k < 1000) (most : Int) (hm : 0 < most ∧ most ≤ 6) :
    ∃ rows : List Rw, LH.B_system (iL ns) (.int k) (.int most) = .ok (.list (rows.map rD)) ∧ (∀ r ∈ rows, Good r) ∧ 0 < rows.length ∧ rows.length ≤ 6 ∧ (rows.length : Int) ≤ most := by
  obtain ⟨ds, e1, g⟩ := draw_ok ns k hk (sysZ most) (by
    intro z hz
    simp only [sysZ, List.mem_append, List.mem_flatten, List.mem_replicate] at hz
    rcases hz with hz | ⟨l, ⟨_, rfl⟩, hz⟩
    · simp at hz
      rcases hz with rfl | rfl <;> omega
    · simp at hz
      rcases hz with rfl | rfl | rfl | rfl <;> decide) (by simp [sysZ])
  have e1' : lm_draw [iL ns, .int k, .list (.int most :: .int 4 :: (List.replicate 6 [PyData.int 7, .int 7, .int 7, .int 7, .int 6, .int 11, .int 2]).flatten)] = .ok (iL ds) := e1
  have hlen : ds.length = 44 := by rw [g.len]; simp [sysZ]
  obtain ⟨a, b, ds', rfl⟩ : ∃ a b ds', ds = a :: b :: ds' := by
    match ds, hlen with
    | a :: b :: ds', _ => exact ⟨a, b, ds', rfl⟩
  have ga : 0 ≤ a ∧ a < most := g.1
  have gb : 0 ≤ b ∧ b < 4 := g.2.1
  have e1' : lm_draw [iL ns, .int k, .list (.int most :: .int 4 :: (List.replicate 6 [PyData.int 7, .int 7, .int 7, .int 7, .int 6, .int 11, .int 2]).flatten)] = .ok (.list (.int a :: .int b :: ds'.map PyData.int)) := e1'
  have hr : ∀ ρ, rng1 [.int (1 + a)] ρ = .ok (rangeL 0 (1 + a).toNat) ρ := fun ρ => rng1_ok (by omega) (by omega)
  have L := loopS_inv (T := nameT 5) (S1 := LH.L_system_1) (fun j ρ => ∃ (rows : List Rw) (e5 e6 : Ent), ρ = [.d (iL ns), .d (.int k), .d (.int most), .d (.list (.int a :: .int b :: ds'.map PyData.int)), .own (rows.map rD), e5, e6] ∧ rows.length = j ∧ ∀ r ∈ rows, Good r) (rangeL 0 (1 + a).toNat) (fun j d ρ hd hI => ?_)
    [.d (iL ns), .d (.int k), .d (.int most), .d (.list (.int a :: .int b :: ds'.map PyData.int)), .own [], .un, .un] ⟨[], .un, .un, rfl, rfl, fun _ h => by cases h⟩
  · obtain ⟨ρ', h1, rows, e5, e6, rfl, h2, h3⟩ := L
    rw [rangeL_len] at h2
    refine ⟨rows, ?_, h3, by omega, by omega, by omega⟩
    have hrep : repF (consA (cF (.int 7)) (consA (cF (.int 7)) (consA (cF (.int 7)) (consA (cF (.int 7)) (consA (cF (.int 6)) (consA (cF (.int 11)) (consA (cF (.int 2)) nilA))))))) (cF (.int 6)) [.d (iL ns), .d (.int k), .d (.int most), .un, .un, .un, .un] = .ok (.list (List.replicate 6 [PyData.int 7, .int 7, .int 7, .int 7, .int 6, .int 11, .int 2]).flatten) [.d (iL ns), .d (.int k), .d (.int most), .un, .un, .un, .un] :=
      repF_apc (ρ1 := [.d (iL ns), .d (.int k), .d (.int most), .un, .un, .un, .un]) (k := 6) (ds := [.int 7, .int 7, .int 7, .int 7, .int 6, .int 11, .int 2]) (by simp) (by simp) (by decide) (by decide)
    have eA : dAdd (.list [.int most, .int 4]) (.list (List.replicate 6 [PyData.int 7, .int 7, .int 7, .int 7, .int 6, .int 11, .int 2]).flatten) = some (.list (.int most :: .int 4 :: (List.replicate 6 [PyData.int 7, .int 7, .int 7, .int 7, .int 6, .int 11, .int 2]).flatten)) := dAdd_ll (by simp)
    simp only [List.map_cons, iL] at e1' hrep h1 ⊢
    simp [-List.replicate_succ, -List.reduceReplicate, LH.B_system, LH.S_system, hrep, eA, e1', hr, h1]
  · obtain ⟨rows, e5, e6, rfl, h2, h3⟩ := hI
    obtain ⟨rfl, hj⟩ := rangeL_get hd
    have gl := (g.drop (2 + 7 * j)).take 7
    rw [sysZ_line most j (by omega)] at gl
    have ec : cutD ((a :: b :: ds').map PyData.int) (some (2 + 7 * (j : Int))) (some (9 + 7 * (j : Int))) = (((a :: b :: ds').drop (2 + 7 * j)).take 7).map PyData.int := by
      have h1 : (2 + 7 * (j : Int)) = ((2 + 7 * j : Nat) : Int) := by omega
      have h2 : (9 + 7 * (j : Int)) = ((9 + 7 * j : Nat) : Int) := by omega
      rw [h1, h2, cutD_nat (by omega) (by rw [List.length_map]; omega), ← List.map_drop, ← List.map_take]
      congr 2
      omega
    generalize ((a :: b :: ds').drop (2 + 7 * j)).take 7 = l at gl ec
    obtain ⟨l0, l1, l2, l3, l4, l5, l6, rfl⟩ : ∃ l0 l1 l2 l3 l4 l5 l6, l = [l0, l1, l2, l3, l4, l5, l6] := by
      match l, gl with
      | [l0, l1, l2, l3, l4, l5, l6], _ => exact ⟨l0, l1, l2, l3, l4, l5, l6, rfl⟩
    obtain ⟨q0, q1, q2, q3, q4, q5, q6, _⟩ := gl
    have sj : Sm (j : Int) := Bt.sm (n := 31) (by unfold Bt; omega) (by decide)
    have s7 : Sm 7 := Bt.sm (n := 31) (by unfold Bt; decide) (by decide)
    have hlen2 : rows.length < 16777216 := by omega
    have fin : ∀ (m0 m1 m2 m3 m4 m5 m6 : Int) (e6 : Ent), (0 ≤ m0 ∧ m0 < 7) → (0 ≤ m1 ∧ m1 < 7) → (0 ≤ m2 ∧ m2 < 7) → (0 ≤ m3 ∧ m3 < 7) → (0 ≤ m4 ∧ m4 < 6) → (0 ≤ m5 ∧ m5 < 11) → (0 ≤ m6 ∧ m6 < 2) →
        (∀ r : Rw, LH.m_anyrow [.list [.int m0, .int m1, .int m2, .int m3, .int m4, .int m5, .int m6]] = .ok (rD r) → LH.L_system_1 [.d (iL ns), .d (.int k), .d (.int most), .d (.list (.int a :: .int b :: ds'.map PyData.int)), .own (rows.map rD), .d (.int (j : Int)), e6] = .nx [.d (iL ns), .d (.int k), .d (.int most), .d (.list (.int a :: .int b :: ds'.map PyData.int)), .own ((rows ++ [r]).map rD), .d (.int (j : Int)), .d (.list [.int m0, .int m1, .int m2, .int m3, .int m4, .int m5, .int m6])]) →
        ∃ ρ1 ρ2, nameT 5 (.int (0 + (j : Int))) [.d (iL ns), .d (.int k), .d (.int most), .d (.list (.int a :: .int b :: ds'.map PyData.int)), .own (rows.map rD), e5, e6] = some ρ1 ∧ LH.L_system_1 ρ1 = .nx ρ2 ∧ ∃ (rows : List Rw) (e5 e6 : Ent), ρ2 = [.d (iL ns), .d (.int k), .d (.int most), .d (.list (.int a :: .int b :: ds'.map PyData.int)), .own (rows.map rD), e5, e6] ∧ rows.length = j + 1 ∧ ∀ r ∈ rows, Good r := by
      intro m0 m1 m2 m3 m4 m5 m6 e6 h0 h1 h2 h3' h4 h5 h6 H
      obtain ⟨r, er, gr⟩ := lh_anyrow h0 h1 h2 h3' h4 h5 h6
      refine ⟨_, _, by simp, H r er, rows ++ [r], _, _, rfl, by simp; omega, fun x hx => ?_⟩
      rcases List.mem_append.mp hx with hx | hx
      · exact h3 x hx
      · rw [List.mem_singleton.mp hx]; exact gr
    simp only [List.map_cons, List.map_nil] at ec
    have f2 : l0.fdiv 2 = l0 / 2 := Int.fdiv_eq_ediv_of_nonneg _ (by decide)
    have m2 : l3.fmod 2 = l3 % 2 := Int.fmod_eq_emod_of_nonneg _ (by decide)
    have sl3 : Sm l3 := Bt.sm (n := 31) (by unfold Bt; omega) (by decide)
    have sm3 : Sm (l3 % 2) := Bt.sm (n := 31) (by unfold Bt; omega) (by decide)
    have b3 : 0 ≤ l3 * (l3 % 2) ∧ l3 * (l3 % 2) < 7 := by
      have : l3 % 2 = 0 ∨ l3 % 2 = 1 := by omega
      rcases this with h | h <;> rw [h] <;> omega
    have x2 : ∀ n : Nat, ixN (n + 3) 2 = some 2 := fun n => ixN_nat (i := 2) (n := n + 3) (by omega)
    by_cases c0 : b = 0
    · subst c0
      refine fin l0 l1 l2 l3 l4 l5 l6 e6 q0 q1 q2 q3 q4 q5 q6 fun r er => ?_
      simp [LH.L_system_1, someP_apc, dMul_ok, sj, s7, ec, er, hlen2]
    · have c1 : 0 < b := by omega
      by_cases c3 : b = 3
      · subst c3
        refine fin (l0 / 2 + 2) l1 3 (l3 * (l3 % 2)) l4 l5 l6 e6 (by omega) q1 (by decide) b3 q4 q5 q6 fun r er => ?_
        simp [LH.L_system_1, someP_apc, dMul_ok, sj, s7, ec, er, hlen2, dDiv_ok, sd2, f2, dMod_ok, m2, sl3, sm3, x2]
      · refine fin (l0 / 2 + 2) l1 l2 (l3 * (l3 % 2)) l4 l5 l6 e6 (by omega) q1 q2 b3 q4 q5 q6 fun r er => ?_
        simp [LH.L_system_1, someP_apc, dMul_ok, sj, s7, ec, c1, c3, er, hlen2, dDiv_ok, sd2, f2, dMod_ok, m2, sl3, sm3]
end DL

/-! Papers: what is one, and how a law draws them. -/
namespace DL
open PySem PySem.Spec PyProof.Rows L2 RT
abbrev Pa := Int × Qn
abbrev aD (p : Pa) : PyData := .tuple [.int p.1, .tuple [.int p.2.1, .int p.2.2]]
def sgAt (rows : List Rw) (i : Int) : Str := ((rows[i.toNat]?).map (·.2.1)).getD ""
def fineM (rows : List Rw) : Int → List Pa → Bool
  | _, [] => true
  | b, p :: r => if p.1 ≤ b ∨ (rows.length : Int) ≤ p.1 then false else if p.2.1 = 0 ∨ (p.2.1 < 0 ∧ sgAt rows p.1 ≠ "=") then false else fineM rows p.1 r
theorem qcmp0 {q : Qn} : qcmp q (0, 1) = if q.1 < 0 then -1 else if 0 < q.1 then 1 else 0 := by
  unfold qcmp
  simp
theorem sgAt_get {rows : List Rw} {i : Int} (h0 : 0 ≤ i) (h1 : i < rows.length) : ∃ r, r ∈ rows ∧ dIx (.list (rows.map rD)) (.int i) = some (rD r) ∧ sgAt rows i = r.2.1 := by
  have hi : i.toNat < rows.length := by omega
  refine ⟨rows[i.toNat], List.getElem_mem hi, ?_, ?_⟩
  · have e : i = ((i.toNat : Nat) : Int) := by omega
    have := dIx_l (i := i.toNat) (xs := rows.map rD) (x := rD rows[i.toNat]) (by simp [hi])
    rw [← e] at this
    exact this
  · simp [sgAt, hi]
section
variable {rows : List Rw} (hs : ∀ r ∈ rows, PySem.PyData.strOk r.2.1 = true) {e1 : Ent}
include hs
theorem isp_loop : ∀ (pa : List Pa) (b : Int) (e3 e4 e5 : Ent), -1 ≤ b → (∀ p ∈ pa, Sz 4000 p.2) →
    (fineM rows b pa = true → ∃ e2' e3' e4' e5', loopS (tupT 2 (consTs (nameT 3) (consTs (nameT 4) nilTs))) PG.L_is_paper_1 (pa.map aD) [.d (.list (rows.map rD)), e1, .d (.int b), e3, e4, e5] = .nx [.d (.list (rows.map rD)), e1, e2', e3', e4', e5']) ∧
    (fineM rows b pa = false → loopS (tupT 2 (consTs (nameT 3) (consTs (nameT 4) nilTs))) PG.L_is_paper_1 (pa.map aD) [.d (.list (rows.map rD)), e1, .d (.int b), e3, e4, e5] = .rt (.bool false))
  | [], b, e3, e4, e5, _, _ => ⟨fun _ => ⟨_, e3, e4, e5, rfl⟩, fun h => by cases h⟩
  | p :: pa, b, e3, e4, e5, hb, hp => by
    have h1 := hp p List.mem_cons_self
    have ec : PG.m_compare [.tuple [.int p.2.1, .int p.2.2], .tuple [.int 0, .int 1]] = .ok (.int (qcmp p.2 (0, 1))) := pg_compare h1 (sz01.mono (by decide))
    rw [qcmp0] at ec
    rw [List.map_cons, loopS_cons (ρ1 := [.d (.list (rows.map rD)), e1, .d (.int b), .d (.int p.1), .d (.tuple [.int p.2.1, .int p.2.2]), e5]) (by simp)]
    unfold fineM
    by_cases c1 : p.1 ≤ b
    · rw [if_pos (.inl c1)]
      exact ⟨fun h => (by cases h), fun _ => by simp [PG.L_is_paper_1, c1]⟩
    · by_cases c2 : (rows.length : Int) ≤ p.1
      · rw [if_pos (.inr c2)]
        exact ⟨fun h => (by cases h), fun _ => by simp [PG.L_is_paper_1, c1, c2]⟩
      · rw [if_neg (by rintro (h | h); exact c1 h; exact c2 h)]
        obtain ⟨r, hr, er, es⟩ := sgAt_get (rows := rows) (i := p.1) (by omega) (by omega)
        rw [es]
        by_cases c3 : p.2.1 = 0
        · rw [if_pos (.inl c3)]
          rw [if_neg (by omega), if_neg (by omega)] at ec
          exact ⟨fun h => (by cases h), fun _ => by simp [PG.L_is_paper_1, c1, c2, ec]⟩
        · by_cases c4 : p.2.1 < 0
          · rw [if_pos c4] at ec
            cases c5 : (r.2.1 == "=") with
            | false =>
              rw [if_pos (.inr ⟨c4, by simpa using c5⟩)]
              exact ⟨fun h => (by cases h), fun _ => by simp [PG.L_is_paper_1, c1, c2, er, ec, dNe_s (hs r hr) ok_eq, c5]⟩
            | true =>
              rw [if_neg (by rintro (h | h); exact c3 h; exact h.2 (by simpa using c5))]
              have ih := isp_loop pa p.1 (.d (.int p.1)) (.d (N p.2)) (.d (.int (-1))) (by omega) (fun q hq => hp q (List.mem_cons_of_mem _ hq))
              refine ⟨fun h => ?_, fun h => ?_⟩
              · obtain ⟨a2, a3, a4, a5, z⟩ := ih.1 h
                refine ⟨a2, a3, a4, a5, ?_⟩
                simp [PG.L_is_paper_1, c1, c2, er, ec, dNe_s (hs r hr) ok_eq, c5]
                exact z
              · simp [PG.L_is_paper_1, c1, c2, er, ec, dNe_s (hs r hr) ok_eq, c5]
                exact ih.2 h
          · rw [if_neg c4, if_pos (by omega)] at ec
            rw [if_neg (by rintro (h | h); exact c3 h; exact c4 h.1)]
            have ih := isp_loop pa p.1 (.d (.int p.1)) (.d (N p.2)) (.d (.int 1)) (by omega) (fun q hq => hp q (List.mem_cons_of_mem _ hq))
            refine ⟨fun h => ?_, fun h => ?_⟩
            · obtain ⟨a2, a3, a4, a5, z⟩ := ih.1 h
              refine ⟨a2, a3, a4, a5, ?_⟩
              simp [PG.L_is_paper_1, c1, c2, er, ec]
              exact z
            · simp [PG.L_is_paper_1, c1, c2, er, ec]
              exact ih.2 h
theorem pg_is_paper {pa : List Pa} (hp : ∀ p ∈ pa, Sz 4000 p.2) : PG.B_is_paper (.list (rows.map rD)) (.tuple (pa.map aD)) = .ok (.bool (fineM rows (-1) pa)) := by
  obtain ⟨h1, h2⟩ := isp_loop hs (e1 := .d (.tuple (pa.map aD))) pa (-1) .un .un .un (by decide) hp
  cases h : fineM rows (-1) pa with
  | true =>
    obtain ⟨a2, a3, a4, a5, z⟩ := h1 h
    simp [PG.B_is_paper, PG.S_is_paper, z]
  | false =>
    simp [PG.B_is_paper, PG.S_is_paper, h2 h]
theorem fine_loop (all : List Pa) (hl : all.length ≤ 100) : ∀ (k : Nat) (pa pre : List Pa) (b : Int) (e2 e3 e4 : Ent), all = pre ++ pa → pre.length = k → -1 ≤ b → (pre = [] → b = -1) → (∀ p, pre.getLast? = some p → p.1 = b ∧ 0 ≤ b) →
    (fineM rows b pa = true → ∃ e2' e3' e4', loopS (nameT 2) LH.L_fine_1 (rangeL (k : Int) pa.length) [.d (.list (rows.map rD)), .d (.list (all.map aD)), e2, e3, e4] = .nx [.d (.list (rows.map rD)), .d (.list (all.map aD)), e2', e3', e4']) ∧
    (fineM rows b pa = false → loopS (nameT 2) LH.L_fine_1 (rangeL (k : Int) pa.length) [.d (.list (rows.map rD)), .d (.list (all.map aD)), e2, e3, e4] = .rt (.bool false)) := by
  intro k pa
  induction pa generalizing k with
  | nil => intro pre b e2 e3 e4 _ _ _ _ _; exact ⟨fun _ => ⟨e2, e3, e4, rfl⟩, fun h => by cases h⟩
  | cons p pa ih =>
    intro pre b e2 e3 e4 he hk hb hpre hlast
    have er0 : rangeL (k : Int) (p :: pa).length = .int (k : Int) :: rangeL ((k + 1 : Nat) : Int) pa.length := by
      simp [rangeL, List.range_succ_eq_map]
      intros
      omega
    rw [er0, loopS_name (by simp)]
    have ek : dIx (.list (all.map aD)) (.int (k : Int)) = some (aD p) := dIx_l (by rw [he, List.getElem?_map, List.getElem?_append_right (by omega), hk]; simp)
    have hk0 : 0 < k → ∃ q : Pa, dIx (.list (all.map aD)) (.int ((k : Int) - 1)) = some (aD q) ∧ q.1 = b ∧ 0 ≤ b := by
      intro h0
      have hne : pre ≠ [] := by intro h; rw [h] at hk; simp at hk; omega
      obtain ⟨q, hq⟩ : ∃ q, pre.getLast? = some q := ⟨_, List.getLast?_eq_some_getLast hne⟩
      refine ⟨q, ?_, hlast q hq⟩
      have e : ((k : Int) - 1) = ((k - 1 : Nat) : Int) := by omega
      rw [e]
      refine dIx_l ?_
      rw [he, List.getElem?_map, List.getElem?_append_left (by omega)]
      rw [List.getLast?_eq_getElem?, hk] at hq
      rw [hq]; rfl
    have ihn : ∀ (hp0 : 0 ≤ p.1) (e2 e3 e4 : Ent), _ := fun hp0 e2 e3 e4 => ih (k + 1) (pre ++ [p]) p.1 e2 e3 e4 (by rw [he]; simp) (by simp [hk]) (by omega) (by simp) (fun q hq => by simp at hq; subst hq; exact ⟨rfl, hp0⟩)
    unfold fineM
    by_cases cn : p.1 < 0
    · rw [if_pos (.inl (show p.1 ≤ b by omega))]
      exact ⟨fun h => (by cases h), fun _ => by simp [LH.L_fine_1, ek, cn]⟩
    by_cases c2 : (rows.length : Int) ≤ p.1
    · rw [if_pos (.inr c2)]
      exact ⟨fun h => (by cases h), fun _ => by simp [LH.L_fine_1, ek, cn, c2]⟩
    by_cases c1 : p.1 ≤ b
    · rw [if_pos (.inl c1)]
      have h0 : 0 < k := by
        apply Classical.byContradiction
        intro z
        have : pre = [] := List.eq_nil_of_length_eq_zero (by omega)
        have := hpre this
        omega
      obtain ⟨q, eq, qb, _⟩ := hk0 h0
      exact ⟨fun h => (by cases h), fun _ => by simp [LH.L_fine_1, ek, cn, c2, h0, eq, qb, c1]⟩
    rw [if_neg (by rintro (h | h); exact c1 h; exact c2 h)]
    obtain ⟨r, hr, er, es⟩ := sgAt_get (rows := rows) (i := p.1) (by omega) (by omega)
    rw [es]
    have first : ∀ S : Rho → Out, ((seqS (asgS (binF dIx (varF 1) (varF 2)) (tupT 2 (consTs (nameT 3) (consTs (nameT 4) nilTs)))) (seqS (ifS (orT (testF (binF dLt (varF 3) (cF (.int 0)))) (orT (testF (binF dGe (varF 3) (appF (app1 bLen) (consA (varF 0) nilA)))) (andT (testF (binF dGt (varF 2) (cF (.int 0)))) (testF (binF dLe (varF 3) (binF dIx (binF dIx (varF 1) (binF dSub (varF 2) (cF (.int 1)))) (cF (.int 0)))))))) (retS (cF (.bool false))) nxS) S)) [.d (.list (rows.map rD)), .d (.list (all.map aD)), .d (.int (k : Int)), e3, e4]) = S [.d (.list (rows.map rD)), .d (.list (all.map aD)), .d (.int (k : Int)), .d (.int p.1), .d (N p.2)] := by
      intro S
      by_cases h0 : 0 < k
      · obtain ⟨q, eq, qb, _⟩ := hk0 h0
        simp [ek, cn, c2, h0, eq, qb, c1]
      · simp [ek, cn, c2, h0]
    simp only [List.set_cons_succ, List.set_cons_zero]
    have L1 : LH.L_fine_1 [.d (.list (rows.map rD)), .d (.list (all.map aD)), .d (.int (k : Int)), e3, e4] = (ifS (orT (testF (binF dEq (binF dIx (varF 4) (cF (.int 0))) (cF (.int 0)))) (andT (testF (binF dLt (binF dIx (varF 4) (cF (.int 0))) (cF (.int 0)))) (testF (binF dNe (binF dIx (binF dIx (varF 0) (varF 3)) (cF (.int 1))) (cF (.str "=")))))) (retS (cF (.bool false))) nxS) [.d (.list (rows.map rD)), .d (.list (all.map aD)), .d (.int (k : Int)), .d (.int p.1), .d (N p.2)] := first _
    rw [L1]
    by_cases c3 : p.2.1 = 0
    · rw [if_pos (.inl c3)]
      exact ⟨fun h => (by cases h), fun _ => by simp [c3]⟩
    · by_cases c4 : p.2.1 < 0
      · cases c5 : (r.2.1 == "=") with
        | false =>
          rw [if_pos (.inr ⟨c4, by simpa using c5⟩)]
          exact ⟨fun h => (by cases h), fun _ => by simp [c4, er, dNe_s (hs r hr) ok_eq, c5]⟩
        | true =>
          rw [if_neg (by rintro (h | h); exact c3 h; exact h.2 (by simpa using c5))]
          refine ⟨fun h => ?_, fun h => ?_⟩
          · obtain ⟨a2, a3, a4, z⟩ := (ihn (by omega) (.d (.int (k : Int))) (.d (.int p.1)) (.d (N p.2))).1 h
            refine ⟨a2, a3, a4, ?_⟩
            simp [c3, c4, er, dNe_s (hs r hr) ok_eq, c5]
            exact z
          · simp [c3, c4, er, dNe_s (hs r hr) ok_eq, c5]
            exact (ihn (by omega) (.d (.int (k : Int))) (.d (.int p.1)) (.d (N p.2))).2 h
      · rw [if_neg (by rintro (h | h); exact c3 h; exact c4 h.1)]
        refine ⟨fun h => ?_, fun h => ?_⟩
        · obtain ⟨a2, a3, a4, z⟩ := (ihn (by omega) (.d (.int (k : Int))) (.d (.int p.1)) (.d (N p.2))).1 h
          refine ⟨a2, a3, a4, ?_⟩
          simp [c3, c4]
          exact z
        · simp [c3, c4]
          exact (ihn (by omega) (.d (.int (k : Int))) (.d (.int p.1)) (.d (N p.2))).2 h
theorem lh_fine {pa : List Pa} (hl : pa.length ≤ 100) : LH.B_fine (.list (rows.map rD)) (.list (pa.map aD)) = .ok (.bool (fineM rows (-1) pa)) := by
  obtain ⟨h1, h2⟩ := fine_loop hs pa hl 0 pa [] (-1) .un .un .un rfl rfl (by decide) (fun _ => rfl) (fun p h => by cases h)
  have hr : ∀ ρ, rng1 [.int (pa.length : Int)] ρ = .ok (rangeL 0 pa.length) ρ := fun ρ => rng1_nat (by omega)
  rw [show ((0 : Nat) : Int) = 0 from rfl] at h1 h2
  cases h : fineM rows (-1) pa with
  | true =>
    obtain ⟨a2, a3, a4, z⟩ := h1 h
    simp [LH.B_fine, LH.S_fine, hr, z]
  | false =>
    simp [LH.B_fine, LH.S_fine, hr, h2 h]
end
end DL

namespace DL
open PySem PySem.Spec PyProof.Rows L2 RT
theorem Dig.get : ∀ {ds zs : List Int} {i : Nat} {z : Int}, Dig ds zs → zs[i]? = some z → ∃ d, ds[i]? = some d ∧ 0 ≤ d ∧ d < z
  | d :: ds, z :: zs, 0, _, h, e => by cases e; exact ⟨d, rfl, h.1⟩
  | d :: ds, z :: zs, i + 1, _, h, e => Dig.get (i := i) h.2 e
  | [], [], _, _, _, e => by cases e
  | [], _ :: _, _, _, h, _ => h.elim
  | _ :: _, [], _, _, h, _ => h.elim
theorem Dig.ix {ds zs : List Int} {i : Nat} {z : Int} (h : Dig ds zs) (e : zs[i]? = some z) : ∃ d, dIx (iL ds) (.int (i : Int)) = some (.int d) ∧ 0 ≤ d ∧ d < z := by
  obtain ⟨d, e1, e2⟩ := h.get e
  exact ⟨d, dIx_l (by rw [List.getElem?_map, e1]; rfl), e2⟩
def paZ : List Int := (List.replicate 8 [3, 9, 4]).flatten
theorem paZ_get : ∀ j : Nat, j < 8 → paZ[3 * j]? = some 3 ∧ paZ[1 + 3 * j]? = some 9 ∧ paZ[2 + 3 * j]? = some 4
  | 0, _ => ⟨rfl, rfl, rfl⟩
  | 1, _ => ⟨rfl, rfl, rfl⟩
  | 2, _ => ⟨rfl, rfl, rfl⟩
  | 3, _ => ⟨rfl, rfl, rfl⟩
  | 4, _ => ⟨rfl, rfl, rfl⟩
  | 5, _ => ⟨rfl, rfl, rfl⟩
  | 6, _ => ⟨rfl, rfl, rfl⟩
  | 7, _ => ⟨rfl, rfl, rfl⟩
  | n + 8, h => by omega
structure PaOk (rows : List Rw) (pa : List Pa) : Prop where
  each : ∀ p ∈ pa, (0 ≤ p.1 ∧ p.1 < rows.length) ∧ p.2.1 ≠ 0 ∧ (p.2.1 < 0 → sgAt rows p.1 = "=") ∧ Sz 5 p.2
  asc : pa.Pairwise fun a b => a.1 < b.1
theorem frac5 {t b : Int} (ht : -9 ≤ t ∧ t ≤ 9) (hb : 0 < b ∧ b ≤ 9) : ∃ q : Qn, lm_f [.int t, .int b] = .ok (.tuple [.int q.1, .int q.2]) ∧ Sz 5 q := by
  have bb : Bt 5 b := by unfold Bt; omega
  have bt : Bt 5 t := by unfold Bt; omega
  exact ⟨nrm t b, lawf_ok (n := 10) (by omega) (by decide) (by decide) (bb.mono (by decide)), .nrm (by omega) bt bb⟩
theorem lh_paper (ns : List Int) (k : Nat) (hk : k < 1000) {rows : List Rw} (hs : ∀ r ∈ rows, PySem.PyData.strOk r.2.1 = true) (hl : rows.length ≤ 8) :
    ∃ pa : List Pa, LH.B_paper (iL ns) (.int k) (.list (rows.map rD)) = .ok (.tuple (pa.map aD)) ∧ PaOk rows pa ∧ pa.length ≤ rows.length := by
  obtain ⟨ds, e1, g⟩ := draw_ok ns k hk paZ (by
    intro z hz
    simp only [paZ, List.mem_flatten, List.mem_replicate] at hz
    rcases hz with ⟨l, ⟨_, rfl⟩, hz⟩
    simp at hz
    rcases hz with rfl | rfl | rfl <;> decide) (by simp [paZ])
  have e1' : lm_draw [iL ns, .int k, .list ((List.replicate 8 [PyData.int 3, .int 9, .int 4]).flatten)] = .ok (iL ds) := e1
  have hr : ∀ ρ, rng1 [.int (rows.length : Int)] ρ = .ok (rangeL 0 rows.length) ρ := fun ρ => rng1_nat (by omega)
  have L := loopS_inv (T := nameT 5) (S1 := LH.L_paper_1) (fun j ρ => ∃ (pa : List Pa) (e5 e6 : Ent), ρ = [.d (iL ns), .d (.int k), .d (.list (rows.map rD)), .d (iL ds), .own (pa.map aD), e5, e6] ∧ pa.length ≤ j ∧ PaOk rows pa ∧ ∀ p ∈ pa, p.1 < j) (rangeL 0 rows.length) (fun j d ρ hd hI => ?_)
    [.d (iL ns), .d (.int k), .d (.list (rows.map rD)), .d (iL ds), .own [], .un, .un] ⟨[], .un, .un, rfl, Nat.le_refl _, ⟨fun _ h => (by cases h), .nil⟩, fun _ h => (by cases h)⟩
  · obtain ⟨ρ', h1, pa, e5, e6, rfl, h2, h3, h4⟩ := L
    rw [rangeL_len] at h2
    refine ⟨pa, ?_, h3, h2⟩
    have hrep : repF (consA (cF (.int 3)) (consA (cF (.int 9)) (consA (cF (.int 4)) nilA))) (cF (.int 8)) [.d (iL ns), .d (.int k), .d (.list (rows.map rD)), .un, .un, .un, .un] = .ok (.list (List.replicate 8 [PyData.int 3, .int 9, .int 4]).flatten) [.d (iL ns), .d (.int k), .d (.list (rows.map rD)), .un, .un, .un, .un] :=
      repF_apc (ρ1 := [.d (iL ns), .d (.int k), .d (.list (rows.map rD)), .un, .un, .un, .un]) (k := 8) (ds := [.int 3, .int 9, .int 4]) (by simp) (by simp) (by decide) (by decide)
    simp [-List.replicate_succ, -List.reduceReplicate, LH.B_paper, LH.S_paper, hrep, e1', hr, h1]
  · obtain ⟨pa, e5, e6, rfl, h2, h3, h4⟩ := hI
    obtain ⟨rfl, hj⟩ := rangeL_get hd
    obtain ⟨z0, z1, z2⟩ := paZ_get j (by omega)
    obtain ⟨a, ea, ga⟩ := g.ix z0
    obtain ⟨b, eb, gb⟩ := g.ix z1
    obtain ⟨c, ec, gc⟩ := g.ix z2
    obtain ⟨q, eq, zq⟩ := frac5 (t := b - 2) (b := 1 + c) (by omega) (by omega)
    obtain ⟨r, hr', er, es⟩ := sgAt_get (rows := rows) (i := j) (by omega) (by omega)
    have sj : Sm (j : Int) := Bt.sm (n := 31) (by unfold Bt; omega) (by decide)
    have s3 : Sm 3 := Bt.sm (n := 31) (by unfold Bt; decide) (by decide)
    have hlen2 : pa.length < 16777216 := by omega
    rw [show ((3 * j : Nat) : Int) = 3 * (j : Int) by omega] at ea
    rw [show ((1 + 3 * j : Nat) : Int) = 1 + 3 * (j : Int) by omega] at eb
    rw [show ((2 + 3 * j : Nat) : Int) = 2 + 3 * (j : Int) by omega] at ec
    have stay : LH.L_paper_1 [.d (iL ns), .d (.int k), .d (.list (rows.map rD)), .d (iL ds), .own (pa.map aD), .d (.int (j : Int)), e6] = .nx [.d (iL ns), .d (.int k), .d (.list (rows.map rD)), .d (iL ds), .own (pa.map aD), .d (.int (j : Int)), .d (N q)] →
        ∃ ρ1 ρ2, nameT 5 (.int (0 + (j : Int))) [.d (iL ns), .d (.int k), .d (.list (rows.map rD)), .d (iL ds), .own (pa.map aD), e5, e6] = some ρ1 ∧ LH.L_paper_1 ρ1 = .nx ρ2 ∧ ∃ (pa : List Pa) (e5 e6 : Ent), ρ2 = [.d (iL ns), .d (.int k), .d (.list (rows.map rD)), .d (iL ds), .own (pa.map aD), e5, e6] ∧ pa.length ≤ j + 1 ∧ PaOk rows pa ∧ ∀ p ∈ pa, p.1 < ((j + 1 : Nat) : Int) := fun h =>
      ⟨_, _, by simp, h, pa, _, _, rfl, by omega, h3, fun p hp => by have := h4 p hp; omega⟩
    have more : q.1 ≠ 0 → (q.1 < 0 → sgAt rows j = "=") → LH.L_paper_1 [.d (iL ns), .d (.int k), .d (.list (rows.map rD)), .d (iL ds), .own (pa.map aD), .d (.int (j : Int)), e6] = .nx [.d (iL ns), .d (.int k), .d (.list (rows.map rD)), .d (iL ds), .own ((pa ++ [((j : Int), q)]).map aD), .d (.int (j : Int)), .d (N q)] →
        ∃ ρ1 ρ2, nameT 5 (.int (0 + (j : Int))) [.d (iL ns), .d (.int k), .d (.list (rows.map rD)), .d (iL ds), .own (pa.map aD), e5, e6] = some ρ1 ∧ LH.L_paper_1 ρ1 = .nx ρ2 ∧ ∃ (pa : List Pa) (e5 e6 : Ent), ρ2 = [.d (iL ns), .d (.int k), .d (.list (rows.map rD)), .d (iL ds), .own (pa.map aD), e5, e6] ∧ pa.length ≤ j + 1 ∧ PaOk rows pa ∧ ∀ p ∈ pa, p.1 < ((j + 1 : Nat) : Int) := fun q0 qs h => by
      refine ⟨_, _, by simp, h, pa ++ [((j : Int), q)], _, _, rfl, by simp; omega, ⟨fun p hp => ?_, ?_⟩, fun p hp => ?_⟩
      · rcases List.mem_append.mp hp with hp | hp
        · exact h3.each p hp
        · rw [List.mem_singleton.mp hp]
          exact ⟨⟨by simp, by simpa using hj⟩, q0, qs, zq⟩
      · rw [List.pairwise_append]
        exact ⟨h3.asc, List.pairwise_singleton _ _, fun x hx y hy => by rw [List.mem_singleton.mp hy]; exact h4 x hx⟩
      · rcases List.mem_append.mp hp with hp | hp
        · have := h4 p hp; omega
        · rw [List.mem_singleton.mp hp]; show (j : Int) < _; omega
    by_cases c0 : 0 < a
    · by_cases c1 : 0 < q.1
      · refine more (by omega) (fun h => by omega) ?_
        simp [LH.L_paper_1, dMul_ok, sj, s3, ea, eb, ec, eq, c0, c1, hlen2]
      · by_cases c2 : q.1 < 0
        · cases c5 : (r.2.1 == "=") with
          | true =>
            refine more (by omega) (fun _ => by rw [es]; simpa using c5) ?_
            simp [LH.L_paper_1, dMul_ok, sj, s3, ea, eb, ec, eq, c0, c1, c2, hlen2, er, dEq_s (hs r hr') ok_eq, c5]
          | false =>
            refine stay ?_
            simp [LH.L_paper_1, dMul_ok, sj, s3, ea, eb, ec, eq, c0, c1, c2, hlen2, er, dEq_s (hs r hr') ok_eq, c5]
        · refine stay ?_
          simp [LH.L_paper_1, dMul_ok, sj, s3, ea, eb, ec, eq, c0, c1, c2, hlen2]
    · refine stay ?_
      simp [LH.L_paper_1, dMul_ok, sj, s3, ea, eb, ec, eq, c0, hlen2]
theorem Good.ok {r : Rw} (h : Good r) : PySem.PyData.strOk r.2.1 = true := by
  obtain ⟨ps, sg, b, rfl, hs, _⟩ := h
  exact hs.ok
end DL

/-! len(x) and x[k] of a list of the frame's own, which stays its own. -/
namespace DL
open PySem PySem.Spec PyProof.Rows L2 RT
section
variable {X : L2.Cx} {B : Bx} {W : WX} {e : Expr} {pos : Pos} {F : Rho → Res PyData}
def lenO (i : Nat) : Rho → Res PyData := fun ρ => match ρ[i]? with
  | some (.own xs) => .ok (.int xs.length) ρ
  | some (.d d) => optR (bLen d) ρ
  | _ => .bad
def ixO (i : Nat) (F : Rho → Res PyData) : Rho → Res PyData := fun ρ => match ρ[i]? with
  | some (.own _) => (F ρ).bind fun k ρ => (match ρ[i]? with
    | some (.own xs) => optR (dIx (.list xs) k) ρ
    | _ => .bad)
  | some (.d d) => (F ρ).bind fun k ρ => optR (dIx d k) ρ
  | _ => .bad
@[simp] theorem lenO_apc {i : Nat} {e0 : Ent} {ρ : Rho} : lenO i (e0 :: ρ) = match (e0 :: ρ)[i]? with
  | some (.own xs) => .ok (.int xs.length) (e0 :: ρ)
  | some (.d d) => optR (bLen d) (e0 :: ρ)
  | _ => .bad := by unfold lenO; exact id rfl
@[simp] theorem ixO_apc {i : Nat} {F : Rho → Res PyData} {e0 : Ent} {ρ : Rho} : ixO i F (e0 :: ρ) = match (e0 :: ρ)[i]? with
  | some (.own _) => (F (e0 :: ρ)).bind fun k ρ => (match ρ[i]? with
    | some (.own xs) => optR (dIx (.list xs) k) ρ
    | _ => .bad)
  | some (.d d) => (F (e0 :: ρ)).bind fun k ρ => optR (dIx d k) ρ
  | _ => .bad := by unfold ixO; exact id rfl
theorem pd_lenO (i : Nat) {x : Str} {p px : Pos} (hm : X.mg "len" = none) (hN : X.N[i]? = some x := by rfl) (hvs : Vis X.env.scope x := by first | exact Or.inl rfl | exact Or.inr (Or.inl rfl) | exact Or.inr (Or.inr rfl)) (hd : (x == ("__debug__" : Str)) = false := by decide)
    (hcd : (x == ("__classdict__" : Str)) = false := by decide) (hg : Gl X "len" := by rfl) (he : starEach [(.Name x px : Expr)] X.env = (false, eval (.Name x px) X.env) :: starEach [] X.env := by rfl) (hpl : (backTo pos (starEach [] X.env)).any (·.1) = false := by rfl)
    (hpl2 : (backTo pos (starEach [(.Name x px : Expr)] X.env)).any (·.1) = false := by rfl) :
    PE X (.Call (.Name "len" p) [.Name x px] [] pos) (tD (km X) B W (lenO i)) := by
  refine (pe_callB call_len hg hm (by decide +kernel) (pa_cons (pe_var hN hvs hd hcd) pa_nil he) (by decide) (by decide) he hpl).of ?_
  rintro σ H Q ⟨G, ρ, E, S⟩
  unfold lenO at S
  cases e1 : ρ[i]? with
  | none => rw [e1] at S; exact S.elim
  | some en =>
    have q := E.ent i _ e1
    generalize hσ : σ[i]? = o at q
    rw [e1] at S
    cases q with
    | un => exact S.elim
    | d dp =>
      obtain ⟨z, hz, q⟩ := sat_opt S
      refine ⟨_, hσ, ?_⟩
      exact rd_len G H _ [_] z Q E.base.gh (.cons dp .nil) hz fun v G3 H3 ext dp3 => q v G3 H3 (E.ext ext) ext.g dp3
    | own z1 z2 z3 z4 =>
      refine ⟨_, hσ, ⟨_, _, rfl, .inl ⟨_, SqL.of z1, rfl⟩, ?_⟩⟩
      rw [z4.len]
      exact S _ G H E (Same.refl _) (.int _)
    | dct _ _ _ _ => exact S.elim
    | rdd _ _ => exact S.elim
theorem pd_ixO (i : Nat) {x : Str} {px : Pos} (hb : PE X e (tD (km X) B W F)) (hN : X.N[i]? = some x := by rfl) (hvs : Vis X.env.scope x := by first | exact Or.inl rfl | exact Or.inr (Or.inl rfl) | exact Or.inr (Or.inr rfl)) (hd : (x == ("__debug__" : Str)) = false := by decide)
    (hcd : (x == ("__classdict__" : Str)) = false := by decide) (hs : PlainIx e := by exact fun _ _ => rfl) : PE X (.Subscript (.Name x px) e pos) (tD (km X) B W (ixO i F)) := by
  refine (pe_ix ix_seq (pe_var hN hvs hd hcd) hb hs).of ?_
  rintro σ H Q ⟨G, ρ, E, S⟩
  unfold ixO at S
  cases e1 : ρ[i]? with
  | none => rw [e1] at S; exact S.elim
  | some en =>
    have q := E.ent i _ e1
    generalize hσ : σ[i]? = o at q
    rw [e1] at S
    cases q with
    | un => exact S.elim
    | d dp =>
      refine ⟨_, hσ, G, ρ, E, (Sat.bind S).imp fun k ρ2 s2 y G2 H2 E2 g2 dp2 => ?_⟩
      obtain ⟨z, hz, q⟩ := sat_opt s2
      exact rd_ix G2 H2 _ y _ k z Q E2.base.gh (dp_same g2 _ _ dp) dp2 hz fun v G3 H3 ext dp3 => q v G3 H3 (E2.ext ext) (g2.trans ext.g) dp3
    | own z1 z2 z3 z4 =>
      refine ⟨_, hσ, G, ρ, E, (Sat.bind S).imp fun k ρ2 s2 y G2 H2 E2 g2 dp2 => ?_⟩
      split at s2
      · rename_i xs e2
        obtain ⟨z, hz, q⟩ := sat_opt s2
        have qe := E2.ent i _ e2
        rw [hσ] at qe
        cases qe with
        | own k1 k2 k3 k4 =>
          cases k <;> first | (cases hz; done) | skip
          cases dp2
          obtain ⟨v, hv, dp⟩ := dpAll_ix k4 (show atI _ _ = some z from hz)
          exact .inl ⟨_, _, _, v, rfl, rfl, SqL.of k1, hv, q _ _ _ E2 g2 dp⟩
      · exact s2.elim
    | dct _ _ _ _ => exact S.elim
    | rdd _ _ => exact S.elim
end
end DL

/-! Numbers as rationals; the factor of a normal form is the one that makes integers without a common divisor. -/
namespace DL
def rv (q : Qn) : Rat := (q.1 : Rat) / (q.2 : Rat)
structure Low (q : Qn) : Prop where
  pos : 0 < q.2
  co : Nat.gcd q.1.natAbs q.2.natAbs = 1
theorem rc {b : Int} (h : b ≠ 0) : (b : Rat) ≠ 0 := by
  intro e
  exact h (by exact_mod_cast e)
theorem rv_nrm {t b : Int} (hb : b ≠ 0) : rv (nrm t b) = (t : Rat) / (b : Rat) := by
  have h := nrm_cross (t := t) hb
  have hp := nrm_pos (t := t) hb
  have h1 := rc hb
  have h2 : ((nrm t b).2 : Rat) ≠ 0 := rc (by omega)
  have h3 : ((nrm t b).1 : Rat) * (b : Rat) = (t : Rat) * ((nrm t b).2 : Rat) := by exact_mod_cast h
  unfold rv
  grind
theorem low_nrm {t b : Int} (hb : b ≠ 0) : Low (nrm t b) := by
  refine ⟨nrm_pos hb, ?_⟩
  have g0 : 0 < Nat.gcd t.natAbs b.natAbs := Nat.gcd_pos_of_pos_right _ (by omega)
  have e1 : (nrm t b).1.natAbs = t.natAbs / Nat.gcd t.natAbs b.natAbs ∧ (nrm t b).2.natAbs = b.natAbs / Nat.gcd t.natAbs b.natAbs := by
    obtain ⟨x, hx⟩ := gcd_dvd_t (t := t) (b := b)
    obtain ⟨y, hy⟩ := gcd_dvd_b (t := t) (b := b)
    unfold nrm
    generalize hg : Nat.gcd t.natAbs b.natAbs = g at *
    have gp : (0 : Int) < (g : Int) := by omega
    have ex : t.natAbs / g = x.natAbs := by rw [hx, Int.natAbs_mul, Int.natAbs_natCast, Nat.mul_div_cancel_left _ g0]
    have ey : b.natAbs / g = y.natAbs := by rw [hy, Int.natAbs_mul, Int.natAbs_natCast, Nat.mul_div_cancel_left _ g0]
    have q1 : t / (g : Int) = x := by rw [hx, Int.mul_ediv_cancel_left _ (by omega)]
    have q2 : b / (g : Int) = y := by rw [hy, Int.mul_ediv_cancel_left _ (by omega)]
    have q3 : -t / (g : Int) = -x := by rw [hx, ← Int.mul_neg, Int.mul_ediv_cancel_left _ (by omega)]
    have q4 : -b / (g : Int) = -y := by rw [hy, ← Int.mul_neg, Int.mul_ediv_cancel_left _ (by omega)]
    split
    · simp [q3, q4, ex, ey]
    · simp [q1, q2, ex, ey]
  rw [e1.1, e1.2]
  exact Nat.gcd_div_gcd_div_gcd_of_pos_right (by omega)
theorem rv_ext {p q : Qn} (hp : Low p) (hq : Low q) (h : rv p = rv q) : p = q := by
  obtain ⟨a, b⟩ := p
  obtain ⟨c, d⟩ := q
  obtain ⟨b0, hb⟩ := hp
  obtain ⟨d0, hd⟩ := hq
  simp only at b0 hb d0 hd
  unfold rv at h
  simp only at h
  have h1 : (b : Rat) ≠ 0 := rc (by omega)
  have h2 : (d : Rat) ≠ 0 := rc (by omega)
  have h3 : (a : Rat) * (d : Rat) = (c : Rat) * (b : Rat) := by grind
  have h4 : a * d = c * b := by exact_mod_cast h3
  have n1 : a.natAbs * d.natAbs = c.natAbs * b.natAbs := by rw [← Int.natAbs_mul, ← Int.natAbs_mul, h4]
  have hb' : Nat.Coprime a.natAbs b.natAbs := hb
  have hd' : Nat.Coprime c.natAbs d.natAbs := hd
  have k1 : b.natAbs ∣ d.natAbs := by
    have : b.natAbs ∣ a.natAbs * d.natAbs := ⟨c.natAbs, by rw [n1, Nat.mul_comm]⟩
    exact Nat.Coprime.dvd_of_dvd_mul_left hb'.symm this
  have k2 : d.natAbs ∣ b.natAbs := by
    have : d.natAbs ∣ c.natAbs * b.natAbs := ⟨a.natAbs, by rw [← n1, Nat.mul_comm]⟩
    exact Nat.Coprime.dvd_of_dvd_mul_left hd'.symm this
  have k3 : b.natAbs = d.natAbs := Nat.dvd_antisymm k1 k2
  have k4 : b = d := by omega
  subst k4
  have : a = c := Int.eq_of_mul_eq_mul_right (by omega) h4
  rw [this]
section
variable {p q : Qn}
theorem rv_add (hp : q.2 ≠ 0) (hq : p.2 ≠ 0) : rv (qadd p q) = rv p + rv q := by
  unfold qadd
  rw [rv_nrm (Int.mul_ne_zero hq hp)]
  have h1 := rc hp
  have h2 := rc hq
  unfold rv
  push_cast
  grind
theorem rv_sub (hp : q.2 ≠ 0) (hq : p.2 ≠ 0) : rv (qsub p q) = rv p - rv q := by
  unfold qsub
  rw [rv_nrm (Int.mul_ne_zero hq hp)]
  have h1 := rc hp
  have h2 := rc hq
  unfold rv
  push_cast
  grind
theorem rv_mul (hp : q.2 ≠ 0) (hq : p.2 ≠ 0) : rv (qmul p q) = rv p * rv q := by
  unfold qmul
  rw [rv_nrm (Int.mul_ne_zero hq hp)]
  have h1 := rc hp
  have h2 := rc hq
  unfold rv
  push_cast
  grind
theorem rv_div (hp : q.1 ≠ 0) (hq : p.2 ≠ 0) (h0 : q.2 ≠ 0) : rv (qdiv p q) = rv p / rv q := by
  unfold qdiv
  rw [rv_nrm (Int.mul_ne_zero hq hp)]
  have h1 := rc hp
  have h2 := rc hq
  have h3 := rc h0
  unfold rv
  push_cast
  grind
theorem rv_zero : rv q = 0 ↔ q.1 = 0 ∨ q.2 = 0 := by
  unfold rv
  constructor
  · intro h
    by_cases h2 : q.2 = 0
    · exact .inr h2
    · have h1 := rc h2
      left
      have : (q.1 : Rat) = 0 := by grind
      exact_mod_cast this
  · rintro (h | h) <;> rw [h] <;> grind
theorem rv_lt (hp : 0 < p.2) (hq : 0 < q.2) : rv p < rv q ↔ p.1 * q.2 < q.1 * p.2 := by
  have h1 : (0 : Rat) < (p.2 : Rat) := by exact_mod_cast hp
  have h2 : (0 : Rat) < (q.2 : Rat) := by exact_mod_cast hq
  have e1 : rv p * (p.2 : Rat) = (p.1 : Rat) := by unfold rv; grind
  have e2 : rv q * (q.2 : Rat) = (q.1 : Rat) := by unfold rv; grind
  have h3 : (0 : Rat) < (p.2 : Rat) * (q.2 : Rat) := Rat.mul_pos h1 h2
  have e3 : ((p.1 * q.2 : Int) : Rat) < ((q.1 * p.2 : Int) : Rat) ↔ p.1 * q.2 < q.1 * p.2 := by exact_mod_cast Iff.rfl
  rw [← e3]
  push_cast
  rw [← e1, ← e2]
  generalize rv p = x
  generalize rv q = y
  generalize (p.2 : Rat) = b at *
  generalize (q.2 : Rat) = d at *
  constructor
  · intro h
    have : 0 < (y - x) * (b * d) := Rat.mul_pos (by grind) h3
    grind
  · intro h
    apply Classical.byContradiction
    intro z
    have : 0 ≤ (x - y) * (b * d) := Rat.mul_nonneg (by grind) (by grind)
    grind
theorem rv_eq (hp : 0 < p.2) (hq : 0 < q.2) : rv p = rv q ↔ p.1 * q.2 = q.1 * p.2 := by
  have h1 : (p.2 : Rat) ≠ 0 := rc (by omega)
  have h2 : (q.2 : Rat) ≠ 0 := rc (by omega)
  have e3 : ((p.1 * q.2 : Int) : Rat) = ((q.1 * p.2 : Int) : Rat) ↔ p.1 * q.2 = q.1 * p.2 := by exact_mod_cast Iff.rfl
  rw [← e3]
  push_cast
  unfold rv
  constructor <;> intro h <;> grind
end
/-! integers without a common divisor -/
def gcdL (ns : List Int) : Nat := ns.foldr (fun n g => Nat.gcd n.natAbs g) 0
theorem gcdL_dvd : ∀ {ns : List Int} {n : Int}, n ∈ ns → (gcdL ns : Int) ∣ n
  | m :: ns, n, h => by
    have e : gcdL (m :: ns) = Nat.gcd m.natAbs (gcdL ns) := rfl
    rcases List.mem_cons.mp h with rfl | h
    · rw [e]; exact Int.natAbs_dvd_natAbs.mp (by simpa using Nat.gcd_dvd_left _ _)
    · exact Int.dvd_trans (by rw [e]; exact_mod_cast Nat.gcd_dvd_right _ _) (gcdL_dvd h)
theorem dvd_gcdL : ∀ {ns : List Int} {d : Nat}, (∀ n ∈ ns, (d : Int) ∣ n) → d ∣ gcdL ns
  | [], d, _ => Nat.dvd_zero d
  | m :: ns, d, h => by
    have e : gcdL (m :: ns) = Nat.gcd m.natAbs (gcdL ns) := rfl
    rw [e]
    refine Nat.dvd_gcd ?_ (dvd_gcdL fun n hn => h n (List.mem_cons_of_mem _ hn))
    have := Int.natAbs_dvd_natAbs.mpr (h m List.mem_cons_self)
    simpa using this
structure Prim (f : Rat) (xs : List Rat) : Prop where
  pos : 0 < f
  who : ∃ ns : List Int, xs.map (f * ·) = ns.map (fun n : Int => (n : Rat)) ∧ gcdL ns = 1
theorem rat_num_den (c : Rat) : c * (c.den : Rat) = (c.num : Rat) := by
  have h := Rat.num_divInt_den c
  rw [Rat.divInt_eq_div] at h
  have d0 : ((c.den : Int) : Rat) ≠ 0 := rc (by have := c.den_pos; omega)
  have e : ((c.den : Int) : Rat) = (c.den : Rat) := by push_cast; rfl
  rw [e] at h d0
  grind
theorem Prim.unique {f f' : Rat} {xs : List Rat} (h : Prim f xs) (h' : Prim f' xs) : f = f' := by
  obtain ⟨ns, e, g⟩ := h.who
  obtain ⟨ns', e', g'⟩ := h'.who
  have fp := h.pos
  have fp' := h'.pos
  obtain ⟨c, hc⟩ : ∃ c : Rat, c = f / f' := ⟨_, rfl⟩
  have hcf : c * f' = f := by rw [hc]; grind
  have c0 : 0 < c := by
    rw [hc, Rat.div_def]
    exact Rat.mul_pos fp (by exact Rat.inv_pos.mpr fp')
  have hl : ns.length = ns'.length := by
    have h1 := congrArg List.length e
    have h2 := congrArg List.length e'
    simp at h1 h2
    omega
  have key : ∀ (xs : List Rat) (ns ns' : List Int), xs.map (f * ·) = ns.map (fun n : Int => (n : Rat)) → xs.map (f' * ·) = ns'.map (fun n : Int => (n : Rat)) → ∀ (i : Nat) (n n' : Int), ns[i]? = some n → ns'[i]? = some n' → (n : Rat) = c * (n' : Rat) := by
    intro xs ns ns' e e' i n n' hn hn'
    have h1 := congrArg (·[i]?) e
    have h2 := congrArg (·[i]?) e'
    simp only [List.getElem?_map, hn, hn', Option.map_some] at h1 h2
    cases hx : xs[i]? with
    | none => rw [hx] at h1; cases h1
    | some x =>
      rw [hx] at h1 h2
      simp only [Option.map_some, Option.some.injEq] at h1 h2
      rw [← h1, ← h2, ← hcf]
      grind
  have k := key xs ns ns' e e'
  have cn := rat_num_den c
  have dd : (0 : Int) < (c.den : Int) := by have := c.den_pos; omega
  have num0 : 0 < c.num := by
    have h1 : 0 ≤ c.num := Rat.num_nonneg.mpr (by grind)
    have h2 : c.num ≠ 0 := fun z => by have := Rat.num_eq_zero.mp z; grind
    omega
  have step : ∀ (i : Nat) (n n' : Int), ns[i]? = some n → ns'[i]? = some n' → n * (c.den : Int) = c.num * n' := by
    intro i n n' hn hn'
    have z := k i n n' hn hn'
    have : (n : Rat) * (c.den : Rat) = (c.num : Rat) * (n' : Rat) := by rw [z, ← cn]; grind
    exact_mod_cast this
  have cop : Nat.Coprime c.num.natAbs c.den := c.reduced
  have d1 : c.num.natAbs ∣ gcdL ns := dvd_gcdL fun n hn => by
    obtain ⟨i, hi⟩ := List.mem_iff_getElem?.mp hn
    obtain ⟨n', hn'⟩ : ∃ n', ns'[i]? = some n' := by
      have : i < ns.length := by
        apply Classical.byContradiction
        intro z
        rw [List.getElem?_eq_none (by omega)] at hi
        cases hi
      exact ⟨_, List.getElem?_eq_getElem (by omega)⟩
    have z := step i n n' hi hn'
    have z2 : c.num.natAbs ∣ n.natAbs * c.den := ⟨n'.natAbs, by
      have := congrArg Int.natAbs z
      rw [Int.natAbs_mul, Int.natAbs_mul, Int.natAbs_natCast] at this
      exact this⟩
    have z3 := Nat.Coprime.dvd_of_dvd_mul_right cop z2
    exact Int.natAbs_dvd_natAbs.mp (by simpa using z3)
  have d2 : c.den ∣ gcdL ns' := dvd_gcdL fun n' hn' => by
    obtain ⟨i, hi⟩ := List.mem_iff_getElem?.mp hn'
    obtain ⟨n, hn⟩ : ∃ n, ns[i]? = some n := by
      have : i < ns'.length := by
        apply Classical.byContradiction
        intro z
        rw [List.getElem?_eq_none (by omega)] at hi
        cases hi
      exact ⟨_, List.getElem?_eq_getElem (by omega)⟩
    have z := step i n n' hn hi
    have z2 : c.den ∣ c.num.natAbs * n'.natAbs := ⟨n.natAbs, by
      have := congrArg Int.natAbs z
      rw [Int.natAbs_mul, Int.natAbs_mul, Int.natAbs_natCast] at this
      rw [Nat.mul_comm c.den, this]⟩
    have z3 := Nat.Coprime.dvd_of_dvd_mul_left cop.symm z2
    exact Int.natAbs_dvd_natAbs.mp (by simpa using z3)
  rw [g] at d1
  rw [g'] at d2
  have n1 : c.num = 1 := by have := Nat.dvd_one.mp d1; omega
  have n2 : c.den = 1 := Nat.dvd_one.mp d2
  rw [n1, n2] at cn
  have : c = 1 := by simpa using cn
  rw [← hcf, this]
  grind
theorem gcdL_neg : ∀ ns : List Int, gcdL (ns.map fun n => -n) = gcdL ns
  | [] => rfl
  | n :: ns => by
    have z := gcdL_neg ns
    simp only [gcdL, List.map_cons, List.foldr_cons, Int.natAbs_neg] at z ⊢
    rw [z]
theorem Prim.scale {f s : Rat} {xs : List Rat} (h : Prim f (xs.map (s * ·))) (hs : 0 < s) : Prim (f * s) xs := by
  obtain ⟨ns, e, g⟩ := h.who
  refine ⟨Rat.mul_pos h.pos hs, ns, ?_, g⟩
  rw [← e, List.map_map]
  apply List.map_congr_left
  intro x _
  simp only [Function.comp_apply]
  grind
theorem Prim.scale_neg {f s : Rat} {xs : List Rat} (h : Prim f (xs.map (s * ·))) (hs : s < 0) : Prim (f * -s) xs := by
  obtain ⟨ns, e, g⟩ := h.who
  refine ⟨Rat.mul_pos h.pos (by grind), ns.map fun n => -n, ?_, by rw [gcdL_neg, g]⟩
  have e2 := congrArg (List.map fun x : Rat => -x) e
  rw [List.map_map, List.map_map, List.map_map] at e2
  rw [List.map_map]
  refine Eq.trans (List.map_congr_left ?_) (e2.trans (List.map_congr_left ?_))
  · intro x _
    simp only [Function.comp_apply]
    grind
  · intro n _
    simp only [Function.comp_apply]
    push_cast
    rfl
end DL

namespace DL
theorem gcdL_mul (k : Int) : ∀ ns : List Int, gcdL (ns.map (k * ·)) = k.natAbs * gcdL ns
  | [] => by simp [gcdL]
  | n :: ns => by
    have z := gcdL_mul k ns
    have e1 : gcdL ((n :: ns).map (k * ·)) = Nat.gcd (k * n).natAbs (gcdL (ns.map (k * ·))) := rfl
    have e2 : gcdL (n :: ns) = Nat.gcd n.natAbs (gcdL ns) := rfl
    rw [e1, e2, z, Int.natAbs_mul, Nat.gcd_mul_left]
theorem prim_of {qs : List Qn} {C : Int} {S : Nat} (hC : 0 < C) (hS0 : 0 < S) (hd : ∀ q ∈ qs, 0 < q.2 ∧ q.2 ∣ C) (hS : gcdL (qs.map fun q => q.1 * (C / q.2)) = S) : Prim ((C : Rat) / ((S : Int) : Rat)) (qs.map rv) := by
  have cS : ((S : Int) : Rat) ≠ 0 := rc (by omega)
  have cS0 : (0 : Rat) < ((S : Int) : Rat) := by exact_mod_cast (by omega : (0 : Int) < (S : Int))
  have cC0 : (0 : Rat) < (C : Rat) := by exact_mod_cast hC
  have dv : ∀ q ∈ qs, (S : Int) ∣ q.1 * (C / q.2) := fun q hq => by
    rw [← hS]
    exact gcdL_dvd (List.mem_map.mpr ⟨q, hq, rfl⟩)
  refine ⟨by rw [Rat.div_def]; exact Rat.mul_pos cC0 (Rat.inv_pos.mpr cS0), qs.map fun q => q.1 * (C / q.2) / (S : Int), ?_, ?_⟩
  · rw [List.map_map, List.map_map]
    apply List.map_congr_left
    intro q hq
    obtain ⟨q0, y, hy⟩ := hd q hq
    obtain ⟨n, hn⟩ := dv q hq
    have e1 : C / q.2 = y := by rw [hy, Int.mul_ediv_cancel_left _ (by omega)]
    simp only [Function.comp_apply]
    rw [hn, Int.mul_ediv_cancel_left _ (by omega)]
    rw [e1] at hn
    have h1 : (q.1 : Rat) * (y : Rat) = ((S : Int) : Rat) * (n : Rat) := by exact_mod_cast hn
    have h2 : (C : Rat) = (q.2 : Rat) * (y : Rat) := by exact_mod_cast hy
    have h3 : (q.2 : Rat) ≠ 0 := rc (by omega)
    unfold rv
    rw [h2]
    grind
  · have e : qs.map (fun q => q.1 * (C / q.2)) = (qs.map fun q => q.1 * (C / q.2) / (S : Int)).map ((S : Int) * ·) := by
      rw [List.map_map]
      apply List.map_congr_left
      intro q hq
      simp only [Function.comp_apply]
      rw [Int.mul_ediv_cancel' (dv q hq)]
    rw [e, gcdL_mul] at hS
    simp only [Int.natAbs_natCast] at hS
    exact Nat.eq_of_mul_eq_mul_left hS0 (by rw [hS, Nat.mul_one])
theorem shM_eq (C : Int) : ∀ (ps : List Pt) (s : Nat), (∀ p ∈ ps, 0 < p.2.2) → 0 ≤ C → shM C ps s = Nat.gcd s (gcdL (ps.map fun p => p.2.1 * (C / p.2.2)))
  | [], s, _, _ => by simp [shM, gcdL]
  | p :: ps, s, h, hC => by
    have z := shM_eq C ps (Nat.gcd s (p.2.1.natAbs * (C / p.2.2).natAbs)) (fun q hq => h q (List.mem_cons_of_mem _ hq)) hC
    have e2 : gcdL ((p :: ps).map fun p => p.2.1 * (C / p.2.2)) = Nat.gcd (p.2.1 * (C / p.2.2)).natAbs (gcdL (ps.map fun p => p.2.1 * (C / p.2.2))) := rfl
    show shM C ps (Nat.gcd s (p.2.1.natAbs * (C / p.2.2).natAbs)) = _
    rw [z, e2, Int.natAbs_mul, Nat.gcd_assoc]
theorem comM_mem : ∀ {ps : List Pt} {c : Int} {p : Pt}, p ∈ ps → p.2.2 ∣ comM ps c
  | q :: ps, c, p, h => by
    rcases List.mem_cons.mp h with rfl | h
    · exact Int.dvd_trans (Int.dvd_mul_left c p.2.2) (comM_dvd ps (c * p.2.2))
    · exact comM_mem (c := c * q.2.2) h
theorem law_prim {ps : List Pt} (hne : ps ≠ []) (h : ∀ p ∈ ps, 0 < p.2.2 ∧ p.2.1 ≠ 0) : Prim (rv (nrm (comM ps 1) (shM (comM ps 1) ps 0))) (ps.map fun p => rv p.2) ∧ 0 < shM (comM ps 1) ps 0 := by
  have cpos : ∀ (ps : List Pt) (c : Int), (∀ p ∈ ps, 0 < p.2.2) → 0 < c → 0 < comM ps c := by
    intro ps
    induction ps with
    | nil => intro c _ h; exact h
    | cons p ps ih => intro c h h0; exact ih (c * p.2.2) (fun q hq => h q (List.mem_cons_of_mem _ hq)) (Int.mul_pos h0 (h p List.mem_cons_self))
  have C0 := cpos ps 1 (fun p hp => (h p hp).1) (by decide)
  have S := shM_eq (comM ps 1) ps 0 (fun p hp => (h p hp).1) (by omega)
  rw [Nat.gcd_zero_left] at S
  have S0 : 0 < shM (comM ps 1) ps 0 := by
    rw [S]
    apply Nat.pos_of_ne_zero
    intro z
    obtain ⟨p, ps', rfl⟩ : ∃ p ps', ps = p :: ps' := by
      cases ps with
      | nil => exact absurd rfl hne
      | cons p ps' => exact ⟨p, ps', rfl⟩
    have d := gcdL_dvd (ns := ((p :: ps').map fun q => q.2.1 * (comM (p :: ps') 1 / q.2.2))) (n := p.2.1 * (comM (p :: ps') 1 / p.2.2)) (List.mem_map.mpr ⟨p, List.mem_cons_self, rfl⟩)
    rw [z] at d
    have d0 : p.2.1 * (comM (p :: ps') 1 / p.2.2) = 0 := by simpa using d
    obtain ⟨h1, h2⟩ := h p List.mem_cons_self
    obtain ⟨y, hy⟩ := comM_mem (c := 1) (List.mem_cons_self : p ∈ p :: ps')
    rw [hy] at C0 d0
    rw [Int.mul_ediv_cancel_left _ (by omega)] at d0
    rcases Int.mul_eq_zero.mp d0 with z | z
    · exact h2 z
    · rw [z, Int.mul_zero] at C0; omega
  refine ⟨?_, S0⟩
  rw [rv_nrm (by omega)]
  have e : (ps.map fun p => rv p.2) = (ps.map (·.2)).map rv := by rw [List.map_map]; rfl
  rw [e]
  refine prim_of C0 S0 (fun q hq => ?_) ?_
  · obtain ⟨p, hp, rfl⟩ := List.mem_map.mp hq
    exact ⟨(h p hp).1, comM_mem hp⟩
  · rw [S, List.map_map]
    rfl
/-! the program's way -/
def gl : List Qn → Nat × Nat
  | [] => (0, 1)
  | q :: qs => (Nat.gcd q.1.natAbs (gl qs).1, Nat.lcm q.2.natAbs (gl qs).2)
theorem gl_step {t b G L : Nat} (h1 : Nat.Coprime t b) (h2 : Nat.Coprime G L) (b0 : 0 < b) (L0 : 0 < L) : Nat.gcd (t * (Nat.lcm b L / b)) (G * (Nat.lcm b L / L)) = Nat.gcd t G ∧ Nat.Coprime (Nat.gcd t G) (Nat.lcm b L) := by
  constructor
  · have d0 : 0 < Nat.gcd b L := Nat.gcd_pos_of_pos_left _ b0
    obtain ⟨b', hb⟩ := Nat.gcd_dvd_left b L
    obtain ⟨l', hl⟩ := Nat.gcd_dvd_right b L
    generalize hd : Nat.gcd b L = d at *
    have e1 : Nat.lcm b L / b = l' := by
      unfold Nat.lcm
      rw [hd]
      have : b * L / d = b * l' := by
        conv => lhs; rw [hl, ← Nat.mul_assoc, Nat.mul_comm b d, Nat.mul_assoc]
        exact Nat.mul_div_cancel_left _ d0
      rw [this, Nat.mul_div_cancel_left _ b0]
    have e2 : Nat.lcm b L / L = b' := by
      unfold Nat.lcm
      rw [hd]
      have : b * L / d = b' * L := by
        conv => lhs; rw [hb, Nat.mul_assoc]
        exact Nat.mul_div_cancel_left _ d0
      rw [this, Nat.mul_div_cancel _ L0]
    have cb : Nat.Coprime b' l' := by
      have z := Nat.coprime_div_gcd_div_gcd (m := b) (n := L) (by omega)
      rw [hd] at z
      have q1 : b / d = b' := by rw [hb]; exact Nat.mul_div_cancel_left _ d0
      have q2 : L / d = l' := by rw [hl]; exact Nat.mul_div_cancel_left _ d0
      rw [q1, q2] at z
      exact z
    rw [e1, e2]
    have c1 : Nat.Coprime t b' := Nat.Coprime.coprime_dvd_right ⟨d, by rw [hb, Nat.mul_comm]⟩ h1
    have c2 : Nat.Coprime G l' := Nat.Coprime.coprime_dvd_right ⟨d, by rw [hl, Nat.mul_comm]⟩ h2
    have c3 : Nat.Coprime b' (t * l') := Nat.Coprime.mul_right c1.symm cb
    rw [Nat.Coprime.gcd_mul_right_cancel_right G c3, Nat.Coprime.gcd_mul_right_cancel t c2.symm]
  · have c1 : Nat.Coprime (Nat.gcd t G) b := Nat.Coprime.coprime_dvd_left (Nat.gcd_dvd_left t G) h1
    have c2 : Nat.Coprime (Nat.gcd t G) L := Nat.Coprime.coprime_dvd_left (Nat.gcd_dvd_right t G) h2
    exact Nat.Coprime.coprime_dvd_right (Nat.lcm_dvd_mul b L) (Nat.Coprime.mul_right c1 c2)
theorem gl_all : ∀ {qs : List Qn}, (∀ q ∈ qs, Low q) → 0 < (gl qs).2 ∧ Nat.Coprime (gl qs).1 (gl qs).2 ∧ (∀ q ∈ qs, q.2 ∣ ((gl qs).2 : Int)) ∧ gcdL (qs.map fun q => q.1 * (((gl qs).2 : Int) / q.2)) = (gl qs).1
  | [], _ => ⟨by decide, by decide, fun q h => (by cases h), rfl⟩
  | q :: qs, h => by
    obtain ⟨i1, i2, i3, i4⟩ := gl_all (qs := qs) fun x hx => h x (List.mem_cons_of_mem _ hx)
    have hq := h q List.mem_cons_self
    have qp := hq.pos
    have hb : 0 < q.2.natAbs := by omega
    have eb : ((q.2.natAbs : Nat) : Int) = q.2 := by omega
    have e1 : (gl (q :: qs)).1 = Nat.gcd q.1.natAbs (gl qs).1 := rfl
    have e2 : (gl (q :: qs)).2 = Nat.lcm q.2.natAbs (gl qs).2 := rfl
    rw [e1, e2]
    generalize (gl qs).1 = G at *
    generalize (gl qs).2 = L at *
    obtain ⟨s1, s2⟩ := gl_step (t := q.1.natAbs) (b := q.2.natAbs) (G := G) (L := L) hq.co i2 hb i1
    have M0 : 0 < Nat.lcm q.2.natAbs L := Nat.lcm_pos hb i1
    have dL := Nat.dvd_lcm_right q.2.natAbs L
    have db := Nat.dvd_lcm_left q.2.natAbs L
    generalize Nat.lcm q.2.natAbs L = M at *
    have dbI : q.2 ∣ (M : Int) := by rw [← eb]; exact_mod_cast db
    refine ⟨M0, s2, fun x hx => ?_, ?_⟩
    · rcases List.mem_cons.mp hx with rfl | hx
      · exact dbI
      · exact Int.dvd_trans (i3 x hx) (by exact_mod_cast dL)
    · obtain ⟨y, hy⟩ := dL
      have eM : qs.map (fun x => x.1 * ((M : Int) / x.2)) = (qs.map fun x => x.1 * ((L : Int) / x.2)).map ((y : Int) * ·) := by
        rw [List.map_map]
        apply List.map_congr_left
        intro x hx
        obtain ⟨z, hz⟩ := i3 x hx
        have x0 := (h x (List.mem_cons_of_mem _ hx)).pos
        simp only [Function.comp_apply]
        rw [hy, Int.natCast_mul, hz, Int.mul_assoc, Int.mul_ediv_cancel_left _ (by omega), Int.mul_ediv_cancel_left _ (by omega)]
        ac_rfl
      show Nat.gcd (q.1 * ((M : Int) / q.2)).natAbs (gcdL (qs.map fun x => x.1 * ((M : Int) / x.2))) = _
      rw [eM, gcdL_mul, i4, Int.natAbs_natCast, Int.natAbs_mul]
      have f1 : ((M : Int) / q.2).natAbs = M / q.2.natAbs := by
        rw [← eb]
        have : (M : Int) / ((q.2.natAbs : Nat) : Int) = ((M / q.2.natAbs : Nat) : Int) := by exact_mod_cast rfl
        rw [this, Int.natAbs_natCast, Int.natAbs_natCast]
      have f2 : y = M / L := by rw [hy, Nat.mul_div_cancel_left _ i1]
      rw [f1, f2, Nat.mul_comm (M / L) G]
      exact s1
theorem gl_pos {q : Qn} {qs : List Qn} (h : q.1 ≠ 0) : 0 < (gl (q :: qs)).1 := Nat.gcd_pos_of_pos_left _ (by omega)
theorem prog_prim {q : Qn} {qs : List Qn} (h : ∀ x ∈ q :: qs, Low x) (h0 : q.1 ≠ 0) : Prim (rv (nrm ((gl (q :: qs)).2 : Int) ((gl (q :: qs)).1 : Int))) ((q :: qs).map rv) := by
  obtain ⟨i1, i2, i3, i4⟩ := gl_all h
  have g0 := gl_pos (qs := qs) h0
  rw [rv_nrm (by omega)]
  exact prim_of (by omega) g0 (fun x hx => ⟨(h x hx).pos, i3 x hx⟩) i4
end DL

/-! The program's normal form is the laws'. -/
namespace DL
open PySem PySem.Spec PyProof.Rows L2 RT
theorem lcm_bt {a b : Nat} {n k : Nat} (ha : Bt n (a : Int)) (hb : Bt k (b : Int)) : Bt (n + k) ((Nat.lcm a b : Nat) : Int) := by
  have := ha.mul hb
  refine this.le ?_
  rw [Int.natAbs_mul, Int.natAbs_natCast, Int.natAbs_natCast, Int.natAbs_natCast]
  exact Nat.div_le_self _ _
theorem whole_loop {e0 : Ent} : ∀ (qs : List Qn) {n k : Nat} (G L : Nat) (e3 e4 : Ent), (∀ q ∈ qs, Sz n q) → Bt k (L : Int) → 0 < k → n ≤ 8000 → k + n * qs.length ≤ 8000 →
    ∃ e3' e4', loopS (tupT 2 (consTs (nameT 3) (consTs (nameT 4) nilTs))) PG.L_whole_factor_1 (qs.map N) [e0, .d (.int (G : Int)), .d (.int (L : Int)), e3, e4] = .nx [e0, .d (.int ((Nat.gcd G (gl qs).1 : Nat) : Int)), .d (.int ((Nat.lcm L (gl qs).2 : Nat) : Int)), e3', e4']
  | [], n, k, G, L, e3, e4, _, _, _, _, _ => ⟨e3, e4, by simp [gl]⟩
  | q :: qs, n, k, G, L, e3, e4, h, hb, k0, hn, hk => by
    have h1 := h q List.mem_cons_self
    have e : n * (q :: qs).length = n * qs.length + n := Nat.mul_succ _ _
    rw [e] at hk
    have hl : Bt (k + n) ((Nat.lcm L q.2.natAbs : Nat) : Int) := lcm_bt hb (bt_nat h1.b2)
    obtain ⟨e3', e4', z⟩ := whole_loop qs (n := n) (k := k + n) (Nat.gcd G q.1.natAbs) (Nat.lcm L q.2.natAbs) (.d (.int q.1)) (.d (.int q.2)) (fun x hx => h x (List.mem_cons_of_mem _ hx)) hl (by omega) hn (by omega)
    refine ⟨e3', e4', ?_⟩
    have c : bLcm (.int (L : Int)) (.int q.2) = some (.int ((Nat.lcm L q.2.natAbs : Nat) : Int)) := bLcm_ok (n := 9000) (hb.mono (by omega)) (h1.b2.mono (by omega)) (by decide) (by decide)
    rw [List.map_cons, loopS_cons (ρ1 := [e0, .d (.int (G : Int)), .d (.int (L : Int)), .d (.int q.1), .d (.int q.2)]) (by simp)]
    simp only [gl]
    rw [← Nat.gcd_assoc, ← Nat.lcm_assoc]
    simp [PG.L_whole_factor_1, c]
    exact z
theorem gl_bt : ∀ {qs : List Qn} {n : Nat}, (∀ q ∈ qs, Sz n q) → Bt (n * qs.length + 1) ((gl qs).2 : Int)
  | [], n, _ => by simp [gl]; unfold Bt; decide
  | q :: qs, n, h => by
    have z := gl_bt (qs := qs) (n := n) fun x hx => h x (List.mem_cons_of_mem _ hx)
    have e : n * (q :: qs).length + 1 = n + (n * qs.length + 1) := by rw [List.length_cons, Nat.mul_succ]; omega
    rw [e]
    exact lcm_bt (bt_nat (h q List.mem_cons_self).b2) z
theorem gl_bt1 {q : Qn} {qs : List Qn} {n : Nat} (h : Sz n q) (h0 : q.1 ≠ 0) : Bt n ((gl (q :: qs)).1 : Int) := by
  refine h.b1.le ?_
  rw [Int.natAbs_natCast]
  exact Nat.gcd_le_left _ (by omega)
def wfM (qs : List Qn) : Qn := nrm ((gl qs).2 : Int) ((gl qs).1 : Int)
theorem pg_whole {q : Qn} {qs : List Qn} {n : Nat} (h : ∀ x ∈ q :: qs, Sz n x) (h0 : q.1 ≠ 0) (hn : n * (qs.length + 1) + 1 ≤ 8000) :
    PG.B_whole_factor (.list ((q :: qs).map N)) = .ok (N (wfM (q :: qs))) ∧ Sz (n * (qs.length + 1) + 1) (wfM (q :: qs)) := by
  have n1 : n * 1 ≤ n * (qs.length + 1) := Nat.mul_le_mul_left _ (by omega)
  obtain ⟨e3, e4, L⟩ := whole_loop (e0 := .d (.list ((q :: qs).map N))) (q :: qs) (n := n) (k := 1) 0 1 .un .un h (by unfold Bt; decide) (by decide) (by omega) (by simp only [List.length_cons]; omega)
  rw [Nat.gcd_zero_left, Nat.lcm_one_left] at L
  have g0 := gl_pos (qs := qs) h0
  have b1 : Bt n ((gl (q :: qs)).1 : Int) := gl_bt1 (h q List.mem_cons_self) h0
  have b2 : Bt (n * (qs.length + 1) + 1) ((gl (q :: qs)).2 : Int) := gl_bt h
  have en : PG.m_number [.int ((gl (q :: qs)).2 : Int), .int ((gl (q :: qs)).1 : Int)] = .ok (N (wfM (q :: qs))) := pg_number (by omega) (b1.mono (by omega))
  refine ⟨?_, .nrm (by omega) b2 (b1.mono (by omega))⟩
  rw [show ((0 : Nat) : Int) = 0 from rfl, show ((1 : Nat) : Int) = 1 from rfl] at L
  simp only [List.map_cons] at L ⊢
  simp [PG.B_whole_factor, PG.S_whole_factor, L, en]
theorem sgn_low {b : Bool} {f : Qn} (h : Low f) : Low (sgnM b f) := by
  unfold sgnM
  split
  · exact low_nrm (Int.mul_ne_zero (by have := h.pos; omega) (by decide))
  · exact h
theorem rv_sgn {b : Bool} {f : Qn} (h : Low f) : rv (sgnM b f) = if b = true then -rv f else rv f := by
  unfold sgnM
  split
  · rw [rv_mul (by decide) (by have := h.pos; omega)]
    have : rv (-1, 1) = -1 := by unfold rv; push_cast; grind
    rw [this]
    grind
  · rfl
def facQ (r : Rw) : List Qn := match r.1 with
  | [] => [r.2.2]
  | p :: ps => (p :: ps).map (·.2)
structure LowR (r : Rw) : Prop where
  ps : ∀ p ∈ r.1, Low p.2 ∧ p.2.1 ≠ 0
  bd : Low r.2.2
theorem low0 {q : Qn} (h : Low q) (h0 : q.1 = 0) : q = (0, 1) := by
  obtain ⟨a, b⟩ := q
  obtain ⟨h1, h2⟩ := h
  simp only at h0 h1 h2
  subst h0
  simp at h2
  have : b = 1 := by omega
  rw [this]
/-- the program's factor and the laws' -/
theorem fac_eq1 {q : Qn} (h : Low q) (h0 : q.1 ≠ 0) : wfM [q] = qdiv (1, 1) (nrm (q.1.natAbs : Int) q.2) := by
  have q0 : q.2 ≠ 0 := by have := h.pos; omega
  have t0 : (q.1.natAbs : Int) ≠ 0 := by omega
  have n1 : (nrm (q.1.natAbs : Int) q.2).2 ≠ 0 := by have := nrm_pos (t := (q.1.natAbs : Int)) q0; omega
  have n0 : (nrm (q.1.natAbs : Int) q.2).1 ≠ 0 := by
    intro z
    have := nrm_cross (t := (q.1.natAbs : Int)) q0
    rw [z, Int.zero_mul] at this
    have := Int.mul_ne_zero t0 n1
    omega
  have e1 : ((gl [q]).2 : Int) = q.2 := by simp [gl]; have := h.pos; omega
  have e2 : ((gl [q]).1 : Int) = (q.1.natAbs : Int) := by simp [gl]
  unfold wfM
  rw [e1, e2]
  refine rv_ext (low_nrm t0) (low_nrm (Int.mul_ne_zero (by decide) n0)) ?_
  rw [rv_nrm t0, rv_div n0 (by decide) n1, rv_nrm q0]
  have : rv (1, 1) = 1 := by unfold rv; push_cast; grind
  rw [this]
  have r1 := rc t0
  have r2 := rc q0
  grind
theorem fac_eq2 {p : Pt} {ps : List Pt} (h : ∀ x ∈ p :: ps, Low x.2 ∧ x.2.1 ≠ 0) : wfM ((p :: ps).map (·.2)) = nrm (comM (p :: ps) 1) (shM (comM (p :: ps) 1) (p :: ps) 0) := by
  obtain ⟨l1, l2⟩ := law_prim (ps := p :: ps) (by simp) fun x hx => ⟨(h x hx).1.pos, (h x hx).2⟩
  have l3 := prog_prim (q := p.2) (qs := ps.map (·.2)) (fun x hx => by
    rcases List.mem_cons.mp hx with rfl | hx
    · exact (h p List.mem_cons_self).1
    · obtain ⟨y, hy, rfl⟩ := List.mem_map.mp hx
      exact (h y (List.mem_cons_of_mem _ hy)).1) (h p List.mem_cons_self).2
  have g0 := gl_pos (qs := ps.map (·.2)) (h p List.mem_cons_self).2
  refine rv_ext (low_nrm (by simp only [List.map_cons]; omega)) (low_nrm (by omega)) (Prim.unique l3 ?_)
  simpa [Function.comp_def] using l1
end DL

namespace DL
open PySem PySem.Spec PyProof.Rows L2 RT
theorem pg_multiplied {ps : List Pt} {f : Qn} (h : ∀ p ∈ ps, Sz 4000 p.2) (hf : Sz 4000 f) (hl : ps.length ≤ 1000) : PG.B_multiplied (psD ps) (N f) = .ok (psD (ps.map fun p => (p.1, qmul p.2 f))) := by
  have c : compL (tupT 2 (consTs (nameT 2) (consTs (nameT 3) nilTs))) yesT (tupF (consA (varF 2) (consA (callF PG.m_times (consA (varF 3) (consA (varF 1) nilA))) nilA))) [.d (psD ps), .d (N f), .un, .un] (ps.map pD) [] = some ((ps.map fun p => (p.1, qmul p.2 f)).map pD) := by
    rw [compL_map pD (fun p => pD (p.1, qmul p.2 f)) ps (fun p hp => ?_) (by omega)]
    · simp
    · have e : PG.m_times [.tuple [.int p.2.1, .int p.2.2], .tuple [.int f.1, .int f.2]] = .ok (N (qmul p.2 f)) := pg_times (h p hp) hf
      simp [e]
  simp [PG.B_multiplied, PG.S_multiplied, c]
theorem neg_eq {f : Qn} (h : Low f) : qsub (0, 1) f = qmul f (-1, 1) := by
  have f0 : f.2 ≠ 0 := by have := h.pos; omega
  refine rv_ext (low_nrm (Int.mul_ne_zero (by decide) f0)) (low_nrm (Int.mul_ne_zero f0 (by decide))) ?_
  rw [rv_sub f0 (by decide), rv_mul (by decide) f0]
  have h0 : rv (0, 1) = 0 := by unfold rv; push_cast; grind
  have h1 : rv (-1, 1) = -1 := by unfold rv; push_cast; grind
  rw [h0, h1]
  grind
theorem pg_normal_factor {r : Rw} {n : Nat} (h : SzR n r) (hL : LowR r) (hs : PySem.PyData.strOk r.2.1 = true) (hl : r.1.length ≤ 100) (hn : n * (r.1.length + 2) + 4 ≤ 3900) :
    PG.B_normal_factor (rD r) = .ok (N (factorM r)) := by
  obtain ⟨ps, sg, bd⟩ := r
  obtain ⟨hp, hb⟩ := h
  obtain ⟨lp, lb⟩ := hL
  simp only at hp hb lp lb hs hl hn ⊢
  have key : ∀ (q : Qn) (qs : List Qn), (∀ x ∈ q :: qs, Sz n x) → q.1 ≠ 0 → n * (qs.length + 1) + 4 ≤ 3900 → Low q →
      PG.m_whole_factor [.list ((q :: qs).map N)] = .ok (N (wfM (q :: qs))) ∧ PG.m_compare [.tuple [.int q.1, .int q.2], .tuple [.int 0, .int 1]] = .ok (.int (if q.1 < 0 then -1 else if 0 < q.1 then 1 else 0)) ∧ PG.m_minus [.tuple [.int 0, .int 1], .tuple [.int (wfM (q :: qs)).1, .int (wfM (q :: qs)).2]] = .ok (N (qmul (wfM (q :: qs)) (-1, 1))) := by
    intro q qs hx h0 hk hlq
    have n1 : n * 1 ≤ n * (qs.length + 1) := Nat.mul_le_mul_left _ (by omega)
    obtain ⟨e1, z1⟩ := pg_whole hx h0 (by omega)
    refine ⟨e1, ?_, ?_⟩
    · rw [← qcmp0]
      exact pg_compare ((hx q List.mem_cons_self).mono (by omega)) (sz01.mono (by decide))
    · rw [← neg_eq]
      · exact pg_minus (sz01.mono (by decide)) (z1.mono (by omega))
      · exact low_nrm (by have := gl_pos (qs := qs) h0; omega)
  cases ps with
  | nil =>
    by_cases b0 : bd.1 = 0
    · have := low0 lb b0
      subst this
      simp [PG.B_normal_factor, PG.S_normal_factor, factorM]
    · obtain ⟨k1, k2, k3⟩ := key bd [] (fun x hx => by rw [List.mem_singleton.mp hx]; exact hb) b0 (by simp at hn ⊢; omega) lb
      have fe := fac_eq1 lb b0
      simp only [List.map_cons, List.map_nil] at k1
      rw [fe] at k1 k3
      have be : (bd.1 == 0 && bd.2 == 1) = false := by simp [b0]
      cases hq : (sg == "=") with
      | false => simp [PG.B_normal_factor, PG.S_normal_factor, factorM, b0, compL, k1, k2, dEq_s hs ok_eq, hq, sgnM]
      | true =>
        by_cases h0 : bd.1 < 0
        · rw [if_pos h0] at k2
          simp [PG.B_normal_factor, PG.S_normal_factor, factorM, b0, compL, k1, k2, k3, dEq_s hs ok_eq, hq, sgnM, h0]
        · rw [if_neg h0, if_pos (by omega)] at k2
          simp [PG.B_normal_factor, PG.S_normal_factor, factorM, b0, compL, k1, k2, dEq_s hs ok_eq, hq, sgnM, h0]
  | cons p ps =>
    obtain ⟨k1, k2, k3⟩ := key p.2 (ps.map (·.2)) (fun x hx => by
      rcases List.mem_cons.mp hx with rfl | hx
      · exact hp p List.mem_cons_self
      · obtain ⟨y, hy, rfl⟩ := List.mem_map.mp hx
        exact hp y (List.mem_cons_of_mem _ hy)) (lp p List.mem_cons_self).2 (by
        have e : n * (ps.length + 1 + 2) = n * (ps.length + 1) + n * 2 := Nat.mul_add _ _ _
        simp only [List.length_cons, List.length_map] at hn ⊢
        omega) (lp p List.mem_cons_self).1
    have fe := fac_eq2 lp
    have c : compL (tupT 2 (consTs (nameT 5) (consTs (nameT 6) nilTs))) yesT (varF 6) [.d (rD (p :: ps, sg, bd)), .d (psD (p :: ps)), .d (.str sg), .d (N bd), .un, .un, .un, .un] ((p :: ps).map pD) [] = some ((p.2 :: ps.map (·.2)).map N) := by
      rw [compL_map pD (fun p => N p.2) (p :: ps) (fun p hp => ?_) (by omega)]
      · simp
      · simp
    simp only [List.map_cons] at c k1 k3 fe
    rw [fe] at k1 k3
    generalize (ps.map (·.2)).map N = Z at c k1
    have hi : ∀ l, dIx (.list (.tuple [.int p.2.1, .int p.2.2] :: l)) (.int 0) = some (.tuple [.int p.2.1, .int p.2.2]) := fun l => dIx_l0
    cases hq : (sg == "=") with
    | false => simp [PG.B_normal_factor, PG.S_normal_factor, factorM, c, k1, k2, dEq_s hs ok_eq, hq, sgnM]
    | true =>
      by_cases h0 : p.2.1 < 0
      · rw [if_pos h0] at k2
        simp [PG.B_normal_factor, PG.S_normal_factor, factorM, c, k1, k2, k3, dEq_s hs ok_eq, hq, sgnM, h0]
      · have := (lp p List.mem_cons_self).2
        rw [if_neg h0, if_pos (by omega)] at k2
        simp [PG.B_normal_factor, PG.S_normal_factor, factorM, c, k1, k2, dEq_s hs ok_eq, hq, sgnM, h0]
end DL

namespace DL
open PySem PySem.Spec PyProof.Rows L2 RT
theorem rv01 : rv (0, 1) = 0 := by unfold rv; push_cast; grind
theorem rv11 : rv (1, 1) = 1 := by unfold rv; push_cast; grind
theorem rvm1 : rv (-1, 1) = -1 := by unfold rv; push_cast; grind
theorem rv_neg {q : Qn} (h : 0 < q.2) : q.1 < 0 ↔ rv q < 0 := by
  have := rv_lt (p := q) (q := (0, 1)) h (by decide)
  rw [rv01] at this
  rw [this]
  simp
theorem rv_nz {q : Qn} (h : 0 < q.2) : q.1 = 0 ↔ rv q = 0 := by
  rw [rv_zero]
  constructor
  · exact .inl
  · rintro (h1 | h1)
    · exact h1
    · omega
/-- bottoms above 0, tops of parts not 0 -/
structure PosR (r : Rw) : Prop where
  ps : ∀ p ∈ r.1, 0 < p.2.2 ∧ p.2.1 ≠ 0
  bd : 0 < r.2.2.2
theorem prim_one {x : Rat} (h : x ≠ 0) {f : Rat} (h1 : 0 < f) (h2 : f * x = 1 ∨ f * x = -1) : Prim f [x] := by
  refine ⟨h1, ?_⟩
  rcases h2 with h2 | h2
  · exact ⟨[1], by simp [h2], by decide⟩
  · exact ⟨[-1], by simp [h2], by decide⟩
theorem fac_rv {r : Rw} (h : PosR r) {q : Qn} {qs : List Qn} (e : facQ r = q :: qs) (h0 : q.1 ≠ 0) : ∃ f, Prim f ((q :: qs).map rv) ∧ rv (factorM r) = (if (r.2.1 == "=" && decide (q.1 < 0)) = true then -f else f) ∧ Low (factorM r) := by
  obtain ⟨ps, sg, bd⟩ := r
  obtain ⟨hp, hb⟩ := h
  simp only at hp hb ⊢
  cases ps with
  | nil =>
    simp only [facQ, List.cons.injEq] at e
    obtain ⟨rfl, rfl⟩ := e
    have q0 : bd.2 ≠ 0 := by omega
    have t0 : (bd.1.natAbs : Int) ≠ 0 := by omega
    have n1 : (nrm (bd.1.natAbs : Int) bd.2).2 ≠ 0 := by have := nrm_pos (t := (bd.1.natAbs : Int)) q0; omega
    have n0 : (nrm (bd.1.natAbs : Int) bd.2).1 ≠ 0 := by
      intro z
      have := nrm_cross (t := (bd.1.natAbs : Int)) q0
      rw [z, Int.zero_mul] at this
      have := Int.mul_ne_zero t0 n1
      omega
    have lw : Low (qdiv (1, 1) (nrm (bd.1.natAbs : Int) bd.2)) := low_nrm (Int.mul_ne_zero (by decide) n0)
    simp only [factorM, if_neg h0]
    refine ⟨rv (qdiv (1, 1) (nrm (bd.1.natAbs : Int) bd.2)), ?_, rv_sgn lw, sgn_low lw⟩
    rw [rv_div n0 (by decide) n1, rv_nrm q0, rv11]
    have r1 := rc t0
    have r2 := rc q0
    have p1 : (0 : Rat) < ((bd.1.natAbs : Int) : Rat) := by exact_mod_cast (by omega : (0 : Int) < (bd.1.natAbs : Int))
    have p2 : (0 : Rat) < (bd.2 : Rat) := by exact_mod_cast hb
    have ne : rv bd ≠ 0 := fun z => h0 ((rv_nz hb).mpr z)
    refine prim_one ne ?_ ?_
    · have : (1 : Rat) / (((bd.1.natAbs : Int) : Rat) / (bd.2 : Rat)) = (bd.2 : Rat) * (((bd.1.natAbs : Int) : Rat))⁻¹ := by grind
      rw [this]
      exact Rat.mul_pos p2 (Rat.inv_pos.mpr p1)
    · unfold rv
      have : bd.1 = (bd.1.natAbs : Int) ∨ bd.1 = -(bd.1.natAbs : Int) := by omega
      rcases this with h | h
      · left
        have hh : (bd.1 : Rat) = ((bd.1.natAbs : Int) : Rat) := by exact_mod_cast h
        rw [hh]
        grind
      · right
        have hh : (bd.1 : Rat) = -((bd.1.natAbs : Int) : Rat) := by exact_mod_cast h
        rw [hh]
        grind
  | cons p ps =>
    simp only [facQ, List.map_cons, List.cons.injEq] at e
    obtain ⟨rfl, rfl⟩ := e
    obtain ⟨l1, l2⟩ := law_prim (ps := p :: ps) (by simp) hp
    have lw : Low (nrm (comM (p :: ps) 1) (shM (comM (p :: ps) 1) (p :: ps) 0)) := low_nrm (by omega)
    simp only [factorM]
    refine ⟨rv (nrm (comM (p :: ps) 1) (shM (comM (p :: ps) 1) (p :: ps) 0)), ?_, rv_sgn lw, sgn_low lw⟩
    simpa [Function.comp_def] using l1
theorem facQ_scale (r : Rw) (f : Qn) : facQ (scaleM r f) = (facQ r).map fun q => qmul q f := by
  obtain ⟨ps, sg, bd⟩ := r
  cases ps with
  | nil => simp [facQ, scaleM]
  | cons p ps => simp [facQ, scaleM]
theorem facQ_cons (r : Rw) : ∃ q qs, facQ r = q :: qs := by
  obtain ⟨ps, sg, bd⟩ := r
  cases ps with
  | nil => exact ⟨_, _, rfl⟩
  | cons p ps => exact ⟨_, _, rfl⟩
theorem facQ_pos {r : Rw} (h : PosR r) : ∀ q ∈ facQ r, 0 < q.2 := by
  obtain ⟨ps, sg, bd⟩ := r
  cases ps with
  | nil => intro q hq; rw [List.mem_singleton.mp hq]; exact h.bd
  | cons p ps =>
    intro q hq
    obtain ⟨x, hx, rfl⟩ := List.mem_map.mp hq
    exact (h.ps x hx).1
theorem qmul_nz {p f : Qn} (h : p.1 ≠ 0) (hp : 0 < p.2) (hf : f.1 ≠ 0) (hf2 : 0 < f.2) : (qmul p f).1 ≠ 0 := by
  have hh : (qmul p f).2 ≠ 0 := by have := nrm_pos (t := p.1 * f.1) (b := p.2 * f.2) (Int.mul_ne_zero (by omega) (by omega)); unfold qmul; omega
  intro z
  have h1 : rv (qmul p f) = 0 := (rv_zero).mpr (.inl z)
  rw [rv_mul (by omega) (by omega)] at h1
  have h2 : rv p ≠ 0 := fun z => h ((rv_nz hp).mpr z)
  have h3 : rv f ≠ 0 := fun z => hf ((rv_nz hf2).mpr z)
  have := Rat.mul_eq_zero.mp h1
  grind
theorem qmul_pos {p f : Qn} (hp : 0 < p.2) (hf2 : 0 < f.2) : 0 < (qmul p f).2 := nrm_pos (Int.mul_ne_zero (by omega) (by omega))
theorem PosR.scale {r : Rw} {f : Qn} (h : PosR r) (hf : f.1 ≠ 0) (hf2 : 0 < f.2) : PosR (scaleM r f) := by
  refine ⟨fun p hp => ?_, qmul_pos h.bd hf2⟩
  obtain ⟨x, hx, rfl⟩ := List.mem_map.mp hp
  obtain ⟨h1, h2⟩ := h.ps x hx
  exact ⟨qmul_pos h1 hf2, qmul_nz h2 h1 hf hf2⟩
/-- parts, or a bound other than 0 -/
theorem factor_inv {r0 : Rw} {c : Qn} (h : PosR r0) (hc : c.1 ≠ 0) (hc2 : 0 < c.2) (hs : (r0.2.1 == "=") = false → 0 < c.1) {q : Qn} {qs : List Qn} (e : facQ r0 = q :: qs) (h0 : q.1 ≠ 0) :
    rv c * rv (factorM (scaleM (normM r0) c)) = 1 ∧ Low (factorM (scaleM (normM r0) c)) ∧ Low (factorM r0) := by
  obtain ⟨f, P, E, L⟩ := fac_rv h e h0
  have q2 : 0 < q.2 := facQ_pos h q (by rw [e]; exact List.mem_cons_self)
  have F2 := L.pos
  have f0 := P.pos
  have hF : (factorM r0).1 ≠ 0 := by
    intro z
    have := (rv_zero (q := factorM r0)).mpr (.inl z)
    rw [E] at this
    split at this <;> grind
  have h1 : PosR (normM r0) := h.scale hF F2
  have h2 : PosR (scaleM (normM r0) c) := h1.scale hc hc2
  have e2 : facQ (scaleM (normM r0) c) = qmul (qmul q (factorM r0)) c :: (qs.map fun x => qmul (qmul x (factorM r0)) c) := by
    unfold normM
    rw [facQ_scale, facQ_scale, e]
    simp
  have x0 : (qmul q (factorM r0)).1 ≠ 0 := qmul_nz h0 q2 hF F2
  have x2 : 0 < (qmul q (factorM r0)).2 := qmul_pos q2 F2
  obtain ⟨f', P', E', L'⟩ := fac_rv h2 e2 (qmul_nz x0 x2 hc hc2)
  refine ⟨?_, L', L⟩
  have sg2 : (scaleM (normM r0) c).2.1 = r0.2.1 := rfl
  rw [sg2] at E'
  have g0 := P'.pos
  have allpos := facQ_pos h
  rw [e] at allpos
  have EX : (qmul (qmul q (factorM r0)) c :: (qs.map fun x => qmul (qmul x (factorM r0)) c)).map rv = ((q :: qs).map rv).map ((rv (factorM r0) * rv c) * ·) := by
    rw [show (qmul (qmul q (factorM r0)) c :: (qs.map fun x => qmul (qmul x (factorM r0)) c)) = (q :: qs).map fun x => qmul (qmul x (factorM r0)) c from rfl, List.map_map, List.map_map]
    apply List.map_congr_left
    intro x hx
    have xp := allpos x hx
    simp only [Function.comp_apply]
    rw [rv_mul (by omega) (by have := qmul_pos xp F2; omega), rv_mul (by omega) (by omega)]
    grind
  rw [EX] at P'
  have rc0 : rv c ≠ 0 := fun z => hc ((rv_nz hc2).mpr z)
  have rF0 : rv (factorM r0) ≠ 0 := fun z => hF ((rv_nz F2).mpr z)
  have sgx : (qmul (qmul q (factorM r0)) c).1 < 0 ↔ rv q * rv (factorM r0) * rv c < 0 := by
    rw [rv_neg (qmul_pos x2 hc2), rv_mul (by omega) (by omega), rv_mul (by omega) (by omega)]
  have sq : q.1 < 0 ↔ rv q < 0 := rv_neg q2
  have rq0 : rv q ≠ 0 := fun z => h0 ((rv_nz q2).mpr z)
  have main : f' * (if rv (factorM r0) * rv c < 0 then -(rv (factorM r0) * rv c) else rv (factorM r0) * rv c) = f := by
    have s0 : rv (factorM r0) * rv c ≠ 0 := fun z => by
      rcases Rat.mul_eq_zero.mp z with z | z
      · exact rF0 z
      · exact rc0 z
    split
    · rename_i hneg
      exact Prim.unique (P'.scale_neg hneg) P
    · rename_i hneg
      exact Prim.unique (P'.scale (by grind)) P
  have msign : ∀ a b : Rat, 0 < a → (a * b < 0 ↔ b < 0) := fun a b ha => by
    constructor
    · intro h
      apply Classical.byContradiction
      intro z
      have := Rat.mul_nonneg (show 0 ≤ a by grind) (show 0 ≤ b by grind)
      grind
    · intro h
      have := Rat.mul_pos ha (show 0 < -b by grind)
      grind
  have cancel : ∀ x : Rat, f' * (f * x) = f → f' * x = 1 := fun x hx => by
    have : f * (f' * x - 1) = 0 := by grind
    rcases Rat.mul_eq_zero.mp this with z | z <;> grind
  cases hq : (r0.2.1 == "=") with
  | false =>
    rw [hq] at E E'
    simp only [Bool.false_and, Bool.false_eq_true, if_false] at E E'
    have c0 : 0 < rv c := by
      have := hs hq
      have h1 : ¬ rv c < 0 := fun z => by have := (rv_neg hc2).mpr z; omega
      grind
    rw [E] at main
    rw [E']
    have : ¬ f * rv c < 0 := by rw [msign f _ f0]; grind
    rw [if_neg this] at main
    have := cancel _ main
    grind
  | true =>
    rw [hq] at E E'
    simp only [Bool.true_and, decide_eq_true_eq] at E E'
    simp only [sgx] at E'
    simp only [sq] at E
    by_cases hn : rv q < 0
    · rw [if_pos hn] at E
      rw [E] at main E'
      have p1 : 0 < rv q * -f := by
        have := Rat.mul_pos (show 0 < -rv q by grind) f0
        grind
      simp only [msign _ _ p1] at E'
      have k1 : -f * rv c < 0 ↔ ¬ rv c < 0 := by
        have := msign f (-rv c) f0
        have e : f * -rv c = -f * rv c := by grind
        rw [e] at this
        rw [this]
        constructor <;> intro h <;> grind
      by_cases hcn : rv c < 0
      · rw [if_pos hcn] at E'
        rw [if_neg (by rw [k1]; exact fun z => z hcn)] at main
        rw [E']
        have := cancel (-rv c) (by grind)
        grind
      · rw [if_neg hcn] at E'
        rw [if_pos (k1.mpr hcn)] at main
        rw [E']
        have := cancel (rv c) (by grind)
        grind
    · rw [if_neg hn] at E
      rw [E] at main E'
      have p1 : 0 < rv q * f := Rat.mul_pos (by grind) f0
      simp only [msign _ _ p1] at E'
      simp only [msign f _ f0] at main
      by_cases hcn : rv c < 0
      · rw [if_pos hcn] at E' main
        rw [E']
        have := cancel (-rv c) (by grind)
        grind
      · rw [if_neg hcn] at E' main
        rw [E']
        have := cancel (rv c) (by grind)
        grind
end DL

namespace DL
open PySem PySem.Spec PyProof.Rows L2 RT
theorem norm_inv {r0 : Rw} {c : Qn} (h : PosR r0) (hc : c.1 ≠ 0) (hc2 : 0 < c.2) (hs : (r0.2.1 == "=") = false → 0 < c.1) : normM (scaleM (normM r0) c) = normM r0 := by
  obtain ⟨q, qs, e⟩ := facQ_cons r0
  have c0 : c.2 ≠ 0 := by omega
  by_cases h0 : q.1 = 0
  · obtain ⟨ps, sg, bd⟩ := r0
    cases ps with
    | cons p ps =>
      simp only [facQ, List.map_cons, List.cons.injEq] at e
      exact absurd (by rw [e.1]; exact h0) (h.ps p List.mem_cons_self).2
    | nil =>
      simp only [facQ, List.cons.injEq] at e
      obtain ⟨rfl, rfl⟩ := e
      have bp := h.bd
      simp only at bp
      have F0 : factorM ([], sg, bd) = (1, 1) := by simp [factorM, h0]
      have z1 : (qmul bd (1, 1)).1 = 0 := by
        have hp := qmul_pos bp (f := (1, 1)) (by decide)
        rw [rv_nz hp, rv_mul (by decide) (by omega), (rv_nz bp).mp h0]
        grind
      have z2 : (qmul (qmul bd (1, 1)) c).1 = 0 := by
        have hp := qmul_pos bp (f := (1, 1)) (by decide)
        rw [rv_nz (qmul_pos hp hc2), rv_mul (by omega) (by omega), (rv_nz hp).mp z1]
        grind
      have hp1 := qmul_pos bp (f := (1, 1)) (by decide)
      have hp2 := qmul_pos hp1 hc2
      have l1 : Low (qmul bd (1, 1)) := low_nrm (Int.mul_ne_zero (by omega) (by decide))
      have l2 : Low (qmul (qmul (qmul bd (1, 1)) c) (1, 1)) := low_nrm (Int.mul_ne_zero (by omega) (by decide))
      have F1 : factorM (scaleM (normM ([], sg, bd)) c) = (1, 1) := by
        simp [normM, scaleM, factorM, F0, h0, z2]
      have : qmul (qmul (qmul bd (1, 1)) c) (1, 1) = qmul bd (1, 1) := by
        refine rv_ext l2 l1 ?_
        rw [rv_mul (by decide) (by omega), (rv_nz hp2).mp z2, (rv_nz hp1).mp z1]
        grind
      show scaleM (scaleM (normM ([], sg, bd)) c) (factorM (scaleM (normM ([], sg, bd)) c)) = _
      rw [F1]
      simp [normM, scaleM, F0, this]
  · obtain ⟨E, L', L⟩ := factor_inv h hc hc2 hs e h0
    have F2 := L.pos
    have F2' := L'.pos
    have step : ∀ x : Qn, 0 < x.2 → qmul (qmul (qmul x (factorM r0)) c) (factorM (scaleM (normM r0) c)) = qmul x (factorM r0) := by
      intro x hx
      have p1 := qmul_pos hx F2
      have p2 := qmul_pos p1 hc2
      refine rv_ext (low_nrm (Int.mul_ne_zero (by omega) (by omega))) (low_nrm (Int.mul_ne_zero (by omega) (by omega))) ?_
      rw [rv_mul (by omega) (by omega), rv_mul (by omega) (by omega), Rat.mul_assoc, E]
      grind
    show scaleM (scaleM (normM r0) c) (factorM (scaleM (normM r0) c)) = scaleM r0 (factorM r0)
    generalize factorM (scaleM (normM r0) c) = G at *
    have e1 : scaleM (scaleM (normM r0) c) G = (r0.1.map fun p => (p.1, qmul (qmul (qmul p.2 (factorM r0)) c) G), r0.2.1, qmul (qmul (qmul r0.2.2 (factorM r0)) c) G) := by
      simp [normM, scaleM, List.map_map, Function.comp_def]
    rw [e1, step _ h.bd]
    unfold scaleM
    congr 1
    apply List.map_congr_left
    intro p hp
    rw [step _ (h.ps p hp).1]
theorem pg_normal {r : Rw} {n : Nat} (h : SzR n r) (hL : LowR r) (hs : PySem.PyData.strOk r.2.1 = true) (nz : ∀ p ∈ r.1, p.2.1 ≠ 0) (hl : r.1.length ≤ 100) (hn : n * (r.1.length + 2) + 4 ≤ 3900) :
    PG.B_normal (rD r) = .ok (rD (normM r)) := by
  have e := pg_normal_factor h hL hs hl hn
  have e0 : n * (r.1.length + 2) = n * (r.1.length + 1) + n := Nat.mul_succ _ _
  obtain ⟨_, z⟩ := lh_factor h hs nz (by omega) (by omega)
  have n1 : n * 1 ≤ n * (r.1.length + 2) := Nat.mul_le_mul_left _ (by omega)
  have e1 : PG.m_normal_factor [rD r] = .ok (N (factorM r)) := e
  have e2 : PG.m_multiplied [psD r.1, N (factorM r)] = .ok (psD (r.1.map fun p => (p.1, qmul p.2 (factorM r)))) := pg_multiplied (fun p hp => (h.ps p hp).mono (by omega)) (z.mono (by omega)) (by omega)
  have e3 : PG.m_times [.tuple [.int r.2.2.1, .int r.2.2.2], .tuple [.int (factorM r).1, .int (factorM r).2]] = .ok (N (qmul r.2.2 (factorM r))) := pg_times (h.bd.mono (by omega)) (z.mono (by omega))
  simp only [rD] at e1
  simp [PG.B_normal, PG.S_normal, e1, e2, e3]
  simp [normM, scaleM]
theorem getQ_pos {kvs : List Pt} (h : ∀ p ∈ kvs, 0 < p.2.2) (x : Str) : 0 < (getQ kvs x).2 := by
  rcases getQ_mem (kvs := kvs) (x := x) with e | ⟨p, hp, _, e⟩
  · rw [e]; decide
  · rw [e]; exact h p hp
/-- what a drawn row is -/
structure GoodR (r : Rw) : Prop where
  sz : SzR 150 r
  low : LowR r
  sg : Sgn r.2.1
  len : r.1.length ≤ 3
  from0 : ∃ r0, PosR r0 ∧ r = normM r0 ∧ r0.2.1 = r.2.1
theorem GoodR.pos {r : Rw} (h : GoodR r) : PosR r := ⟨fun p hp => ⟨(h.low.ps p hp).1.pos, (h.low.ps p hp).2⟩, h.low.bd.pos⟩
theorem fac_low {r : Rw} (h : PosR r) : (factorM r).1 ≠ 0 ∧ 0 < (factorM r).2 := by
  obtain ⟨q, qs, e⟩ := facQ_cons r
  by_cases h0 : q.1 = 0
  · obtain ⟨ps, sg, bd⟩ := r
    cases ps with
    | cons p ps =>
      simp only [facQ, List.map_cons, List.cons.injEq] at e
      exact absurd (by rw [e.1]; exact h0) (h.ps p List.mem_cons_self).2
    | nil =>
      simp only [facQ, List.cons.injEq] at e
      obtain ⟨rfl, rfl⟩ := e
      simp [factorM, h0]
  · obtain ⟨f, P, E, L⟩ := fac_rv h e h0
    refine ⟨?_, L.pos⟩
    intro z
    have f0 := P.pos
    have := (rv_zero (q := factorM r)).mpr (.inl z)
    rw [E] at this
    split at this <;> grind
theorem LowR.scale {r : Rw} {f : Qn} (h : PosR r) (hf : f.1 ≠ 0) (hf2 : 0 < f.2) : LowR (scaleM r f) := by
  refine ⟨fun p hp => ?_, low_nrm (Int.mul_ne_zero (by have := h.bd; omega) (by omega))⟩
  obtain ⟨x, hx, rfl⟩ := List.mem_map.mp hp
  obtain ⟨h1, h2⟩ := h.ps x hx
  exact ⟨low_nrm (Int.mul_ne_zero (by omega) (by omega)), qmul_nz h2 h1 hf hf2⟩
theorem Good.good {r : Rw} (h : Good r) : GoodR r := by
  obtain ⟨ps, sg, b, rfl, hs, hp, hl, hb⟩ := h
  have pl := partsM_len ps
  have z0 : SzR 28 (partsM ps, sg, b) := (szR_parts (n := 6) (fun p h => (hp p h).1) hb).mono (by omega)
  have p0 : PosR (partsM ps, sg, b) := ⟨fun p h => ⟨(z0.ps p h).pos, partsM_nz p h⟩, hb.pos⟩
  obtain ⟨f1, f2⟩ := fac_low p0
  have hn : 28 * ((partsM ps).length + 1) ≤ 28 * 4 := Nat.mul_le_mul_left _ (by omega)
  refine ⟨(z0.norm hs.ok (fun p h => partsM_nz p h) (by show (partsM ps).length ≤ _; omega) (by show 28 * ((partsM ps).length + 1) + 4 ≤ _; omega)).mono (by show 28 + (28 * ((partsM ps).length + 1) + 4) ≤ _; omega), LowR.scale p0 f1 f2, hs, ?_, _, p0, rfl, rfl⟩
  show ((partsM ps).map _).length ≤ 3
  rw [List.length_map]
  omega
/-- a multiple of a drawn row has the row as its normal form -/
theorem pg_normal_multiple {r : Rw} {c : Qn} (h : GoodR r) (hc : c.1 ≠ 0) (zc : Sz 10 c) (hs : (r.2.1 == "=") = false → 0 < c.1) : PG.B_normal (rD (scaleM r c)) = .ok (rD r) := by
  obtain ⟨r0, p0, e, es⟩ := h.from0
  have hP := h.pos
  have z : SzR 160 (scaleM r c) := ⟨fun p hp => by
    obtain ⟨x, hx, rfl⟩ := List.mem_map.mp hp
    exact (h.sz.ps x hx).mul zc, h.sz.bd.mul zc⟩
  have hl : (scaleM r c).1.length ≤ 3 := by simp [scaleM]; exact h.len
  have hn : 160 * ((scaleM r c).1.length + 2) ≤ 160 * 5 := Nat.mul_le_mul_left _ (by omega)
  have L := LowR.scale hP hc zc.pos
  rw [pg_normal z L h.sg.ok (fun p hp => (L.ps p hp).2) (by omega) (by omega)]
  rw [e, norm_inv p0 hc zc.pos (by rw [es]; exact hs)]
end DL

/-! Values at points; where a row holds. -/
namespace DL
open PySem PySem.Spec PyProof.Rows L2 RT
def mergeQ (pt : List Pt) : List Pt := pt.foldl (fun k p => putQ k p.1 p.2) []
def look (pt : List Pt) (x : Str) : Qn := getQ (mergeQ pt) x
def atM (f : Str → Qn) (ps : List Pt) (t : Qn) : Qn := ps.foldl (fun t p => qadd t (qmul p.2 (f p.1))) t
theorem pairsD_dQ : ∀ pt : List Pt, pairsD (pt.map pD) = some (dQ pt)
  | [] => rfl
  | p :: pt => by
    have z := pairsD_dQ pt
    show (pairD (pD p)).bind (fun q => (pairsD (pt.map pD)).map (q :: ·)) = _
    rw [z]
    rfl
theorem mergeD_dQ (pt : List Pt) : mergeD [] (dQ pt) = dQ (mergeQ pt) := by
  have main : ∀ (pt kvs : List Pt), mergeD (dQ kvs) (dQ pt) = dQ (pt.foldl (fun k p => putQ k p.1 p.2) kvs) := by
    intro pt
    induction pt with
    | nil => intro kvs; rfl
    | cons p pt ih =>
      intro kvs
      have := ih (putQ kvs p.1 p.2)
      rw [List.foldl_cons, ← this, ← putD_dQ]
      rfl
  exact main pt []
theorem merge_all {P : Qn → Prop} : ∀ (pt kvs : List Pt), (∀ p ∈ kvs, P p.2) → (∀ p ∈ pt, P p.2) → ∀ q ∈ pt.foldl (fun k p => putQ k p.1 p.2) kvs, P q.2
  | [], kvs, h, _ => h
  | p :: pt, kvs, h, hp => merge_all pt (putQ kvs p.1 p.2) (fun q hq => by
      rcases mem_putQ hq with hq | rfl
      · exact h q hq
      · exact hp p List.mem_cons_self) fun q hq => hp q (List.mem_cons_of_mem _ hq)
theorem look_sz {pt : List Pt} {n : Nat} (h : ∀ p ∈ pt, Sz n p.2) (x : Str) : Sz (n + 1) (look pt x) :=
  Sz.get (fun p hp => (merge_all (P := Sz n) pt [] (fun _ h => by cases h) h p hp).mono (by omega)) x
section
variable {pt : List Pt} {m : Nat}
theorem lh_at_loop (hx : ∀ x, Sz m (look pt x)) {e0 e1 : Ent} : ∀ (ps : List Pt) {n k : Nat} (t : Qn) (e4 e5 : Ent), (∀ p ∈ ps, Sz n p.2) → Sz k t → n ≤ 3900 → m ≤ 3900 → k + (n + m + 1) * ps.length ≤ 3900 →
    ∃ e4' e5', loopS (tupT 2 (consTs (nameT 4) (consTs (nameT 5) nilTs))) LH.L_at_1 (ps.map pD) [e0, e1, .dct (dQ (mergeQ pt)), .d (N t), e4, e5] = .nx [e0, e1, .dct (dQ (mergeQ pt)), .d (N (atM (look pt) ps t)), e4', e5']
  | [], n, k, t, e4, e5, _, _, _, _, _ => ⟨e4, e5, rfl⟩
  | p :: ps, n, k, t, e4, e5, hp, ht, hn, hm, hk => by
    have e : (n + m + 1) * (p :: ps).length = (n + m + 1) * ps.length + (n + m + 1) := Nat.mul_succ _ _
    rw [e] at hk
    have h1 := hp p List.mem_cons_self
    have zm := h1.mul (hx p.1)
    obtain ⟨e4', e5', z⟩ := lh_at_loop hx (e0 := e0) (e1 := e1) ps (qadd t (qmul p.2 (look pt p.1))) (.d (.str p.1)) (.d (N p.2)) (fun q hq => hp q (List.mem_cons_of_mem _ hq)) (ht.add zm) hn hm (by omega)
    refine ⟨e4', e5', ?_⟩
    have v := valD_dQ (mergeQ pt) p.1
    have c1 : LH.m_mul [.tuple [.int p.2.1, .int p.2.2], N (look pt p.1)] = .ok (N (qmul p.2 (look pt p.1))) := lh_mul (h1.mono (by omega)) ((hx p.1).mono (by omega))
    have c2 : LH.m_add [N t, N (qmul p.2 (look pt p.1))] = .ok (N (qadd t (qmul p.2 (look pt p.1)))) := lh_add (ht.mono (by omega)) (zm.mono (by omega))
    have v2 : (valD (dQ (mergeQ pt)) (.inr p.1)).getD (.tuple [.int 0, .int 1]) = N (look pt p.1) := v
    rw [List.map_cons, loopS_cons (ρ1 := [e0, e1, .dct (dQ (mergeQ pt)), .d (N t), .d (.str p.1), .d (.tuple [.int p.2.1, .int p.2.2])]) (by simp)]
    simp only [N] at c1 c2 v2
    simp [LH.L_at_1, v2, c1, c2]
    exact z
theorem pg_at_loop (hx : ∀ x, Sz m (look pt x)) {e0 e1 e2 : Ent} : ∀ (ps : List Pt) {n k : Nat} (t : Qn) (e5 e6 : Ent), (∀ p ∈ ps, Sz n p.2) → Sz k t → n ≤ 3900 → m ≤ 3900 → k + (n + m + 1) * ps.length ≤ 3900 →
    ∃ e5' e6', loopS (tupT 2 (consTs (nameT 5) (consTs (nameT 6) nilTs))) PG.L_value_1 (ps.map pD) [e0, e1, e2, .d (N t), .dct (dQ (mergeQ pt)), e5, e6] = .nx [e0, e1, e2, .d (N (atM (look pt) ps t)), .dct (dQ (mergeQ pt)), e5', e6']
  | [], n, k, t, e5, e6, _, _, _, _, _ => ⟨e5, e6, rfl⟩
  | p :: ps, n, k, t, e5, e6, hp, ht, hn, hm, hk => by
    have e : (n + m + 1) * (p :: ps).length = (n + m + 1) * ps.length + (n + m + 1) := Nat.mul_succ _ _
    rw [e] at hk
    have h1 := hp p List.mem_cons_self
    have zm := h1.mul (hx p.1)
    obtain ⟨e5', e6', z⟩ := pg_at_loop hx (e0 := e0) (e1 := e1) (e2 := e2) ps (qadd t (qmul p.2 (look pt p.1))) (.d (.str p.1)) (.d (N p.2)) (fun q hq => hp q (List.mem_cons_of_mem _ hq)) (ht.add zm) hn hm (by omega)
    refine ⟨e5', e6', ?_⟩
    have v := valD_dQ (mergeQ pt) p.1
    have c1 : PG.m_times [.tuple [.int p.2.1, .int p.2.2], N (look pt p.1)] = .ok (N (qmul p.2 (look pt p.1))) := pg_times (h1.mono (by omega)) ((hx p.1).mono (by omega))
    have c2 : PG.m_plus [N t, N (qmul p.2 (look pt p.1))] = .ok (N (qadd t (qmul p.2 (look pt p.1)))) := pg_plus (ht.mono (by omega)) (zm.mono (by omega))
    have v2 : (valD (dQ (mergeQ pt)) (.inr p.1)).getD (.tuple [.int 0, .int 1]) = N (look pt p.1) := v
    rw [List.map_cons, loopS_cons (ρ1 := [e0, e1, e2, .d (N t), .dct (dQ (mergeQ pt)), .d (.str p.1), .d (.tuple [.int p.2.1, .int p.2.2])]) (by simp)]
    simp only [N] at c1 c2 v2
    simp [PG.L_value_1, v2, c1, c2]
    exact z
theorem at_sz (hx : ∀ x, Sz m (look pt x)) : ∀ (ps : List Pt) {n k : Nat} (t : Qn), (∀ p ∈ ps, Sz n p.2) → Sz k t → Sz (k + (n + m + 1) * ps.length) (atM (look pt) ps t)
  | [], n, k, t, _, ht => by simpa [atM] using ht
  | p :: ps, n, k, t, hp, ht => by
    have z := at_sz hx ps (n := n) (qadd t (qmul p.2 (look pt p.1))) (fun q hq => hp q (List.mem_cons_of_mem _ hq)) (ht.add ((hp p List.mem_cons_self).mul (hx p.1)))
    have e : k + (n + m + 1) * (p :: ps).length = k + (n + m) + 1 + (n + m + 1) * ps.length := by rw [List.length_cons, Nat.mul_succ]; omega
    rw [e]
    exact z
end
section
variable {pt ps : List Pt} {n m k : Nat} (hpt : ∀ p ∈ pt, Sz m p.2) (hp : ∀ p ∈ ps, Sz n p.2) (hn : n ≤ 3000) (hm : m ≤ 3000)
include hpt hp hn hm
theorem lh_at (hk : 1 + (n + (m + 1) + 1) * ps.length ≤ 3900) : LH.B_at (psD ps) (psD pt) = .ok (N (atM (look pt) ps (0, 1))) := by
  obtain ⟨e4, e5, L⟩ := lh_at_loop (look_sz hpt) (e0 := .d (psD ps)) (e1 := .d (psD pt)) ps (0, 1) .un .un hp sz01 (by omega) (by omega) hk
  have p1 := pairsD_dQ pt
  simp only [N] at L
  simp [LH.B_at, LH.S_at, p1, mergeD_dQ, L]
theorem pg_value {c : Qn} (hc : Sz k c) (hk : k + (n + (m + 1) + 1) * ps.length ≤ 3900) : PG.B_value (.tuple [psD ps, N c]) (psD pt) = .ok (N (atM (look pt) ps c)) := by
  obtain ⟨e4, e5, L⟩ := pg_at_loop (look_sz hpt) (e0 := .d (.tuple [psD ps, N c])) (e1 := .d (psD pt)) (e2 := .d (psD ps)) ps c .un .un hp hc (by omega) (by omega) hk
  have p1 := pairsD_dQ pt
  simp only [N] at L
  simp [PG.B_value, PG.S_value, p1, mergeD_dQ, L]
end
def holdsR (sg : Str) (x y : Rat) : Bool := if (sg == "=") = true then decide (x = y) else if (sg == "<") = true then decide (x < y) else decide (x ≤ y)
theorem qcmp_rv {p q : Qn} (hp : 0 < p.2) (hq : 0 < q.2) : (qcmp p q = 0 ↔ rv p = rv q) ∧ (qcmp p q < 0 ↔ rv p < rv q) ∧ (qcmp p q ≤ 0 ↔ rv p ≤ rv q) := by
  have h1 := rv_lt hp hq
  have h2 := rv_eq hp hq
  have h3 := rv_lt hq hp
  have h4 : rv p ≤ rv q ↔ ¬ rv q < rv p := by constructor <;> intro h <;> grind
  rw [h4, h3, h1, h2]
  unfold qcmp
  split
  · refine ⟨⟨fun h => by omega, fun h => by omega⟩, ⟨fun _ => by assumption, fun _ => by decide⟩, ⟨fun _ => by omega, fun _ => by decide⟩⟩
  · split
    · refine ⟨⟨fun h => by omega, fun h => by omega⟩, ⟨fun h => by omega, fun h => by omega⟩, ⟨fun h => by omega, fun h => by omega⟩⟩
    · refine ⟨⟨fun h => by omega, fun h => by omega⟩, ⟨fun h => by omega, fun h => by omega⟩, ⟨fun h => by omega, fun h => by omega⟩⟩
theorem pg_holds {r : Rw} {pt : List Pt} {n m : Nat} (hpt : ∀ p ∈ pt, Sz m p.2) (h : SzR n r) (hs : Sgn r.2.1) (hn : n ≤ 3000) (hm : m ≤ 3000) (hk : 1 + (n + (m + 1) + 1) * r.1.length ≤ 3900) :
    PG.B_holds (rD r) (psD pt) = .ok (.bool (holdsR r.2.1 (rv (atM (look pt) r.1 (0, 1))) (rv r.2.2))) := by
  have e1 : PG.m_value [.tuple [psD r.1, .tuple [.int 0, .int 1]], psD pt] = .ok (N (atM (look pt) r.1 (0, 1))) := pg_value hpt h.ps hn hm sz01 hk
  have z := at_sz (look_sz hpt) r.1 (n := n) (k := 1) (0, 1) h.ps sz01
  have e2 : PG.m_compare [N (atM (look pt) r.1 (0, 1)), .tuple [.int r.2.2.1, .int r.2.2.2]] = .ok (.int (qcmp (atM (look pt) r.1 (0, 1)) r.2.2)) := pg_compare (z.mono (by omega)) (h.bd.mono (by omega))
  obtain ⟨c1, c2, c3⟩ := qcmp_rv z.pos h.bd.pos
  generalize atM (look pt) r.1 (0, 1) = v at *
  simp only [N] at e1 e2
  unfold holdsR
  cases b1 : (r.2.1 == "=") with
  | true =>
    simp [PG.B_holds, PG.S_holds, e1, e2, dEq_s hs.ok ok_eq, b1]
    rw [Bool.eq_iff_iff, beq_iff_eq, decide_eq_true_eq]
    exact c1
  | false =>
    cases b2 : (r.2.1 == "<") with
    | true =>
      simp [PG.B_holds, PG.S_holds, e1, e2, dEq_s hs.ok ok_eq, dEq_s hs.ok ok_lt, b1, b2]
      exact c2
    | false =>
      simp [PG.B_holds, PG.S_holds, e1, e2, dEq_s hs.ok ok_eq, dEq_s hs.ok ok_lt, b1, b2]
      exact c3
theorem at_low (f : Str → Qn) (hf : ∀ x, 0 < (f x).2) : ∀ (ps : List Pt) (t : Qn), (∀ p ∈ ps, 0 < p.2.2) → Low t → Low (atM f ps t)
  | [], t, _, h => h
  | p :: ps, t, hp, h => at_low f hf ps _ (fun q hq => hp q (List.mem_cons_of_mem _ hq)) (low_nrm (Int.mul_ne_zero (by have := h.pos; omega) (by have := qmul_pos (hp p List.mem_cons_self) (hf p.1); omega)))
theorem low01 : Low (0, 1) := ⟨by decide, by decide⟩
theorem lh_true {r : Rw} {pt : List Pt} {n m : Nat} (hpt : ∀ p ∈ pt, Sz m p.2) (h : SzR n r) (hL : Low r.2.2) (hs : Sgn r.2.1) (hn : n ≤ 3000) (hm : m ≤ 3000) (hk : 1 + (n + (m + 1) + 1) * r.1.length ≤ 3900) :
    LH.B_true (rD r) (psD pt) = .ok (.bool (holdsR r.2.1 (rv (atM (look pt) r.1 (0, 1))) (rv r.2.2))) := by
  have e1 : LH.m_at [psD r.1, psD pt] = .ok (N (atM (look pt) r.1 (0, 1))) := lh_at hpt h.ps hn hm hk
  have z := at_sz (look_sz hpt) r.1 (n := n) (k := 1) (0, 1) h.ps sz01
  have l := at_low (look pt) (fun x => (look_sz hpt x).pos) r.1 (0, 1) (fun p hp => (h.ps p hp).pos) low01
  generalize atM (look pt) r.1 (0, 1) = v at *
  have e2 : LH.m_less [N v, .tuple [.int r.2.2.1, .int r.2.2.2]] = .ok (.bool (decide (v.1 * r.2.2.2 < r.2.2.1 * v.2))) := lh_less (z.mono (by omega)) (h.bd.mono (by omega))
  have e3 : LH.m_less [.tuple [.int r.2.2.1, .int r.2.2.2], N v] = .ok (.bool (decide (r.2.2.1 * v.2 < v.1 * r.2.2.2))) := lh_less (h.bd.mono (by omega)) (z.mono (by omega))
  have c2 := rv_lt z.pos h.bd.pos
  have c3 := rv_lt h.bd.pos z.pos
  have c1 : rv v = rv r.2.2 ↔ v = r.2.2 := ⟨rv_ext l hL, fun h => by rw [h]⟩
  simp only [N] at e1 e2 e3
  unfold holdsR
  cases b1 : (r.2.1 == "=") with
  | true =>
    simp [LH.B_true, LH.S_true, e1, dEq_s hs.ok ok_eq, b1]
    rw [Bool.eq_iff_iff]
    simp only [Bool.and_eq_true, beq_iff_eq, decide_eq_true_eq]
    rw [c1]
    exact ⟨fun ⟨a, b⟩ => Prod.ext a b, fun h => ⟨by rw [h], by rw [h]⟩⟩
  | false =>
    cases b2 : (r.2.1 == "<") with
    | true =>
      simp [LH.B_true, LH.S_true, e1, e2, dEq_s hs.ok ok_eq, dEq_s hs.ok ok_lt, b1, b2]
      exact c2.symm
    | false =>
      simp [LH.B_true, LH.S_true, e1, e3, dEq_s hs.ok ok_eq, dEq_s hs.ok ok_lt, b1, b2]
      have c4 : rv v ≤ rv r.2.2 ↔ ¬ rv r.2.2 < rv v := by constructor <;> intro h <;> grind
      by_cases hh : r.2.2.1 * v.2 < v.1 * r.2.2.2
      · have : ¬ rv v ≤ rv r.2.2 := fun z => c4.mp z (c3.mpr hh)
        simp [hh, this]
      · have : rv v ≤ rv r.2.2 := c4.mpr fun z => hh (c3.mp z)
        simp [hh, this]
/-! linear -/
def sumR (f : Str → Qn) : List Pt → Rat
  | [] => 0
  | p :: ps => rv p.2 * rv (f p.1) + sumR f ps
theorem rv_at {f : Str → Qn} (hf : ∀ x, 0 < (f x).2) : ∀ (ps : List Pt) (t : Qn), (∀ p ∈ ps, 0 < p.2.2) → 0 < t.2 → rv (atM f ps t) = rv t + sumR f ps
  | [], t, _, _ => by simp only [atM, List.foldl_nil, sumR]; grind
  | p :: ps, t, hp, ht => by
    have q1 := hp p List.mem_cons_self
    have q2 := qmul_pos q1 (hf p.1)
    have z := rv_at hf ps (qadd t (qmul p.2 (f p.1))) (fun q hq => hp q (List.mem_cons_of_mem _ hq)) (nrm_pos (Int.mul_ne_zero (by omega) (by omega)))
    show rv (atM f ps (qadd t (qmul p.2 (f p.1)))) = _
    rw [z, rv_add (by omega) (by omega), rv_mul (by have := hf p.1; omega) (by omega)]
    simp only [sumR]
    grind
theorem sumR_scale {f : Str → Qn} {c : Qn} (hc : 0 < c.2) : ∀ (ps : List Pt), (∀ p ∈ ps, 0 < p.2.2) → sumR f (ps.map fun p => (p.1, qmul p.2 c)) = rv c * sumR f ps
  | [], _ => by simp only [List.map_nil, sumR]; grind
  | p :: ps, hp => by
    have z := sumR_scale (f := f) hc ps fun q hq => hp q (List.mem_cons_of_mem _ hq)
    have q1 := hp p List.mem_cons_self
    simp only [List.map_cons, sumR, z]
    rw [rv_mul (by omega) (by omega)]
    grind
theorem holdsR_scale {sg : Str} {x y c : Rat} (hc : c ≠ 0) (h : (sg == "=") = false → 0 < c) : holdsR sg (c * x) (c * y) = holdsR sg x y := by
  unfold holdsR
  cases b1 : (sg == "=") with
  | true =>
    simp only [if_true]
    refine decide_eq_decide.mpr ⟨fun e => ?_, fun e => by rw [e]⟩
    have : c * (x - y) = 0 := by grind
    rcases Rat.mul_eq_zero.mp this with z | z <;> grind
  | false =>
    have c0 := h b1
    have k : c * x < c * y ↔ x < y := by
      constructor
      · intro e
        apply Classical.byContradiction
        intro z
        have := Rat.mul_nonneg (show 0 ≤ c by grind) (show 0 ≤ x - y by grind)
        grind
      · intro e
        have := Rat.mul_pos c0 (show 0 < y - x by grind)
        grind
    have k2 : c * y < c * x ↔ y < x := by
      constructor
      · intro e
        apply Classical.byContradiction
        intro z
        have := Rat.mul_nonneg (show 0 ≤ c by grind) (show 0 ≤ y - x by grind)
        grind
      · intro e
        have := Rat.mul_pos c0 (show 0 < x - y by grind)
        grind
    simp only [Bool.false_eq_true, if_false]
    split
    · exact decide_eq_decide.mpr k
    · refine decide_eq_decide.mpr ⟨fun e => ?_, fun e => ?_⟩
      · have : ¬ y < x := fun z => by have := k2.mpr z; grind
        grind
      · have : ¬ c * y < c * x := fun z => by have := k2.mp z; grind
        grind
theorem holds_multiple {r : Rw} {c : Qn} {f : Str → Qn} (hf : ∀ x, 0 < (f x).2) (hP : PosR r) (hc : c.1 ≠ 0) (hc2 : 0 < c.2) (hs : (r.2.1 == "=") = false → 0 < c.1) :
    holdsR (scaleM r c).2.1 (rv (atM f (scaleM r c).1 (0, 1))) (rv (scaleM r c).2.2) = holdsR r.2.1 (rv (atM f r.1 (0, 1))) (rv r.2.2) := by
  have p1 : ∀ p ∈ r.1, 0 < p.2.2 := fun p hp => (hP.ps p hp).1
  have p2 : ∀ p ∈ (scaleM r c).1, 0 < p.2.2 := fun p hp => by
    obtain ⟨x, hx, rfl⟩ := List.mem_map.mp hp
    exact qmul_pos (p1 x hx) hc2
  rw [rv_at hf _ _ p1 (by decide), rv_at hf _ _ p2 (by decide)]
  have e1 : sumR f (scaleM r c).1 = rv c * sumR f r.1 := sumR_scale hc2 r.1 p1
  have e2 : rv (scaleM r c).2.2 = rv c * rv r.2.2 := by
    show rv (qmul r.2.2 c) = _
    rw [rv_mul (by omega) (by have := hP.bd; omega)]
    grind
  have rc0 : rv c ≠ 0 := fun z => hc ((rv_nz hc2).mpr z)
  rw [e1, e2, rv01, Rat.zero_add, Rat.zero_add]
  refine holdsR_scale rc0 fun h => ?_
  have h1 : ¬ rv c < 0 := fun z => by have := (rv_neg hc2).mpr z; have := hs h; omega
  grind
/-! the grid -/
theorem frac8 {t b : Int} (ht : -8 ≤ t ∧ t ≤ 8) (hb : 0 < b ∧ b ≤ 3) : ∃ q : Qn, lm_f [.int t, .int b] = .ok (.tuple [.int q.1, .int q.2]) ∧ Sz 5 q := frac5 (by omega) (by omega)
def GridOk (pt : List Pt) : Prop := (∀ p ∈ pt, Sz 5 p.2) ∧ pt.map (·.1) = [("b1" : Str), "total", "x"]
theorem lh_grid (ns : List Int) (k : Nat) (hk : k < 900) : ∃ pts : List (List Pt), LH.B_grid (iL ns) (.int k) (.list [.str "b1", .str "total", .str "x"]) = .ok (.list (pts.map psD)) ∧ (∀ pt ∈ pts, GridOk pt) ∧ pts.length = 6 := by
  have hr : ∀ ρ, rng1 [.int 6] ρ = .ok (rangeL 0 6) ρ := fun ρ => rng1_nat (n := 6) (by decide)
  have L := loopS_inv (T := nameT 4) (S1 := LH.L_grid_1) (fun j ρ => ∃ (pts : List (List Pt)) (e4 e5 : Ent), ρ = [.d (iL ns), .d (.int k), .d (.list [.str "b1", .str "total", .str "x"]), .own (pts.map psD), e4, e5, .un] ∧ pts.length = j ∧ ∀ pt ∈ pts, GridOk pt) (rangeL 0 6) (fun j d ρ hd hI => ?_)
    [.d (iL ns), .d (.int k), .d (.list [.str "b1", .str "total", .str "x"]), .own [], .un, .un, .un] ⟨[], .un, .un, rfl, rfl, fun _ h => by cases h⟩
  · obtain ⟨ρ', h1, pts, e4, e5, rfl, h2, h3⟩ := L
    rw [rangeL_len] at h2
    exact ⟨pts, by simp [LH.B_grid, LH.S_grid, hr, h1], h3, h2⟩
  · obtain ⟨pts, e4, e5, rfl, h2, h3⟩ := hI
    obtain ⟨rfl, hj⟩ := rangeL_get hd
    obtain ⟨ds, ed, g⟩ := draw_ok ns (k + j) (by omega) [17, 17, 17, 17, 3] (by decide) (by decide)
    obtain ⟨a, b, c, d, z, rfl⟩ : ∃ a b c d z, ds = [a, b, c, d, z] := by
      match ds, g with
      | [a, b, c, d, z], _ => exact ⟨a, b, c, d, z, rfl⟩
    obtain ⟨g0, g1, g2, g3, g4, _⟩ := g
    have ed' : lm_draw [iL ns, .int ((k : Int) + (j : Int)), .list [.int 17, .int 17, .int 17, .int 17, .int 3]] = .ok (.list [.int a, .int b, .int c, .int d, .int z]) := by
      rw [show (k : Int) + (j : Int) = ((k + j : Nat) : Int) by omega]
      exact ed
    obtain ⟨qa, ea, za⟩ := frac8 (t := a - 8) (b := 1 + z) (by omega) (by omega)
    obtain ⟨qb, eb, zb⟩ := frac8 (t := b - 8) (b := 1 + z) (by omega) (by omega)
    obtain ⟨qc, ec, zc⟩ := frac8 (t := c - 8) (b := 1 + z) (by omega) (by omega)
    have hr3 : ∀ ρ, rng1 [.int 3] ρ = .ok [.int 0, .int 1, .int 2] ρ := fun ρ => rng1_nat (n := 3) (by decide)
    have hlen : pts.length < 16777216 := by rw [h2]; omega
    have cc : compL (nameT 6) yesT (tupF (consA (binF dIx (varF 2) (varF 6)) (consA (callF lm_f (consA (binF dSub (binF dIx (varF 5) (binF dMod (varF 6) (cF (.int 4)))) (cF (.int 8))) (consA (binF dAdd (cF (.int 1)) (binF dIx (varF 5) (cF (.int 4)))) nilA))) nilA)))
        [.d (iL ns), .d (.int k), .d (.list [.str "b1", .str "total", .str "x"]), .un, .d (.int (j : Int)), .d (.list [.int a, .int b, .int c, .int d, .int z]), .un] [.int 0, .int 1, .int 2] [] = some ([(("b1" : Str), qa), (("total" : Str), qb), (("x" : Str), qc)].map pD) := by
      have w := compL_map (T := nameT 6) (F := (tupF (consA (binF dIx (varF 2) (varF 6)) (consA (callF lm_f (consA (binF dSub (binF dIx (varF 5) (binF dMod (varF 6) (cF (.int 4)))) (cF (.int 8))) (consA (binF dAdd (cF (.int 1)) (binF dIx (varF 5) (cF (.int 4)))) nilA))) nilA))))
        (ρ := [.d (iL ns), .d (.int k), .d (.list [.str "b1", .str "total", .str "x"]), .un, .d (.int (j : Int)), .d (.list [.int a, .int b, .int c, .int d, .int z]), .un])
        (fun t : Int × Pt => PyData.int t.1) (fun t => pD t.2) [(0, ("b1", qa)), (1, ("total", qb)), (2, ("x", qc))] (fun t ht => by
          have f0 : (0 : Int).fmod 4 = 0 := by decide
          have f1 : (1 : Int).fmod 4 = 1 := by decide
          have f2 : (2 : Int).fmod 4 = 2 := by decide
          simp only [List.mem_cons, List.not_mem_nil, or_false] at ht
          rcases ht with rfl | rfl | rfl
          · simp [dMod_ok, f0, ea]
          · simp [dMod_ok, f1, eb]
          · simp [dMod_ok, f2, ec]) (by simp)
      exact w
    refine ⟨[.d (iL ns), .d (.int k), .d (.list [.str "b1", .str "total", .str "x"]), .own (pts.map psD), .d (.int (j : Int)), e5, .un], [.d (iL ns), .d (.int k), .d (.list [.str "b1", .str "total", .str "x"]), .own ((pts ++ [[(("b1" : Str), qa), (("total" : Str), qb), (("x" : Str), qc)]]).map psD), .d (.int (j : Int)), .d (.list [.int a, .int b, .int c, .int d, .int z]), .un], by simp, ?_, _, _, _, rfl, by simp; omega, fun pt hpt => ?_⟩
    · simp [LH.L_grid_1, ed', hr3, cc, hlen]
    · rcases List.mem_append.mp hpt with hpt | hpt
      · exact h3 pt hpt
      · rw [List.mem_singleton.mp hpt]
        refine ⟨fun p hp => ?_, rfl⟩
        simp only [List.mem_cons, List.not_mem_nil, or_false] at hp
        rcases hp with rfl | rfl | rfl <;> assumption
end DL

/-! Rows as data that can be compared; the law's loop. -/
namespace DL
open PySem PySem.Spec PyProof.Rows L2 RT
theorem dNe_self {d : PyData} (h : SeqAt.shaped d = true) : dNe d d = some (.bool false) := by
  have e : PyData.eqv d d = true := SeqAt.eqv_refl d (SeqAt.canLay_of_shaped h)
  simp [dNe, h, e]
theorem canAll {α : Type} {g : α → PyData} : ∀ {xs : List α}, (∀ x ∈ xs, (g x).canLay0 = true) → PyData.canLayAll0 (xs.map g) = true
  | [], _ => rfl
  | x :: xs, h => by
    rw [List.map_cons]
    show ((g x).canLay0 && PyData.canLayAll0 (xs.map g)) = true
    rw [h x List.mem_cons_self, canAll fun y hy => h y (List.mem_cons_of_mem _ hy)]
    rfl
theorem depAll {α : Type} {g : α → PyData} {n : Nat} : ∀ {xs : List α}, (∀ x ∈ xs, (g x).depth ≤ n) → PyData.depthAll (xs.map g) ≤ n
  | [], _ => Nat.zero_le _
  | x :: xs, h => by
    rw [List.map_cons]
    show max (g x).depth (PyData.depthAll (xs.map g)) ≤ n
    have h1 := h x List.mem_cons_self
    have h2 := depAll (g := g) (n := n) (xs := xs) fun y hy => h y (List.mem_cons_of_mem _ hy)
    omega
theorem pD_can {p : Pt} (h : PySem.PyData.strOk p.1 = true) : (pD p).canLay0 = true := by
  simp [PyData.canLay0, PyData.canLayAll0, h]
theorem pD_dep {p : Pt} : (pD p).depth ≤ 2 := by simp [PyData.depth, PyData.depthAll]
theorem psD_shaped {ps : List Pt} (h : ∀ p ∈ ps, PySem.PyData.strOk p.1 = true) : SeqAt.shaped (psD ps) = true := by
  have h1 : PyData.canLayAll0 (ps.map pD) = true := canAll fun p hp => pD_can (h p hp)
  have h2 : PyData.depthAll (ps.map pD) ≤ 2 := depAll fun p _ => pD_dep
  simp only [SeqAt.shaped, PyData.canLay0, PyData.depth, h1, Bool.true_and, decide_eq_true_eq]
  exact decide_eq_true (by omega)
theorem rD_shaped {r : Rw} (h : ∀ p ∈ r.1, PySem.PyData.strOk p.1 = true) (hs : PySem.PyData.strOk r.2.1 = true) : SeqAt.shaped (rD r) = true := by
  have h1 : PyData.canLayAll0 (r.1.map pD) = true := canAll fun p hp => pD_can (h p hp)
  have h2 : PyData.depthAll (r.1.map pD) ≤ 2 := depAll fun p _ => pD_dep
  simp only [SeqAt.shaped, PyData.canLay0, PyData.canLayAll0, PyData.depth, PyData.depthAll, h1, hs, Bool.true_and, Bool.and_true, decide_eq_true_eq]
  exact decide_eq_true (by omega)
theorem addQ_names : ∀ (ps kvs : List Pt) {P : Str → Prop}, (∀ p ∈ kvs, P p.1) → (∀ p ∈ ps, P p.1) → ∀ q ∈ sumQ ps kvs, P q.1
  | [], kvs, P, h, _ => h
  | p :: ps, kvs, P, h, hp => addQ_names ps (addQ kvs p) (fun q hq => by
      rcases mem_putQ hq with hq | rfl
      · exact h q hq
      · exact hp p List.mem_cons_self) fun q hq => hp q (List.mem_cons_of_mem _ hq)
theorem partsM_names {ps : List Pt} {P : Str → Prop} (h : ∀ p ∈ ps, P p.1) : ∀ q ∈ partsM ps, P q.1 := by
  intro q hq
  obtain ⟨q1, _⟩ := List.mem_filter.mp hq
  obtain ⟨x, hx, rfl⟩ := List.mem_map.mp q1
  obtain ⟨p, hp, e⟩ := List.mem_map.mp ((sortS_perm _).mem_iff.mp hx)
  rw [← e]
  exact addQ_names ps [] (fun _ h => by cases h) h p hp
theorem Nam.ok {x : Str} (h : Nam x) : PySem.PyData.strOk x = true := by
  rcases h with rfl | rfl | rfl <;> decide +kernel
theorem Good.names {r : Rw} (h : Good r) : ∀ p ∈ r.1, Nam p.1 := by
  obtain ⟨ps, sg, b, rfl, hs, hp, hl, hb⟩ := h
  intro p hq
  obtain ⟨x, hx, rfl⟩ := List.mem_map.mp hq
  exact partsM_names (P := Nam) (fun p hp' => (hp p hp').2) x hx
theorem Good.shaped {r : Rw} (h : Good r) : SeqAt.shaped (rD r) = true := rD_shaped (fun p hp => (h.names p hp).ok) h.ok
@[simp] theorem dNe_b {a b : Bool} : dNe (.bool a) (.bool b) = some (.bool (a != b)) := by cases a <;> cases b <;> rfl
@[simp] theorem dEq_b {a b : Bool} : dEq (.bool a) (.bool b) = some (.bool (a == b)) := by cases a <;> cases b <;> rfl
theorem rng_law (c d : Int) (hc : 0 ≤ c ∧ c ≤ 100) (hd : 0 < d ∧ d ≤ 10) (xs : List PyData) (hx : xs.length ≤ 63) (ρ : Rho) : ∃ n : Nat, (n : Int) ≤ c ∧ (range1F (consA (appF (app2 bMin) (consA (cF (.int c)) (consA (appF (app2 bMax) (consA (cF (.int 1)) (consA (binF dDiv (appF (app1 bLen) (consA (varF 0) nilA)) (cF (.int d))) nilA))) nilA))) nilA)) (.d (.list xs) :: ρ) = .ok (rangeL 0 n) (.d (.list xs) :: ρ) := by
  have sd : Sd d := Bt.sd (n := 31) (by unfold Bt; omega) (by omega) (by decide) (by decide)
  have f : ((xs.length : Nat) : Int).fdiv d = (xs.length : Int) / d := Int.fdiv_eq_ediv_of_nonneg _ (by omega)
  have f0 : 0 ≤ (xs.length : Int) / d := Int.ediv_nonneg (by omega) (by omega)
  have f1 : (xs.length : Int) / d ≤ 63 := Int.le_trans (Int.ediv_le_self _ (by omega)) (by omega)
  generalize (xs.length : Int) / d = z at f f0 f1
  refine ⟨(if (if z > 1 then z else 1) < c then (if z > 1 then z else 1) else c).toNat, by split <;> split <;> omega, ?_⟩
  simp [dDiv_ok, sd, f]
  exact rng1_ok (by split <;> split <;> omega) (by split <;> split <;> omega)
theorem loop_then {T : Tg} {S1 S2 : Rho → Out} {r : FR} {ρ : Rho} (I : Nat → Rho → Prop) (ds : List PyData) (h : ∀ (k : Nat) (d : PyData) (ρ : Rho), ds[k]? = some d → I k ρ → ∃ ρ1 ρ2, T d ρ = some ρ1 ∧ S1 ρ1 = .nx ρ2 ∧ I (k + 1) ρ2) (h0 : I 0 ρ)
    (hk : ∀ ρ', I ds.length ρ' → outFR (S2 ρ') = r) : outFR ((loopS T S1 ds ρ).bind S2) = r := by
  obtain ⟨ρ', e, q⟩ := loopS_inv (T := T) (S1 := S1) I ds h ρ h0
  rw [e]
  exact hk ρ' q
theorem loopS_cons_nx {T : Tg} {S1 : Rho → Out} {d : PyData} {ds : List PyData} {ρ ρ1 ρ2 : Rho} (h1 : T d ρ = some ρ1) (h2 : S1 ρ1 = .nx ρ2) : loopS T S1 (d :: ds) ρ = loopS T S1 ds ρ2 := by
  rw [loopS_cons h1, h2]
/-- a loop over a list, each turn by its own -/
theorem loopS_each {α : Type} {T : Tg} {S1 : Rho → Out} (I : Rho → Prop) (g : α → PyData) (xs : List α) (h : ∀ x ∈ xs, ∀ ρ, I ρ → ∃ ρ1 ρ2, T (g x) ρ = some ρ1 ∧ S1 ρ1 = .nx ρ2 ∧ I ρ2) (ρ : Rho) (h0 : I ρ) : ∃ ρ', loopS T S1 (xs.map g) ρ = .nx ρ' ∧ I ρ' :=
  loopS_list (fun _ => I) g xs (fun pre x post ρ e i => h x (by rw [e]; simp) ρ i) ρ h0
end DL

/-! A written dict of texts: k in D, D[k]. -/
namespace DL
open PySem PySem.Spec PyProof.Rows L2 RT
/-- the module's dict x has these pairs, and not these keys -/
def KD (w : World) (K : PySem.W.Frag) (mg : Str → Option Value) (x : Str) (kvs : List (Str × Str)) (ms : List Str) : Prop :=
  ∃ d es n, mg x = some (.ref d) ∧ KDict K w d es n ∧ (∀ p ∈ kvs, ∃ t, PySem.W.nsIn K d p.1 = some (some (.str p.2 t))) ∧ ∀ z ∈ ms, PySem.W.nsIn K d z = some none
def inKF (no : Bool) (kvs : List (Str × Str)) (ms : List Str) (F : Rho → Res PyData) : Rho → Res PyData := fun ρ => (F ρ).bind fun d ρ => match d with
  | .str z => if z ∈ kvs.map (·.1) then .ok (.bool (!no)) ρ else if z ∈ ms then .ok (.bool no) ρ else .bad
  | _ => .bad
def ixKF (kvs : List (Str × Str)) (F : Rho → Res PyData) : Rho → Res PyData := fun ρ => (F ρ).bind fun d ρ => match d with
  | .str z => (match kvs.find? fun p => decide (p.1 = z) with
    | some p => .ok (.str p.2) ρ
    | none => .bad)
  | _ => .bad
section
variable {X : L2.Cx} {B : Bx} {W : WX} {a : Expr} {x : Str} {pos px : Pos} {kvs : List (Str × Str)} {ms : List Str} {F : Rho → Res PyData}
theorem pt_inK (hk : KD X.w X.K X.mg x kvs ms) (ha : PE X a (tD (km X) B W F)) (hg : Gl X x := by rfl) (hd : (x == ("__debug__" : Str)) = false := by decide) (hmk : behindInMarks .In (.Name x px : Expr) = false := by rfl) :
    PT X (.Compare a [.In] [.Name x px] pos) (tDT (km X) B W (testF (inKF false kvs ms F))) := by
  obtain ⟨d, es, n, hm, D, h1, h2⟩ := hk
  refine (pt_cmpR (op_in_kd D) ha (pe_glob (v := .ref d) hg hm rfl hd) hmk).of ?_
  rintro σ H Q ⟨G, ρ, E, S⟩
  refine ⟨G, ρ, E, (Sat.bind (Sat.bind S)).imp fun y ρ1 s1 v G1 H1 E1 g1 dp1 => ?_⟩
  cases y <;> first | exact s1.elim | skip
  rename_i z
  cases dp1
  have s2 : Sat (km X) B W G σ (if z ∈ kvs.map (·.1) then Res.ok (PyData.bool true) ρ1 else if z ∈ ms then Res.ok (PyData.bool false) ρ1 else .bad) _ := s1
  by_cases c1 : z ∈ kvs.map (·.1)
  · rw [if_pos c1] at s2
    obtain ⟨p, hp, rfl⟩ := List.mem_map.mp c1
    obtain ⟨t, ht⟩ := h1 p hp
    exact ⟨p.1, _, rfl, rfl, ht, true, rfl, s2 G1 H1 E1 g1⟩
  · rw [if_neg c1] at s2
    by_cases c2 : z ∈ ms
    · rw [if_pos c2] at s2
      exact ⟨z, _, rfl, rfl, h2 z c2, false, rfl, s2 G1 H1 E1 g1⟩
    · rw [if_neg c2] at s2
      exact s2.elim
theorem pd_ixK (hk : KD X.w X.K X.mg x kvs ms) (ha : PE X a (tD (km X) B W F)) (hs : PlainIx a := by exact fun _ _ => rfl) (hg : Gl X x := by rfl) (hd : (x == ("__debug__" : Str)) = false := by decide) :
    PE X (.Subscript (.Name x px) a pos) (tD (km X) B W (ixKF kvs F)) := by
  obtain ⟨d, es, n, hm, D, h1, h2⟩ := hk
  refine (pe_ix ix_kdict (pe_glob (v := .ref d) hg hm rfl hd) ha hs).of ?_
  rintro σ H Q ⟨G, ρ, E, S⟩
  refine ⟨G, ρ, E, (Sat.bind S).imp fun y ρ1 s1 v G1 H1 E1 g1 dp1 => ?_⟩
  cases y <;> first | exact s1.elim | skip
  rename_i z
  cases dp1
  dsimp only at s1
  cases e : kvs.find? fun p => decide (p.1 = z) with
  | none => rw [e] at s1; exact s1.elim
  | some p =>
    rw [e] at s1
    obtain ⟨t, ht⟩ := h1 p (List.mem_of_find?_eq_some e)
    have ez : p.1 = z := by simpa using List.find?_some e
    rw [ez] at ht
    exact ⟨_, z, .str p.2, rfl, rfl, ⟨es, n, _, D.at_, D.lit, ht, ⟨_, rfl⟩⟩, s1 (.str p.2) G1 H1 E1 g1 (.str _)⟩
end
@[simp] theorem inKF_apc {no : Bool} {kvs : List (Str × Str)} {ms : List Str} {F : Rho → Res PyData} {e0 : Ent} {ρ : Rho} : inKF no kvs ms F (e0 :: ρ) = (F (e0 :: ρ)).bind fun d ρ => match d with
  | .str z => if z ∈ kvs.map (·.1) then .ok (.bool (!no)) ρ else if z ∈ ms then .ok (.bool no) ρ else .bad
  | _ => .bad := id rfl
@[simp] theorem ixKF_apc {kvs : List (Str × Str)} {F : Rho → Res PyData} {e0 : Ent} {ρ : Rho} : ixKF kvs F (e0 :: ρ) = (F (e0 :: ρ)).bind fun d ρ => match d with
  | .str z => (match kvs.find? fun p => decide (p.1 = z) with
    | some p => .ok (.str p.2) ρ
    | none => .bad)
  | _ => .bad := id rfl
end DL

/-! The program's functions over rows, first part. -/
namespace DL
open PySem PySem.Spec PyProof.Rows L2 RT
noncomputable def PG.L_added_up_1 : Rho → Out := (putS 1 (varF 2) (callF PG.m_plus (consA (dgetF 1 (varF 2) (cF (.tuple [.int 0, .int 1]))) (consA (varF 3) nilA))))
noncomputable def PG.S_added_up : Rho → Out := (seqS (newDS 1) (seqS (forS (itemsQ (varF 0)) (tupT 2 (consTs (nameT 2) (consTs (nameT 3) nilTs))) PG.L_added_up_1) (retS (appF (app1 bTuple) (consA (lcF [2] (itemsQ (dsortF 1)) (nameT 2) (testF (binF dNe (dixF 1 (varF 2)) (cF (.tuple [.int 0, .int 1])))) (tupF (consA (varF 2) (consA (dixF 1 (varF 2)) nilA)))) nilA)))))
noncomputable def PG.B_added_up (a0 : PyData) : FR := outFR (PG.S_added_up [.d a0, .un, .un, .un])
noncomputable def PG.m_added_up : Fn := fn1 PG.B_added_up
noncomputable def PG.S_term : Rho → Out := (retS (tupF (consA (callF PG.m_added_up (consA (varF 0) nilA)) (consA (varF 1) nilA))))
noncomputable def PG.B_term (a0 a1 : PyData) : FR := outFR (PG.S_term [.d a0, .d a1])
noncomputable def PG.m_term : Fn := fn2 PG.B_term
noncomputable def PG.S_row : Rho → Out := (seqS (asgS (callF PG.m_added_up (consA (varF 0) nilA)) (nameT 3)) (seqS (ifS (testF (inKF false [(">=", "<="), (">", "<")] ["<=", "<", "="] (varF 1))) (retS (callF PG.m_normal (consA (tupF (consA (callF PG.m_multiplied (consA (varF 3) (consA (cF (.tuple [.int (-1), .int 1])) nilA))) (consA (ixKF [(">=", "<="), (">", "<")] (varF 1)) (consA (callF PG.m_minus (consA (cF (.tuple [.int 0, .int 1])) (consA (varF 2) nilA))) nilA)))) nilA))) nxS) (retS (callF PG.m_normal (consA (tupF (consA (varF 3) (consA (varF 1) (consA (varF 2) nilA)))) nilA)))))
noncomputable def PG.B_row (a0 a1 a2 : PyData) : FR := outFR (PG.S_row [.d a0, .d a1, .d a2, .un])
noncomputable def PG.m_row : Fn := fn3 PG.B_row
end DL

/-! The program's sums and rows. -/
namespace DL
open PySem PySem.Spec PyProof.Rows L2 RT
theorem low_put {kvs : List Pt} {x : Str} {v : Qn} (h : ∀ p ∈ kvs, Low p.2) (hv : Low v) : ∀ p ∈ putQ kvs x v, Low p.2 := fun p hp => by
  rcases mem_putQ hp with hp | rfl
  · exact h p hp
  · exact hv
theorem low_get {kvs : List Pt} (h : ∀ p ∈ kvs, Low p.2) (x : Str) : Low (getQ kvs x) := by
  rcases getQ_mem (kvs := kvs) (x := x) with e | ⟨p, hp, _, e⟩
  · rw [e]; exact low01
  · rw [e]; exact h p hp
theorem low_sum : ∀ (ps kvs : List Pt), (∀ p ∈ kvs, Low p.2) → (∀ p ∈ ps, 0 < p.2.2) → ∀ q ∈ sumQ ps kvs, Low q.2
  | [], kvs, h, _ => h
  | p :: ps, kvs, h, hp => low_sum ps (addQ kvs p) (low_put h (low_nrm (Int.mul_ne_zero (by have := (low_get h p.1).pos; omega) (by have := hp p List.mem_cons_self; omega)))) fun q hq => hp q (List.mem_cons_of_mem _ hq)
theorem low_parts {ps : List Pt} (hp : ∀ p ∈ ps, 0 < p.2.2) : ∀ q ∈ partsM ps, Low q.2 := by
  intro q hq
  obtain ⟨q1, _⟩ := List.mem_filter.mp hq
  obtain ⟨x, hx, rfl⟩ := List.mem_map.mp q1
  exact low_get (low_sum ps [] (fun _ h => by cases h) hp) x
theorem pg_added_up {ps : List Pt} {n : Nat} (c : List PyData → PyData) (hc : c = PyData.list ∨ c = PyData.tuple) (h : ∀ p ∈ ps, Sz n p.2) (hn : (n + 1) * ps.length + 1 ≤ 3900) (hn1 : n ≤ 3900) (hl : ps.length < 60) : PG.B_added_up (c (ps.map pD)) = .ok (psD (partsM ps)) := by
  have L := sum_loop (e0 := .d (c (ps.map pD))) PG.L_added_up_1 PG.m_plus (fun p q hp hq => pg_plus hp hq) (cF (.tuple [.int 0, .int 1])) (fun e0 ρ => by simp) rfl ps [] (n := n) (k := 0) .un .un (fun _ h => by cases h) h (by omega) hn1 (by simp; omega)
  obtain ⟨e2', e3', L⟩ := L
  have hlen := sumQ_len ps []
  have lw := low_sum ps [] (fun _ h => by cases h) (fun p hp => (h p hp).pos)
  simp only [List.length_nil, Nat.zero_add] at hlen
  have Kp := keys_part (e0 := .d (c (ps.map pD))) (testF (binF dNe (dixF 1 (varF 2)) (cF (.tuple [.int 0, .int 1])))) (sumQ ps []) (e2 := e2') (e3 := frzE e3' |> roE) (fun x hx => by
    have v := valD_dQ2 (sumQ ps []) x hx
    simp only [N] at v
    have l := low_get lw x
    by_cases h0 : (getQ (sumQ ps []) x).1 = 0
    · have := low0 l h0
      simp [v, this]
    · simp [v, h0]) (by omega)
  have k1 := keysS_dQ (sumQ ps [])
  have hl2 : (sumQ ps []).length < 64 := by omega
  simp only [show dQ [] = [] from rfl] at L
  rcases hc with rfl | rfl
  · simp [PG.B_added_up, PG.S_added_up, L, k1, hl2, Kp]
    simp [partsM]
  · simp [PG.B_added_up, PG.S_added_up, L, k1, hl2, Kp]
    simp [partsM]
/-! the opposite numbers -/
def negQ (q : Qn) : Qn := qmul q (-1, 1)
theorem rv_negQ {q : Qn} (h : q.2 ≠ 0) : rv (negQ q) = -rv q := by
  unfold negQ
  rw [rv_mul (by decide) h, rvm1]
  grind
theorem low_negQ {q : Qn} (h : q.2 ≠ 0) : Low (negQ q) := low_nrm (Int.mul_ne_zero h (by decide))
def negK (kvs : List Pt) : List Pt := kvs.map fun p => (p.1, negQ p.2)
theorem get_neg : ∀ (kvs : List Pt) (x : Str), getQ (negK kvs) x = negQ (getQ kvs x)
  | [], x => by
    have : negQ (0, 1) = (0, 1) := by decide
    simp [getQ, negK, this]
  | p :: kvs, x => by
    have z := get_neg kvs x
    by_cases h : p.1 = x
    · simp [getQ, negK, h]
    · simp [getQ, negK, h] at z ⊢
      exact z
theorem put_neg (kvs : List Pt) (x : Str) (v : Qn) : putQ (negK kvs) x (negQ v) = negK (putQ kvs x v) := by
  unfold putQ
  have e : ((negK kvs).any fun kv => decide (kv.1 = x)) = (kvs.any fun kv => decide (kv.1 = x)) := by simp [negK, List.any_map, Function.comp_def]
  rw [e]
  split
  · simp only [negK, List.map_map]
    apply List.map_congr_left
    intro p _
    by_cases h : p.1 = x <;> simp [h]
  · simp [negK]
theorem sum_neg : ∀ (ps kvs : List Pt), (∀ p ∈ kvs, Low p.2) → (∀ p ∈ ps, 0 < p.2.2) → sumQ (flipM ps) (negK kvs) = negK (sumQ ps kvs)
  | [], kvs, _, _ => rfl
  | p :: ps, kvs, h, hp => by
    have p0 := hp p List.mem_cons_self
    have g := low_get h p.1
    have gp := g.pos
    have e : addQ (negK kvs) (p.1, qsub (0, 1) p.2) = negK (addQ kvs p) := by
      unfold addQ
      rw [← put_neg, get_neg]
      congr 1
      have s2 : (qsub (0, 1) p.2).2 ≠ 0 := by have : 0 < (qsub (0, 1) p.2).2 := nrm_pos (by show 1 * p.2.2 ≠ 0; omega); omega
      have n2 : (negQ (getQ kvs p.1)).2 ≠ 0 := by have := (low_negQ (q := getQ kvs p.1) (by omega)).pos; omega
      have a2 : (qadd (getQ kvs p.1) p.2).2 ≠ 0 := by have : 0 < (qadd (getQ kvs p.1) p.2).2 := nrm_pos (Int.mul_ne_zero (by omega) (by omega)); omega
      refine rv_ext (low_nrm (Int.mul_ne_zero n2 s2)) (low_negQ a2) ?_
      rw [rv_add s2 n2, rv_negQ (by omega), rv_negQ a2, rv_add (by omega) (by omega), rv_sub (by omega) (by decide), rv01]
      grind
    show sumQ (flipM ps) (addQ (negK kvs) (p.1, qsub (0, 1) p.2)) = negK (sumQ ps (addQ kvs p))
    rw [e]
    exact sum_neg ps (addQ kvs p) (low_put h (low_nrm (Int.mul_ne_zero (by omega) (by omega)))) fun q hq => hp q (List.mem_cons_of_mem _ hq)
theorem parts_flip {ps : List Pt} (hp : ∀ p ∈ ps, 0 < p.2.2) : partsM (flipM ps) = (partsM ps).map fun p => (p.1, qmul p.2 (-1, 1)) := by
  have e := sum_neg ps [] (fun _ h => by cases h) hp
  have e0 : negK [] = [] := rfl
  rw [e0] at e
  have lw := low_sum ps [] (fun _ h => by cases h) hp
  unfold partsM
  rw [e]
  generalize sumQ ps [] = kvs at lw
  have ek : (negK kvs).map (·.1) = kvs.map (·.1) := by simp [negK, Function.comp_def]
  rw [ek]
  generalize sortS (kvs.map (·.1)) = ks
  induction ks with
  | nil => rfl
  | cons x ks ih =>
    have l := low_get lw x
    have lp := l.pos
    have nz : (negQ (getQ kvs x)).1 = 0 ↔ (getQ kvs x).1 = 0 := by
      rw [rv_nz (low_negQ (by omega)).pos, rv_nz l.pos, rv_negQ (by omega)]
      constructor <;> intro h <;> grind
    rw [List.map_cons, List.map_cons, List.filter_cons, List.filter_cons, get_neg]
    by_cases h0 : (getQ kvs x).1 = 0
    · have h1 := nz.mpr h0
      rw [if_neg (by simp [h1]), if_neg (by simp [h0])]
      exact ih
    · have h1 : ¬ (negQ (getQ kvs x)).1 = 0 := fun z => h0 (nz.mp z)
      rw [if_pos (by simp [h1]), if_pos (by simp [h0]), List.map_cons, ih]
      rfl
theorem Sz.neg0 {n : Nat} {q : Qn} (h : Sz n q) : Sz n (qsub (0, 1) q) := by
  have := h.pos
  refine .nrm (by simp; omega) ?_ ?_
  · simpa using h.b1.neg
  · simpa using h.b2
theorem lowR_parts {ps : List Pt} {sg : Str} {b : Qn} (hp : ∀ p ∈ ps, 0 < p.2.2) (hb : Low b) : LowR (partsM ps, sg, b) := ⟨fun p h => ⟨low_parts hp p h, partsM_nz p h⟩, hb⟩
theorem posR_parts {ps : List Pt} {sg : Str} {b : Qn} (hp : ∀ p ∈ ps, 0 < p.2.2) (hb : Low b) : PosR (partsM ps, sg, b) := ⟨fun p h => ⟨(low_parts hp p h).pos, partsM_nz p h⟩, hb.pos⟩
section
variable {ps : List Pt} {n : Nat} {b : Qn} {sg : Str} (h : ∀ p ∈ ps, Sz n p.2) (hb : Sz n b) (lb : Low b) (hl : ps.length ≤ 18)
include h hb lb hl
theorem pg_normal_parts (hs : PySem.PyData.strOk sg = true) (hn : ((n + 1) * ps.length + 1 + n) * (ps.length + 2) + 4 ≤ 3900) : PG.B_normal (rD (partsM ps, sg, b)) = .ok (rD (rowM ps sg b)) := by
  have pl := partsM_len ps
  refine pg_normal (szR_parts h hb) (lowR_parts (fun p hp => (h p hp).pos) lb) hs (fun p hp => partsM_nz p hp) (by show (partsM ps).length ≤ _; omega) ?_
  show ((n + 1) * ps.length + 1 + n) * ((partsM ps).length + 2) + 4 ≤ 3900
  have : ((n + 1) * ps.length + 1 + n) * ((partsM ps).length + 2) ≤ ((n + 1) * ps.length + 1 + n) * (ps.length + 2) := Nat.mul_le_mul_left _ (by omega)
  omega
theorem pg_row0 (hs : Sgn sg) (hn : ((n + 1) * ps.length + 1 + n) * (ps.length + 2) + 4 ≤ 3900) : PG.B_row (.list (ps.map pD)) (.str sg) (N b) = .ok (rD (rowM ps sg b)) := by
  have hn1 : (n + 1) * ps.length + 1 + n ≤ 3900 := by
    have : ((n + 1) * ps.length + 1 + n) * 1 ≤ ((n + 1) * ps.length + 1 + n) * (ps.length + 2) := Nat.mul_le_mul_left _ (by omega)
    omega
  have e1 : PG.m_added_up [.list (ps.map pD)] = .ok (psD (partsM ps)) := pg_added_up PyData.list (.inl rfl) h (by omega) (by omega) (by omega)
  have e2 : PG.m_normal [.tuple [psD (partsM ps), .str sg, .tuple [.int b.1, .int b.2]]] = .ok (rD (rowM ps sg b)) := pg_normal_parts h hb lb hl hs.ok hn
  have i1 : sg ∉ ([">=", ">"] : List Str) := by rcases hs with rfl | rfl | rfl <;> decide
  have i2 : sg ∈ (["<=", "<", "="] : List Str) := by rcases hs with rfl | rfl | rfl <;> decide
  simp [PG.B_row, PG.S_row, e1]
  simp only [List.mem_cons, List.not_mem_nil, or_false] at i1 i2
  simp [i1, i2, e2]
theorem pg_row1 {sg2 : Str} (hs : (sg = ">=" ∧ sg2 = "<=") ∨ (sg = ">" ∧ sg2 = "<")) (hn : ((n + 1) * ps.length + 1 + n) * (ps.length + 2) + 4 ≤ 3900) : PG.B_row (.list (ps.map pD)) (.str sg) (N b) = .ok (rD (rowM (flipM ps) sg2 (qsub (0, 1) b))) := by
  have hn1 : (n + 1) * ps.length + 1 + n ≤ 3900 := by
    have : ((n + 1) * ps.length + 1 + n) * 1 ≤ ((n + 1) * ps.length + 1 + n) * (ps.length + 2) := Nat.mul_le_mul_left _ (by omega)
    omega
  have hf : ∀ p ∈ flipM ps, Sz n p.2 := fun p hp => by
    obtain ⟨q, hq, rfl⟩ := List.mem_map.mp hp
    exact (h q hq).neg0
  have fl : (flipM ps).length = ps.length := by simp [flipM]
  have pl := partsM_len ps
  have s2 : Sgn sg2 := by rcases hs with ⟨_, rfl⟩ | ⟨_, rfl⟩ <;> simp [Sgn]
  have e1 : PG.m_added_up [.list (ps.map pD)] = .ok (psD (partsM ps)) := pg_added_up PyData.list (.inl rfl) h (by omega) (by omega) (by omega)
  have e2 : PG.m_multiplied [psD (partsM ps), .tuple [.int (-1), .int 1]] = .ok (psD (partsM (flipM ps))) := by
    rw [parts_flip fun p hp => (h p hp).pos]
    exact pg_multiplied (fun p hp => (Sz.parts h p hp).mono (by omega)) (szm1.mono (by decide)) (by omega)
  have e3 : PG.m_minus [.tuple [.int 0, .int 1], .tuple [.int b.1, .int b.2]] = .ok (N (qsub (0, 1) b)) := pg_minus (sz01.mono (by decide)) (hb.mono (by omega))
  have e4 : PG.m_normal [.tuple [psD (partsM (flipM ps)), .str sg2, .tuple [.int (qsub (0, 1) b).1, .int (qsub (0, 1) b).2]]] = .ok (rD (rowM (flipM ps) sg2 (qsub (0, 1) b))) :=
    pg_normal_parts hf hb.neg0 (low_nrm (by have := lb.pos; simp; omega)) (by omega) s2.ok (by rw [fl]; exact hn)
  rcases hs with ⟨rfl, rfl⟩ | ⟨rfl, rfl⟩
  · have d1 : (">" : Str) = ">=" ↔ False := by decide
    simp [PG.B_row, PG.S_row, e1, e2, e3, e4]
  · have d1 : (">=" : Str) = ">" ↔ False := by decide
    simp [PG.B_row, PG.S_row, e1, e2, e3, e4, d1]
end
theorem norm_norm {r0 : Rw} (h : PosR r0) : normM (normM r0) = normM r0 := by
  obtain ⟨f1, f2⟩ := fac_low h
  have L := LowR.scale h f1 f2
  have e : scaleM (normM r0) (1, 1) = normM r0 := by
    have one : ∀ q : Qn, Low q → qmul q (1, 1) = q := fun q l => by
      have := l.pos
      refine rv_ext (low_nrm (Int.mul_ne_zero (by omega) (by decide))) l ?_
      rw [rv_mul (by decide) (by omega), rv11]
      grind
    have Lb := one _ L.bd
    show ((normM r0).1.map fun p => (p.1, qmul p.2 (1, 1)), (normM r0).2.1, qmul (normM r0).2.2 (1, 1)) = normM r0
    have : ((normM r0).1.map fun p => (p.1, qmul p.2 (1, 1))) = (normM r0).1 := by
      conv => rhs; rw [← List.map_id (normM r0).1]
      apply List.map_congr_left
      intro p hp
      rw [one _ (L.ps p hp).1]
      rfl
    rw [this, show qmul (normM r0).2.2 (1, 1) = (normM r0).2.2 from Lb]
  have := norm_inv h (c := (1, 1)) (by decide) (by decide) (fun _ => by decide)
  rw [e] at this
  exact this
end DL

namespace DL
open PySem PySem.Spec PyProof.Rows L2 RT
theorem ext_tup (l : Addr) (items : Array Value) (n : Nat) (b : Addr) (items2 : Array Value) (n2 : Nat) (sl : Array (Option Value))
    (hs0 : ¬(!items.isEmpty && Builtin.List.listTooLong (items.size + items2.size)) = true) (hs1 : items.size ≤ sizeLine)
    (hs2 : items.size + items2.size ≤ sizeLine + 1) :
    Meets (Builtin.«list.extend» ⟨[.ref l, .ref b], []⟩) fun _ R s =>
      s.heap.get? l = some ⟨.type "list", none, .seq items n, #[]⟩ ∧ s.heap.get? b = some ⟨.type "tuple", none, .seq items2 n2, sl⟩ ∧
      R (.ok (.ret Value.none)) { s with heap := s.heap.update l (Obj.mapSeq fun x => x ++ items2), toks := s.toks } :=
  .of_wp fun prog w A R s h => by
    obtain ⟨hp, g, d, tk, os⟩ := s
    obtain ⟨hl, hb, h⟩ := h
    have f1 := AutoSeq1.idx_int
    have f2 := AutoSeq1.sub_tuple_tuple
    have f3 := AutoSeq1.sub_list_list
    have f4 := AutoSeq1.sub_tuple_list
    have f5 := AutoSeq1.sub_list_tuple
    have hz' : (items ++ items2).size ≤ sizeLine + 1 := by
      rw [Array.size_append]
      exact hs2
    wp_walk using (wpAny_updateSeq hl rfl (hz := hs1) (_hz' := hz')), AutoSeq1.wpAny_loadPart' hl, AutoSeq1.wpAny_loadPart' hb
    exact ⟨_, rfl, h⟩
section
variable {X : L2.Cx} {B : Bx} {W : WX} {pos : Pos} {e : Expr} {F : Rho → Res PyData}
def rExtT (K : PySem.W.Frag) : V → List V → Hp → VK → Prop := fun x vs H Q => ∃ l b xs zs, x = .ref l ∧ vs = [.ref b] ∧ H l = some (.lst xs) ∧ SqN K H b zs ∧ xs.length + zs.length ≤ sizeLine ∧ Q .non (upd H l (.lst (xs ++ zs)))
theorem mt_extT : MtM X "list.extend" (rExtT X.K) := by
  intro pins s σ H x vs v us Q I rx rv h
  obtain ⟨l, b, xs, zs, rfl, rfl, hH, hB, hz, q⟩ := h
  cases rx
  obtain ⟨u, rfl, ru⟩ := rv.one
  cases ru
  obtain ⟨z, its, n, r, hl, e⟩ := I.lstM hH
  obtain ⟨its2, r2, ⟨⟨oc, od, dt, sl⟩, n2, hl2, h1, h2, h3⟩, z2⟩ := sqN_plain I hB
  simp only at h1 h2 h3
  subst h1 h2 h3
  have e2 : its2.length = zs.length := (r2.length).symm
  have hsz : its.toArray.size + its2.toArray.size ≤ sizeLine := by
    rw [List.size_toArray, List.size_toArray]
    omega
  have hlong : ¬ (!its.toArray.isEmpty && Builtin.List.listTooLong (its.toArray.size + its2.toArray.size)) = true := by
    rw [notLongL hsz, Bool.and_false]
    exact Bool.false_ne_true
  refine call_meets F.slot_list_extend ⟨_, e, rfl⟩ F.entry_list_extend (F.args_list_extend_2 _ _) (ext_tup l its.toArray n b its2.toArray n2 sl hlong (by rw [List.size_toArray]; omega) (by omega)) ⟨e, hl2, ?_⟩
  refine ⟨.non, _, I.lset (its' := its ++ its2) hH e (by simp) (r.append r2) ?_, rfl, q⟩
  rw [List.length_append]
  omega
def extS (i : Nat) (F : Rho → Res PyData) : Rho → Out := fun ρ => if isOwn ρ[i]? = true then (F ρ).out fun d ρ => match ρ[i]?, d with
  | some (.own xs), .tuple ys => if xs.length + ys.length ≤ sizeLine then .nx (ρ.set i (.own (xs ++ ys))) else .bad
  | _, _ => .bad
  else .bad
theorem pd_ext (i : Nat) {x : Str} {px apos cpos : Pos} (he : PE X e (tD (km X) B W F)) (hN : X.N[i]? = some x := by rfl)
    (hv : Vis X.env.scope x := by first | exact Or.inl rfl | exact Or.inr (Or.inl rfl) | exact Or.inr (Or.inr rfl)) (hd : (x == ("__debug__" : Str)) = false := by decide)
    (hcd : (x == ("__classdict__" : Str)) = false := by decide) (hbase : attributeBase (.Name x px) "extend" X.env (eval (.Name x px) X.env) = eval (.Name x px) X.env := by rfl)
    (hfew : ((backTo cpos (starEach [e] X.env)).all (fun x => !x.1) && (backToKw cpos (keywordEach [] X.env)).all (fun x => x.1.isSome)
      && decide ([e].length + ([] : List Keyword).length + (if ([] : List Keyword).isEmpty then 0 else 1) < 30)) = true := by rfl)
    (hline : (apos.endLine == cpos.line) = true := by rfl) (hs : starEach [e] X.env = (false, eval e X.env) :: starEach [] X.env := by rfl) (hplain : (backTo cpos (starEach [] X.env)).any (·.1) = false := by rfl)
    (hsw : swapsWith (.Call (.Attribute (.Name x px) "extend" apos) [e] [] cpos) none pos.line X.env = pure false := by rfl) :
    PS X (.Expr (.Call (.Attribute (.Name x px) "extend" apos) [e] [] cpos) pos) (tDS (km X) B W (extS i F)) := by
  refine (ps_expr (pe_bm PySem.F.plainAttrs_list PySem.F.slot_list_extend PySem.F.type_list_extend mt_extT (pe_var hN hv hd hcd) (pa_cons he pa_nil hs) hbase hfew hline hs hplain) hsw).of ?_
  rintro D σ H ⟨G, ρ, E, S⟩
  unfold extS at S
  cases ho : isOwn ρ[i]? with
  | false => rw [ho, if_neg (by decide)] at S; exact S.elim
  | true =>
    rw [ho, if_pos rfl] at S
    obtain ⟨zs, hz⟩ := isOwn_of ho
    have q := E.ent i _ hz
    generalize hσ : σ[i]? = o at q
    cases q with
    | own h1 h2 h3 h4 =>
      refine ⟨_, hσ, .inl ⟨rfl, _, SqL.of h1⟩, G, ρ, E, S.out.imp fun d ρ1 s1 v G1 H1 E1 g1 dp1 => ?_⟩
      show ∃ l b xs zs, _
      split at s1
      · rename_i ys ts hy
        have q := E1.ent i _ hy
        rw [hσ] at q
        cases q with
        | own k1 k2 k3 k4 =>
          by_cases hl : ys.length + ts.length ≤ sizeLine
          · rw [if_pos hl] at s1
            cases dp1 with
            | tup t1 t2 =>
              exact ⟨_, _, _, _, rfl, rfl, k1, t1.same E1.base.gh, by rw [k4.len, t2.len]; exact hl, s1 _ _ _ (E1.change hy hσ (k4.append t2)) g1⟩
          · rw [if_neg hl] at s1
            exact s1.elim
      · exact s1.elim
def par3S (i j l : Nat) (d : PyData) : Rho → Out := fun ρ => if i < ρ.length ∧ j < ρ.length ∧ l < ρ.length then .nx (((ρ.set i (.own [])).set j (.own [])).set l (.d d)) else .bad
/-- x, y, z = [], [], c: two lists of its own and a written constant -/
theorem pd_par3 (i j l : Nat) {x y z c : Str} {px py pz pt p1 p2 p3 : Pos} {kt k2 pt2} {v : V} {u : Value} {d : PyData} (hc : X.calm = true) (hN : X.N.Nodup) (hm : X.mg c = some u) (r : RelV v u) (hdq : ∀ G : Hp, Dq X.K G v d) (hi : X.N[i]? = some x := by rfl) (hj : X.N[j]? = some y := by rfl) (hl : X.N[l]? = some z := by rfl)
    (hij : i ≠ j := by decide) (hil : i ≠ l := by decide) (hjl : j ≠ l := by decide) (hx : X.env.scope.names.lookup x = some .local := by rfl) (hy : X.env.scope.names.lookup y = some .local := by rfl) (hz : X.env.scope.names.lookup z = some .local := by rfl)
    (hw : swappedStores [.Tuple [.Name x px, .Name y py, .Name z pz] kt pt] (.Tuple [.List [] p1, .List [] p2, .Name c p3] k2 pt2) X.env = pure (some [x, y, z]) := by rfl)
    (hs : swapsWithSole [.Tuple [.Name x px, .Name y py, .Name z pz] kt pt] (.Tuple [.List [] p1, .List [] p2, .Name c p3] k2 pt2) pos.line X.env = pure false := by rfl)
    (hg : Gl X c := by rfl) (hd : (c == ("__debug__" : Str)) = false := by decide) :
    PS X (.Assign [.Tuple [.Name x px, .Name y py, .Name z pz] kt pt] (.Tuple [.List [] p1, .List [] p2, .Name c p3] k2 pt2) pos) (tDS (km X) B W (par3S i j l d)) := by
  refine (ps_par3 hc hN hi hj hl hij hil hjl hx hy hz (pa_cons (pe_lst pa_nil) (pa_cons (pe_lst pa_nil) (pa_cons (pe_glob hg hm r hd) pa_nil))) hw hs).of ?_
  rintro D σ H ⟨G, ρ, E, S⟩
  unfold par3S at S
  by_cases h : i < ρ.length ∧ j < ρ.length ∧ l < ρ.length
  · rw [if_pos h] at S
    refine ⟨Nat.zero_le _, fun q1 hq1 => ⟨Nat.zero_le _, fun q2 hq2 => ⟨_, _, _, rfl, ?_⟩⟩⟩
    have E1 := E.putOwn h.1 hq1 .nil
    have E2 := E1.putOwn (i := j) (by simpa using h.2.1) hq2 .nil
    exact S _ _ _ (E2.put (i := l) (by simpa using h.2.2) (hdq _)) (Same.refl _)
  · rw [if_neg h] at S
    exact S.elim
end
theorem extS_ap {i : Nat} {F : Rho → Res PyData} {ρ : Rho} : extS i F ρ = if isOwn ρ[i]? = true then (F ρ).out fun d ρ => match ρ[i]?, d with
  | some (.own xs), .tuple ys => if xs.length + ys.length ≤ 16777216 then .nx (ρ.set i (.own (xs ++ ys))) else .bad
  | _, _ => .bad
  else .bad := by unfold extS; rw [sizeLine_eq] <;> rfl
@[simp] theorem extS_apc {i : Nat} {F : Rho → Res PyData} {e0 : Ent} {ρ : Rho} : extS i F (e0 :: ρ) = if isOwn (e0 :: ρ)[i]? = true then (F (e0 :: ρ)).out fun d ρ => match ρ[i]?, d with
  | some (.own xs), .tuple ys => if xs.length + ys.length ≤ 16777216 then .nx (ρ.set i (.own (xs ++ ys))) else .bad
  | _, _ => .bad
  else .bad := extS_ap
@[simp] theorem par3S_apc {i j l : Nat} {d : PyData} {e0 : Ent} {ρ : Rho} : par3S i j l d (e0 :: ρ) = if i < (e0 :: ρ).length ∧ j < (e0 :: ρ).length ∧ l < (e0 :: ρ).length then .nx ((((e0 :: ρ).set i (.own [])).set j (.own [])).set l (.d d)) else .bad := id rfl
end DL

namespace DL
open PySem PySem.Spec PyProof.Rows L2 RT
noncomputable def PG.S__sign_of_sum : Rho → Out := (seqS (ifS (testF (binF dIn3 (cF (.str "<")) (varF 0))) (retS (cF (.str "<"))) nxS) (seqS (ifS (testF (binF dIn3 (cF (.str "<=")) (varF 0))) (retS (cF (.str "<="))) nxS) (retS (cF (.str "=")))))
noncomputable def PG.B__sign_of_sum (a0 : PyData) : FR := outFR (PG.S__sign_of_sum [.d a0])
noncomputable def PG.m__sign_of_sum : Fn := fn1 PG.B__sign_of_sum
noncomputable def PG.L_sum_of_1 : Rho → Out := (seqS (asgS (binF dIx (varF 0) (varF 5)) (tupT 3 (consTs (nameT 7) (consTs (nameT 8) (consTs (nameT 9) nilTs))))) (seqS (extS 2 (callF PG.m_multiplied (consA (varF 7) (consA (varF 6) nilA)))) (seqS (appendS 3 (varF 8)) (asgS (callF PG.m_plus (consA (varF 4) (consA (callF PG.m_times (consA (varF 9) (consA (varF 6) nilA))) nilA))) (nameT 4)))))
noncomputable def PG.S_sum_of : Rho → Out := (seqS (par3S 2 3 4 (.tuple [.int 0, .int 1])) (seqS (forS (itemsQ (varF 1)) (tupT 2 (consTs (nameT 5) (consTs (nameT 6) nilTs))) PG.L_sum_of_1) (retS (tupF (consA (callF PG.m_added_up (consA (varF 2) nilA)) (consA (callF PG.m__sign_of_sum (consA (varF 3) nilA)) (consA (varF 4) nilA)))))))
noncomputable def PG.B_sum_of (a0 a1 : PyData) : FR := outFR (PG.S_sum_of [.d a0, .d a1, .un, .un, .un, .un, .un, .un, .un, .un])
noncomputable def PG.m_sum_of : Fn := fn2 PG.B_sum_of
noncomputable def LH.L_all_1 : Rho → Out := (ifS (notT (truF (callF LH.m_true (consA (varF 2) (consA (varF 1) nilA))))) (retS (cF (.bool false))) nxS)
noncomputable def LH.S_all : Rho → Out := (seqS (forS (itemsQ (varF 0)) (nameT 2) LH.L_all_1) (retS (cF (.bool true))))
noncomputable def LH.B_all (a0 a1 : PyData) : FR := outFR (LH.S_all [.d a0, .d a1, .un])
noncomputable def LH.m_all : Fn := fn2 LH.B_all
noncomputable def LH.L_total_1 : Rho → Out := (seqS (asgS (callF LH.m_scaled (consA (binF dIx (varF 0) (varF 5)) (consA (varF 6) nilA))) (nameT 7)) (seqS (asgS (binF dAdd (varF 2) (appF (app1 bList) (consA (binF dIx (varF 7) (cF (.int 0))) nilA))) (nameT 2)) (seqS (asgS (callF LH.m_add (consA (varF 3) (consA (binF dIx (varF 7) (cF (.int 2))) nilA))) (nameT 3)) (ifS (orT (testF (binF dEq (binF dIx (varF 7) (cF (.int 1))) (cF (.str "<")))) (testF (binF dEq (varF 4) (cF (.str "<"))))) (asgS (cF (.str "<")) (nameT 4)) (ifS (testF (binF dEq (binF dIx (varF 7) (cF (.int 1))) (cF (.str "<=")))) (asgS (cF (.str "<=")) (nameT 4)) nxS)))))
noncomputable def LH.S_total : Rho → Out := (seqS (ownS nilA 2) (seqS (asgS (tupF (consA (cF (.int 0)) (consA (cF (.int 1)) nilA))) (nameT 3)) (seqS (asgS (cF (.str "=")) (nameT 4)) (seqS (forS (itemsQ (varF 1)) (tupT 2 (consTs (nameT 5) (consTs (nameT 6) nilTs))) LH.L_total_1) (retS (tupF (consA (callF LH.m_parts (consA (varF 2) nilA)) (consA (varF 4) (consA (varF 3) nilA)))))))))
noncomputable def LH.B_total (a0 a1 : PyData) : FR := outFR (LH.S_total [.d a0, .d a1, .un, .un, .un, .un, .un, .un])
noncomputable def LH.m_total : Fn := fn2 LH.B_total
end DL

/-! Sums of parts: sizes by name, no name twice, the value of a sum. -/
namespace DL
open PySem PySem.Spec PyProof.Rows L2 RT
theorem getQ_put (kvs : List Pt) (x y : Str) (v : Qn) : getQ (putQ kvs y v) x = if x = y then v else getQ kvs x := by
  by_cases hm : (kvs.any fun kv => decide (kv.1 = y)) = true
  · unfold putQ
    rw [if_pos hm]
    induction kvs with
    | nil => cases hm
    | cons p kvs ih =>
      by_cases h1 : p.1 = y
      · by_cases h2 : x = y
        · rw [if_pos h2]; simp [getQ, h1, h2]
        · rw [if_neg h2]
          have h3 : ¬ p.1 = x := fun z => h2 (z.symm.trans h1)
          have h3' : ¬ y = x := fun z => h2 z.symm
          by_cases hm2 : (kvs.any fun kv => decide (kv.1 = y)) = true
          · have z := ih hm2
            rw [if_neg h2] at z
            simp [getQ, h1, h3'] at z ⊢
            exact z
          · have e : kvs.map (fun kv => if kv.1 = y then (kv.1, v) else kv) = kvs := by
              conv => rhs; rw [← List.map_id kvs]
              apply List.map_congr_left
              intro q hq
              have : ¬ q.1 = y := fun z => hm2 (List.any_eq_true.mpr ⟨q, hq, by simpa using z⟩)
              simp [this]
            simp [getQ, h1, h3', e]
      · have hm2 : (kvs.any fun kv => decide (kv.1 = y)) = true := by simpa [h1] using hm
        have z := ih hm2
        by_cases h2 : p.1 = x
        · have h3 : ¬ x = y := fun w => h1 (h2.trans w)
          rw [if_neg h3]
          have h1' : ¬ x = y := h3
          simp [getQ, h1, h2, h1']
        · simp [getQ, h1, h2] at z ⊢
          exact z
  · unfold putQ
    rw [if_neg hm]
    have no : ∀ q ∈ kvs, ¬ q.1 = y := fun q hq z => hm (List.any_eq_true.mpr ⟨q, hq, by simpa using z⟩)
    by_cases h2 : x = y
    · rw [if_pos h2]
      have : kvs.find? (fun kv => decide (kv.1 = x)) = none := List.find?_eq_none.mpr fun q hq => by simpa [h2] using no q hq
      simp [getQ, List.find?_append, this, h2]
      rw [h2] at this
      simp [this]
    · rw [if_neg h2]
      have h3 : ¬ y = x := fun z => h2 z.symm
      simp [getQ, List.find?_append, h3]
def cnt (x : Str) (ps : List Pt) : Nat := (ps.map (·.1)).count x
theorem sum_sz : ∀ (ps kvs : List Pt) (x : Str) {n k : Nat}, (∀ p ∈ ps, Sz n p.2) → Sz (k + 1) (getQ kvs x) → Sz (k + (n + 1) * cnt x ps + 1) (getQ (sumQ ps kvs) x)
  | [], kvs, x, n, k, _, h => by simpa [cnt, sumQ] using h
  | p :: ps, kvs, x, n, k, hp, h => by
    have hp' := fun q hq => hp q (List.mem_cons_of_mem p hq)
    show Sz _ (getQ (sumQ ps (addQ kvs p)) x)
    by_cases e : p.1 = x
    · have c : cnt x (p :: ps) = cnt x ps + 1 := by simp [cnt, e]
      have z := sum_sz ps (addQ kvs p) x (n := n) (k := k + (n + 1)) hp' (by
        unfold addQ
        rw [getQ_put, if_pos e.symm, e]
        exact (h.add (hp p List.mem_cons_self)).mono (by omega))
      rw [c, Nat.mul_succ]
      exact z.mono (by omega)
    · have c : cnt x (p :: ps) = cnt x ps := by simp [cnt, e]
      have z := sum_sz ps (addQ kvs p) x (n := n) (k := k) hp' (by
        unfold addQ
        rw [getQ_put, if_neg fun z => e z.symm]
        exact h)
      rw [c]
      exact z
theorem parts_sz2 {ps : List Pt} {n c : Nat} (h : ∀ p ∈ ps, Sz n p.2) (hc : ∀ x, cnt x ps ≤ c) : ∀ q ∈ partsM ps, Sz ((n + 1) * c + 1) q.2 := by
  intro q hq
  obtain ⟨q1, _⟩ := List.mem_filter.mp hq
  obtain ⟨x, hx, rfl⟩ := List.mem_map.mp q1
  have z := sum_sz ps [] x (n := n) (k := 0) h (sz01.mono (by omega))
  refine z.mono ?_
  have : (n + 1) * cnt x ps ≤ (n + 1) * c := Nat.mul_le_mul_left _ (hc x)
  omega
/-! no name twice -/
def ND (ps : List Pt) : Prop := (ps.map (·.1)).Nodup
theorem nd_put {kvs : List Pt} {x : Str} {v : Qn} (h : ND kvs) : ND (putQ kvs x v) := by
  unfold putQ
  split
  · unfold ND
    rw [List.map_map]
    have : ((fun p : Pt => p.1) ∘ fun kv : Pt => if kv.1 = x then (kv.1, v) else kv) = fun p => p.1 := by
      funext p
      simp only [Function.comp_apply]
      split <;> rfl
    rw [this]
    exact h
  · rename_i hm
    unfold ND
    rw [List.map_append, List.nodup_append]
    refine ⟨h, by simp, fun a ha b hb e => ?_⟩
    obtain ⟨q, hq, rfl⟩ := List.mem_map.mp ha
    simp at hb
    exact hm (List.any_eq_true.mpr ⟨q, hq, by simpa using e.trans hb⟩)
theorem nd_sum : ∀ (ps kvs : List Pt), ND kvs → ND (sumQ ps kvs)
  | [], _, h => h
  | p :: ps, kvs, h => nd_sum ps (addQ kvs p) (nd_put h)
theorem nd_parts (ps : List Pt) : ND (partsM ps) := by
  have h1 : ND (sumQ ps []) := nd_sum ps [] (by simp [ND])
  have h2 : (sortS ((sumQ ps []).map (·.1))).Nodup := (sortS_perm _).nodup_iff.mpr h1
  unfold ND partsM
  have h3 : (((sortS ((sumQ ps []).map (·.1))).map fun x => (x, getQ (sumQ ps []) x)).map (·.1)) = sortS ((sumQ ps []).map (·.1)) := by
    rw [List.map_map]
    conv => rhs; rw [← List.map_id (sortS _)]
    rfl
  have h4 : (((sortS ((sumQ ps []).map (·.1))).map fun x => (x, getQ (sumQ ps []) x)).filter fun p => decide (p.2.1 ≠ 0)).map (·.1) |>.Sublist (((sortS ((sumQ ps []).map (·.1))).map fun x => (x, getQ (sumQ ps []) x)).map (·.1)) := List.Sublist.map _ List.filter_sublist
  rw [h3] at h4
  exact h4.nodup h2
theorem len_of_nd : ∀ (L xs : List Str), xs.Nodup → (∀ x ∈ xs, x ∈ L) → xs.length ≤ L.length
  | [], xs, _, h => by
    cases xs with
    | nil => simp
    | cons x xs => exact absurd (h x List.mem_cons_self) (by simp)
  | a :: L, xs, hn, h => by
    by_cases ha : a ∈ xs
    · have z := len_of_nd L (xs.erase a) (hn.erase a) (fun x hx => by
        have h1 := (hn.mem_erase_iff).mp hx
        rcases List.mem_cons.mp (h x h1.2) with e | e
        · exact absurd e h1.1
        · exact e)
      rw [List.length_erase_of_mem ha] at z
      simp only [List.length_cons]
      omega
    · have z := len_of_nd L xs hn (fun x hx => by
        rcases List.mem_cons.mp (h x hx) with e | e
        · exact absurd (e ▸ hx) ha
        · exact e)
      simp only [List.length_cons]
      omega
theorem parts_len3 {ps : List Pt} (h : ∀ p ∈ ps, Nam p.1) : (partsM ps).length ≤ 3 := by
  have z := len_of_nd ["x", "b1", "total"] ((partsM ps).map fun p : Pt => p.1) (nd_parts ps) (fun x hx => by
    obtain ⟨q, hq, rfl⟩ := List.mem_map.mp hx
    have := partsM_names (P := Nam) h q hq
    simpa [Nam] using this)
  simpa using z
/-! the value of a sum -/
theorem sumR_app (f : Str → Qn) : ∀ ps qs : List Pt, sumR f (ps ++ qs) = sumR f ps + sumR f qs
  | [], qs => by simp only [List.nil_append, sumR]; grind
  | p :: ps, qs => by simp only [List.cons_append, sumR, sumR_app f ps qs]; grind
theorem sumR_put (f : Str → Qn) {x : Str} {v : Qn} : ∀ kvs : List Pt, ND kvs → sumR f (putQ kvs x v) = sumR f kvs + (rv v - rv (getQ kvs x)) * rv (f x)
  | [], _ => by
    have : getQ [] x = (0, 1) := rfl
    rw [this, rv01]
    simp only [putQ, List.any_nil, Bool.false_eq_true, if_false, List.nil_append, sumR]
    grind
  | p :: kvs, h => by
    have h' : ND kvs := by unfold ND at h ⊢; exact (List.nodup_cons.mp h).2
    have hnot : p.1 ∉ kvs.map (·.1) := by unfold ND at h; exact (List.nodup_cons.mp h).1
    have z := sumR_put f (x := x) (v := v) kvs h'
    by_cases e : p.1 = x
    · have g : getQ (p :: kvs) x = p.2 := by simp [getQ, e]
      have hk : kvs.map (fun kv => if kv.1 = x then (kv.1, v) else kv) = kvs := by
        conv => rhs; rw [← List.map_id kvs]
        apply List.map_congr_left
        intro q hq
        have : ¬ q.1 = x := fun z => hnot (by rw [e, ← z]; exact List.mem_map.mpr ⟨q, hq, rfl⟩)
        simp [this]
      have pq : putQ (p :: kvs) x v = (p.1, v) :: kvs := by
        unfold putQ
        rw [if_pos (by simp [e]), List.map_cons, if_pos e, hk]
      rw [pq, g]
      simp only [sumR, e]
      grind
    · have g : getQ (p :: kvs) x = getQ kvs x := by simp [getQ, e]
      have pq : putQ (p :: kvs) x v = p :: putQ kvs x v := by
        unfold putQ
        have ea : ((p :: kvs).any fun kv => decide (kv.1 = x)) = (kvs.any fun kv => decide (kv.1 = x)) := by simp [e]
        rw [ea]
        split
        · rw [List.map_cons, if_neg e]
        · rfl
      rw [pq, g]
      simp only [sumR, z]
      grind
theorem sumR_sumQ (f : Str → Qn) : ∀ (ps kvs : List Pt), ND kvs → (∀ p ∈ kvs, Low p.2) → (∀ p ∈ ps, 0 < p.2.2) → sumR f (sumQ ps kvs) = sumR f kvs + sumR f ps
  | [], kvs, _, _, _ => by show sumR f kvs = _; simp only [sumR]; grind
  | p :: ps, kvs, h, hl, hp => by
    have p0 := hp p List.mem_cons_self
    have g := low_get hl p.1
    have gp := g.pos
    have z := sumR_sumQ f ps (addQ kvs p) (nd_put h) (low_put hl (low_nrm (Int.mul_ne_zero (by omega) (by omega)))) fun q hq => hp q (List.mem_cons_of_mem _ hq)
    show sumR f (sumQ ps (addQ kvs p)) = _
    rw [z]
    unfold addQ
    rw [sumR_put f kvs h, rv_add (by omega) (by omega)]
    simp only [sumR]
    grind
theorem sumR_perm (f : Str → Qn) {ps qs : List Pt} (h : ps.Perm qs) : sumR f ps = sumR f qs := by
  induction h with
  | nil => rfl
  | cons p _ ih => simp only [sumR, ih]
  | swap p q l => simp only [sumR]; grind
  | trans _ _ i1 i2 => exact i1.trans i2
theorem keys_get : ∀ (kvs : List Pt), ND kvs → (kvs.map (·.1)).map (fun x => (x, getQ kvs x)) = kvs := by
  intro kvs h
  have main : ∀ (sub : List Pt), (∀ p ∈ sub, p ∈ kvs) → (sub.map (·.1)).map (fun x => (x, getQ kvs x)) = sub := by
    intro sub hs
    rw [List.map_map]
    conv => rhs; rw [← List.map_id sub]
    apply List.map_congr_left
    intro p hp
    have : getQ kvs p.1 = p.2 := by
      have : ∀ (l : List Pt), ND l → p ∈ l → getQ l p.1 = p.2 := by
        intro l
        induction l with
        | nil => intro _ h; cases h
        | cons q l ih =>
          intro hn hm
          rcases List.mem_cons.mp hm with rfl | hm
          · simp [getQ]
          · have hne : ¬ q.1 = p.1 := fun z => by
              unfold ND at hn
              exact (List.nodup_cons.mp hn).1 (by show q.1 ∈ _; rw [z]; exact List.mem_map.mpr ⟨p, hm, rfl⟩)
            have := ih (by unfold ND at hn ⊢; exact (List.nodup_cons.mp hn).2) hm
            simp [getQ, hne] at this ⊢
            exact this
      exact this kvs h (hs p hp)
    simp [this]
  exact main kvs fun p hp => hp
theorem sumR_filter (f : Str → Qn) : ∀ ps : List Pt, sumR f (ps.filter fun p => decide (p.2.1 ≠ 0)) = sumR f ps
  | [] => rfl
  | p :: ps => by
    have z := sumR_filter f ps
    rw [List.filter_cons]
    by_cases h : p.2.1 = 0
    · rw [if_neg (by simp [h]), z]
      have : rv p.2 = 0 := rv_zero.mpr (.inl h)
      simp only [sumR, this]
      grind
    · rw [if_pos (by simp [h])]
      simp only [sumR, z]
theorem sumR_parts (f : Str → Qn) {ps : List Pt} (hp : ∀ p ∈ ps, 0 < p.2.2) : sumR f (partsM ps) = sumR f ps := by
  have h1 : ND (sumQ ps []) := nd_sum ps [] (by simp [ND])
  unfold partsM
  rw [sumR_filter]
  have e : ((sortS ((sumQ ps []).map (·.1))).map fun x => (x, getQ (sumQ ps []) x)).Perm (sumQ ps []) := by
    have := (sortS_perm ((sumQ ps []).map (·.1))).map (fun x => (x, getQ (sumQ ps []) x))
    rw [keys_get _ h1] at this
    exact this
  rw [sumR_perm f e, sumR_sumQ f ps [] (by simp [ND]) (fun _ h => by cases h) hp]
  simp only [sumR]
  grind
end DL

/-! Sums of papers. -/
namespace DL
open PySem PySem.Spec PyProof.Rows L2 RT
def rwAt (rows : List Rw) (i : Int) : Rw := (rows[i.toNat]?).getD ([], "=", (0, 1))
theorem rw_get {rows : List Rw} {i : Int} (h0 : 0 ≤ i) (h1 : i < rows.length) : dIx (.list (rows.map rD)) (.int i) = some (rD (rwAt rows i)) ∧ rwAt rows i ∈ rows := by
  have hi : i.toNat < rows.length := by omega
  have e2 : rwAt rows i = rows[i.toNat] := by simp [rwAt, hi]
  rw [e2]
  refine ⟨?_, List.getElem_mem hi⟩
  have e : i = ((i.toNat : Nat) : Int) := by omega
  have := dIx_l (i := i.toNat) (xs := rows.map rD) (x := rD rows[i.toNat]) (by simp [hi])
  rw [← e] at this
  exact this
def accP (rows : List Rw) (pa : List Pa) : List Pt := pa.flatMap fun p => (scaleM (rwAt rows p.1) p.2).1
def accT (rows : List Rw) (pa : List Pa) (t : Qn) : Qn := pa.foldl (fun t p => qadd t (qmul (rwAt rows p.1).2.2 p.2)) t
def sigs (rows : List Rw) (pa : List Pa) : List Str := pa.map fun p => (rwAt rows p.1).2.1
def sgnOf (ss : List Str) : Str := if ("<" : Str) ∈ ss then "<" else if ("<=" : Str) ∈ ss then "<=" else "="
structure RowsOk (rows : List Rw) : Prop where
  good : ∀ r ∈ rows, Good r
  len : rows.length ≤ 8
structure PaIn (rows : List Rw) (pa : List Pa) : Prop where
  each : ∀ p ∈ pa, (0 ≤ p.1 ∧ p.1 < rows.length) ∧ Sz 5 p.2
theorem PaIn.tail {rows : List Rw} {p : Pa} {pa : List Pa} (h : PaIn rows (p :: pa)) : PaIn rows pa := ⟨fun q hq => h.each q (List.mem_cons_of_mem _ hq)⟩
section
variable {rows : List Rw} (R : RowsOk rows) {e1 : Ent}
include R
theorem prog_sum : ∀ (pa : List Pa) (acc : List Pt) (ss : List Str) (t : Qn) {k : Nat} (e5 e6 e7 e8 e9 : Ent), PaIn rows pa → Sz k t → k + 156 * pa.length ≤ 3900 → acc.length + 3 * pa.length ≤ 1000 → ss.length + pa.length ≤ 1000 →
    ∃ e5' e6' e7' e8' e9', loopS (tupT 2 (consTs (nameT 5) (consTs (nameT 6) nilTs))) PG.L_sum_of_1 (pa.map aD) [.d (.list (rows.map rD)), e1, .own (acc.map pD), .own (ss.map PyData.str), .d (N t), e5, e6, e7, e8, e9] =
      .nx [.d (.list (rows.map rD)), e1, .own ((acc ++ accP rows pa).map pD), .own ((ss ++ sigs rows pa).map PyData.str), .d (N (accT rows pa t)), e5', e6', e7', e8', e9']
  | [], acc, ss, t, k, e5, e6, e7, e8, e9, _, _, _, _, _ => ⟨e5, e6, e7, e8, e9, by simp [accP, sigs, accT]⟩
  | p :: pa, acc, ss, t, k, e5, e6, e7, e8, e9, hP, ht, hk, ha, hss => by
    obtain ⟨⟨h0, h1⟩, zp⟩ := hP.each p List.mem_cons_self
    obtain ⟨er, mr⟩ := rw_get h0 h1
    have G := (R.good _ mr).good
    have l3 := G.len
    have ec : PG.m_multiplied [psD (rwAt rows p.1).1, .tuple [.int p.2.1, .int p.2.2]] = .ok (psD (scaleM (rwAt rows p.1) p.2).1) := pg_multiplied (fun q hq => (G.sz.ps q hq).mono (by decide)) (zp.mono (by decide)) (by omega)
    have zm := G.sz.bd.mul zp
    have e2 : PG.m_times [.tuple [.int (rwAt rows p.1).2.2.1, .int (rwAt rows p.1).2.2.2], .tuple [.int p.2.1, .int p.2.2]] = .ok (N (qmul (rwAt rows p.1).2.2 p.2)) := pg_times (G.sz.bd.mono (by decide)) (zp.mono (by decide))
    have hk' : k + 156 * (pa.length + 1) ≤ 3900 := hk
    have ha' : acc.length + 3 * (pa.length + 1) ≤ 1000 := ha
    have hss' : ss.length + (pa.length + 1) ≤ 1000 := hss
    have e3 : PG.m_plus [.tuple [.int t.1, .int t.2], N (qmul (rwAt rows p.1).2.2 p.2)] = .ok (N (qadd t (qmul (rwAt rows p.1).2.2 p.2))) := pg_plus (ht.mono (by omega)) (zm.mono (by decide))
    have sl : (scaleM (rwAt rows p.1) p.2).1.length = (rwAt rows p.1).1.length := by simp [scaleM]
    obtain ⟨e5', e6', e7', e8', e9', z⟩ := prog_sum pa (acc ++ (scaleM (rwAt rows p.1) p.2).1) (ss ++ [(rwAt rows p.1).2.1]) (qadd t (qmul (rwAt rows p.1).2.2 p.2)) (k := k + 155 + 1) (.d (.int p.1)) (.d (N p.2)) (.d (psD (rwAt rows p.1).1)) (.d (.str (rwAt rows p.1).2.1)) (.d (N (rwAt rows p.1).2.2)) hP.tail ((ht.add zm).mono (by omega)) (by omega) (by rw [List.length_append, sl]; omega) (by simp; omega)
    refine ⟨e5', e6', e7', e8', e9', ?_⟩
    have hl1 : acc.length + (scaleM (rwAt rows p.1) p.2).1.length ≤ 16777216 := by rw [sl]; omega
    have hl2 : ss.length < 16777216 := by omega
    have f1 : accP rows (p :: pa) = (scaleM (rwAt rows p.1) p.2).1 ++ accP rows pa := by simp [accP]
    have f2 : sigs rows (p :: pa) = (rwAt rows p.1).2.1 :: sigs rows pa := rfl
    have f3 : accT rows (p :: pa) t = accT rows pa (qadd t (qmul (rwAt rows p.1).2.2 p.2)) := rfl
    rw [List.map_cons, loopS_cons (ρ1 := [.d (.list (rows.map rD)), e1, .own (acc.map pD), .own (ss.map PyData.str), .d (N t), .d (.int p.1), .d (.tuple [.int p.2.1, .int p.2.2]), e7, e8, e9]) (by simp), f1, f2, f3]
    generalize scaleM (rwAt rows p.1) p.2 = sc at *
    generalize rwAt rows p.1 = r at *
    simp only [N] at e2 e3 z ⊢
    have e3' : PG.m_plus [.tuple [.int t.1, .int t.2], .tuple [.int (qmul r.2.2 p.2).1, .int (qmul r.2.2 p.2).2]] = _ := e3
    simp at z
    simp [PG.L_sum_of_1, er, ec, e2, e3', hl1, hl2]
    exact z
omit R in
theorem le_lt : (("<=" : Str) == "<") = false := by decide
def Rd (e : Ent) (xs : List PyData) : Prop := e = .own xs ∨ e = .d (.list xs)
def sgStep (s r : Str) : Str := if r = "<" ∨ s = "<" then "<" else if r = "<=" then "<=" else s
theorem law_sum : ∀ (pa : List Pa) (acc : List Pt) (s : Str) (t : Qn) {k : Nat} (e2 e5 e6 e7 : Ent), Rd e2 (acc.map pD) → PySem.PyData.strOk s = true → PaIn rows pa → Sz k t → k + 156 * pa.length ≤ 3900 → acc.length + 3 * pa.length ≤ 1000 →
    ∃ e2' e5' e6' e7', loopS (tupT 2 (consTs (nameT 5) (consTs (nameT 6) nilTs))) LH.L_total_1 (pa.map aD) [.d (.list (rows.map rD)), e1, e2, .d (N t), .d (.str s), e5, e6, e7] =
      .nx [.d (.list (rows.map rD)), e1, e2', .d (N (accT rows pa t)), .d (.str ((sigs rows pa).foldl sgStep s)), e5', e6', e7'] ∧ Rd e2' ((acc ++ accP rows pa).map pD)
  | [], acc, s, t, k, e2, e5, e6, e7, h2, _, _, _, _, _ => ⟨e2, e5, e6, e7, rfl, by simpa [accP] using h2⟩
  | p :: pa, acc, s, t, k, e2, e5, e6, e7, h2, hs, hP, ht, hk, ha => by
    obtain ⟨⟨h0, h1⟩, zp⟩ := hP.each p List.mem_cons_self
    obtain ⟨er, mr⟩ := rw_get h0 h1
    have G := (R.good _ mr).good
    have l3 := G.len
    have ec : LH.m_scaled [rD (rwAt rows p.1), .tuple [.int p.2.1, .int p.2.2]] = .ok (rD (scaleM (rwAt rows p.1) p.2)) := lh_scaled (G.sz.mono (by decide)) (zp.mono (by decide)) (by omega)
    have zm := G.sz.bd.mul zp
    have hk' : k + 156 * (pa.length + 1) ≤ 3900 := hk
    have ha' : acc.length + 3 * (pa.length + 1) ≤ 1000 := ha
    have e3 : LH.m_add [.tuple [.int t.1, .int t.2], .tuple [.int (scaleM (rwAt rows p.1) p.2).2.2.1, .int (scaleM (rwAt rows p.1) p.2).2.2.2]] = .ok (N (qadd t (qmul (rwAt rows p.1).2.2 p.2))) := lh_add (ht.mono (by omega)) (zm.mono (by decide))
    have sl : (scaleM (rwAt rows p.1) p.2).1.length = (rwAt rows p.1).1.length := by simp [scaleM]
    have ss : (scaleM (rwAt rows p.1) p.2).2.1 = (rwAt rows p.1).2.1 := rfl
    have ok := G.sg.ok
    rw [← ss] at ok
    have sok : PySem.PyData.strOk (sgStep s (scaleM (rwAt rows p.1) p.2).2.1) = true := by
      unfold sgStep
      split
      · exact ok_lt
      · split
        · exact ok_le
        · exact hs
    have hl1 : acc.length + (scaleM (rwAt rows p.1) p.2).1.length ≤ 16777216 := by rw [sl]; omega
    have f1 : accP rows (p :: pa) = (scaleM (rwAt rows p.1) p.2).1 ++ accP rows pa := by simp [accP]
    have f2 : (sigs rows (p :: pa)).foldl sgStep s = (sigs rows pa).foldl sgStep (sgStep s (scaleM (rwAt rows p.1) p.2).2.1) := rfl
    have f3 : accT rows (p :: pa) t = accT rows pa (qadd t (qmul (rwAt rows p.1).2.2 p.2)) := rfl
    obtain ⟨e2', e5', e6', e7', z, zr⟩ := law_sum pa (acc ++ (scaleM (rwAt rows p.1) p.2).1) (sgStep s (scaleM (rwAt rows p.1) p.2).2.1) (qadd t (qmul (rwAt rows p.1).2.2 p.2)) (k := k + 155 + 1) (.d (.list ((acc ++ (scaleM (rwAt rows p.1) p.2).1).map pD))) (.d (.int p.1)) (.d (N p.2)) (.d (rD (scaleM (rwAt rows p.1) p.2))) (.inr rfl) sok hP.tail ((ht.add zm).mono (by omega)) (by omega) (by rw [List.length_append, sl]; omega)
    refine ⟨e2', e5', e6', e7', ?_, by rw [f1, ← List.append_assoc]; exact zr⟩
    rw [List.map_cons, loopS_cons (ρ1 := [.d (.list (rows.map rD)), e1, e2, .d (N t), .d (.str s), .d (.int p.1), .d (.tuple [.int p.2.1, .int p.2.2]), e7]) (by simp), f2, f3]
    generalize scaleM (rwAt rows p.1) p.2 = sc at *
    have dA : dAdd (.list (acc.map pD)) (.list (sc.1.map pD)) = some (.list (acc.map pD ++ sc.1.map pD)) := dAdd_ll (by simpa using hl1)
    have i0 : dIx (rD sc) (.int 0) = some (psD sc.1) := dIx_t0
    have i1 : dIx (rD sc) (.int 1) = some (.str sc.2.1) := dIx_t1
    have i2 : dIx (rD sc) (.int 2) = some (.tuple [.int sc.2.2.1, .int sc.2.2.2]) := dIx_t2
    have q1 : (sc.2.1 == "<") = decide (sc.2.1 = "<") := by by_cases h : sc.2.1 = "<" <;> simp [h]
    have step : LH.L_total_1 [.d (.list (rows.map rD)), e1, e2, .d (N t), .d (.str s), .d (.int p.1), .d (.tuple [.int p.2.1, .int p.2.2]), e7] = .nx [.d (.list (rows.map rD)), e1, .d (.list ((acc ++ sc.1).map pD)), .d (N (qadd t (qmul (rwAt rows p.1).2.2 p.2))), .d (.str (sgStep s sc.2.1)), .d (.int p.1), .d (N p.2), .d (rD sc)] := by
      generalize qadd t (qmul (rwAt rows p.1).2.2 p.2) = t' at *
      unfold sgStep
      rcases h2 with rfl | rfl
      · by_cases c1 : sc.2.1 = "<"
        · simp [LH.L_total_1, er, ec, i0, i1, i2, dA, e3, dEq_s ok ok_lt, dEq_s ok_lt ok_lt, c1]
        · by_cases c2 : s = "<"
          · simp [LH.L_total_1, er, ec, i0, i1, i2, dA, e3, dEq_s ok ok_lt, dEq_s hs ok_lt, dEq_s ok_lt ok_lt, c1, c2]
          · by_cases c3 : sc.2.1 = "<="
            · simp [LH.L_total_1, er, ec, i0, i1, i2, dA, e3, dEq_s ok ok_lt, dEq_s hs ok_lt, dEq_s ok ok_le, dEq_s ok_le ok_lt, dEq_s ok_le ok_le, le_lt, c1, c2, c3]
            · simp [LH.L_total_1, er, ec, i0, i1, i2, dA, e3, dEq_s ok ok_lt, dEq_s hs ok_lt, dEq_s ok ok_le, dEq_s ok_le ok_lt, dEq_s ok_le ok_le, le_lt, c1, c2, c3]
      · by_cases c1 : sc.2.1 = "<"
        · simp [LH.L_total_1, er, ec, i0, i1, i2, dA, e3, dEq_s ok ok_lt, dEq_s ok_lt ok_lt, c1]
        · by_cases c2 : s = "<"
          · simp [LH.L_total_1, er, ec, i0, i1, i2, dA, e3, dEq_s ok ok_lt, dEq_s hs ok_lt, dEq_s ok_lt ok_lt, c1, c2]
          · by_cases c3 : sc.2.1 = "<="
            · simp [LH.L_total_1, er, ec, i0, i1, i2, dA, e3, dEq_s ok ok_lt, dEq_s hs ok_lt, dEq_s ok ok_le, dEq_s ok_le ok_lt, dEq_s ok_le ok_le, le_lt, c1, c2, c3]
            · simp [LH.L_total_1, er, ec, i0, i1, i2, dA, e3, dEq_s ok ok_lt, dEq_s hs ok_lt, dEq_s ok ok_le, dEq_s ok_le ok_lt, dEq_s ok_le ok_le, le_lt, c1, c2, c3]
    rw [step]
    exact z
end
end DL

namespace DL
open PySem PySem.Spec PyProof.Rows L2 RT
theorem sg_fold : ∀ (ss : List Str) (s : Str), Sgn s → (∀ x ∈ ss, Sgn x) → ss.foldl sgStep s = (if s = "<" ∨ ("<" : Str) ∈ ss then ("<" : Str) else if s = "<=" ∨ ("<=" : Str) ∈ ss then ("<=" : Str) else ("=" : Str))
  | [], s, hs, _ => by
    have b1 : ("=" : Str) ≠ "<" := by decide
    have b2 : ("=" : Str) ≠ "<=" := by decide
    have b3 : ("<=" : Str) ≠ "<" := by decide
    rcases hs with rfl | rfl | rfl <;> simp [b1, b2, b3]
  | x :: ss, s, hs, h => by
    have hx := h x List.mem_cons_self
    have a1 : ("<=" : Str) ≠ "<" := by decide
    have a2 : ("=" : Str) ≠ "<" := by decide
    have a3 : ("<" : Str) ≠ "<=" := by decide
    have a4 : ("=" : Str) ≠ "<=" := by decide
    have a5 : ("<" : Str) ≠ "=" := by decide
    have a6 : ("<=" : Str) ≠ "=" := by decide
    have st : Sgn (sgStep s x) := by
      unfold sgStep Sgn
      rcases hs with rfl | rfl | rfl <;> rcases hx with rfl | rfl | rfl <;> simp [a1, a2, a3, a4, a5, a6]
    have z := sg_fold ss (sgStep s x) st fun y hy => h y (List.mem_cons_of_mem _ hy)
    rw [List.foldl_cons, z]
    unfold sgStep
    rcases hs with rfl | rfl | rfl <;> rcases hx with rfl | rfl | rfl <;> simp [a1, a2, a3, a4, a5, a6]
theorem strs_shaped {ss : List Str} (h : ∀ x ∈ ss, PySem.PyData.strOk x = true) : SeqAt.shaped (.list (ss.map PyData.str)) = true := by
  have h1 : PyData.canLayAll0 (ss.map PyData.str) = true := canAll fun x hx => h x hx
  have h2 : PyData.depthAll (ss.map PyData.str) ≤ 0 := depAll fun x _ => Nat.le_refl _
  simp only [SeqAt.shaped, PyData.canLay0, PyData.depth, h1, Bool.true_and]
  exact decide_eq_true (by omega)
theorem in_strs {ss : List Str} {a : Str} (ha : PySem.PyData.strOk a = true) (h : ∀ x ∈ ss, PySem.PyData.strOk x = true) : dIn3 (.str a) (.list (ss.map PyData.str)) = some (.bool (decide (a ∈ ss))) := by
  have e : ((ss.map PyData.str).any fun z => PyData.eqv z (.str a)) = decide (a ∈ ss) := by
    rw [Bool.eq_iff_iff]
    simp only [List.any_eq_true, List.mem_map, decide_eq_true_eq]
    constructor
    · rintro ⟨_, ⟨x, hx, rfl⟩, e⟩
      have : x = a := by simpa [PyData.eqv] using e
      rw [← this]; exact hx
    · intro hx
      exact ⟨_, ⟨a, hx, rfl⟩, by simp [PyData.eqv]⟩
  show (if SeqAt.shaped (.str a) = true ∧ SeqAt.shaped (.list (ss.map PyData.str)) = true then some (PyData.bool ((ss.map PyData.str).any fun z => PyData.eqv z (.str a))) else none) = _
  rw [if_pos ⟨str_shaped ha, strs_shaped h⟩, e]
theorem pg_sign {ss : List Str} (h : ∀ x ∈ ss, Sgn x) : PG.B__sign_of_sum (.list (ss.map PyData.str)) = .ok (.str (sgnOf ss)) := by
  have h' : ∀ x ∈ ss, PySem.PyData.strOk x = true := fun x hx => (h x hx).ok
  have e1 := in_strs ok_lt h'
  have e2 := in_strs ok_le h'
  unfold sgnOf
  by_cases c1 : ("<" : Str) ∈ ss
  · simp [PG.B__sign_of_sum, PG.S__sign_of_sum, e1, c1]
  · by_cases c2 : ("<=" : Str) ∈ ss
    · simp [PG.B__sign_of_sum, PG.S__sign_of_sum, e1, e2, c1, c2]
    · simp [PG.B__sign_of_sum, PG.S__sign_of_sum, e1, e2, c1, c2]
def totM (rows : List Rw) (pa : List Pa) : Rw := (partsM (accP rows pa), sgnOf (sigs rows pa), accT rows pa (0, 1))
theorem sgnOf_sgn (ss : List Str) : Sgn (sgnOf ss) := by
  unfold sgnOf Sgn
  split
  · simp
  · split <;> simp
section
variable {rows : List Rw} (R : RowsOk rows)
include R
theorem sigs_sgn : ∀ {pa : List Pa}, PaIn rows pa → ∀ x ∈ sigs rows pa, Sgn x := by
  intro pa h x hx
  obtain ⟨p, hp, rfl⟩ := List.mem_map.mp hx
  obtain ⟨⟨h0, h1⟩, _⟩ := h.each p hp
  exact (R.good _ (rw_get h0 h1).2).good.sg
theorem accP_facts : ∀ {pa : List Pa}, PaIn rows pa → (∀ q ∈ accP rows pa, Sz 155 q.2 ∧ Nam q.1) ∧ (accP rows pa).length ≤ 3 * pa.length ∧ ∀ x, cnt x (accP rows pa) ≤ pa.length
  | [], _ => ⟨fun q h => by simp [accP] at h, by simp [accP], fun x => by simp [accP, cnt]⟩
  | p :: pa, h => by
    obtain ⟨i1, i2, i3⟩ := accP_facts h.tail
    obtain ⟨⟨h0, h1⟩, zp⟩ := h.each p List.mem_cons_self
    obtain ⟨_, mr⟩ := rw_get h0 h1
    have Go := R.good _ mr
    have G := Go.good
    have f1 : accP rows (p :: pa) = (scaleM (rwAt rows p.1) p.2).1 ++ accP rows pa := by simp [accP]
    have sl : (scaleM (rwAt rows p.1) p.2).1.length = (rwAt rows p.1).1.length := by simp [scaleM]
    have l3 := G.len
    rw [f1]
    refine ⟨fun q hq => ?_, by rw [List.length_append, sl, List.length_cons]; omega, fun x => ?_⟩
    · rcases List.mem_append.mp hq with hq | hq
      · obtain ⟨y, hy, rfl⟩ := List.mem_map.mp hq
        exact ⟨(G.sz.ps y hy).mul zp, Go.names y hy⟩
      · exact i1 q hq
    · have nd : ND (scaleM (rwAt rows p.1) p.2).1 := by
        have e : ((scaleM (rwAt rows p.1) p.2).1.map fun p : Pt => p.1) = (rwAt rows p.1).1.map fun p : Pt => p.1 := by simp [scaleM, Function.comp_def]
        unfold ND
        rw [e]
        obtain ⟨ps, sg, b, er, _⟩ := Go
        rw [er]
        have e2 : ((rowM ps sg b).1.map fun p : Pt => p.1) = (partsM ps).map fun p : Pt => p.1 := by simp [rowM, normM, scaleM, Function.comp_def]
        rw [e2]
        exact nd_parts ps
      have c1 : cnt x (scaleM (rwAt rows p.1) p.2).1 ≤ 1 := List.nodup_iff_count.mp nd x
      have c2 : cnt x ((scaleM (rwAt rows p.1) p.2).1 ++ accP rows pa) = cnt x (scaleM (rwAt rows p.1) p.2).1 + cnt x (accP rows pa) := by simp [cnt]
      have := i3 x
      rw [c2, List.length_cons]
      omega
theorem accT_facts : ∀ {pa : List Pa} {t : Qn} {k : Nat}, PaIn rows pa → Sz k t → Low t → Sz (k + 156 * pa.length) (accT rows pa t) ∧ Low (accT rows pa t)
  | [], t, k, _, h, l => ⟨by simpa [accT] using h, l⟩
  | p :: pa, t, k, hP, h, l => by
    obtain ⟨⟨h0, h1⟩, zp⟩ := hP.each p List.mem_cons_self
    obtain ⟨_, mr⟩ := rw_get h0 h1
    have G := (R.good _ mr).good
    have zm := G.sz.bd.mul zp
    obtain ⟨z1, z2⟩ := accT_facts (pa := pa) (t := qadd t (qmul (rwAt rows p.1).2.2 p.2)) (k := k + 155 + 1) hP.tail (h.add zm) (low_nrm (Int.mul_ne_zero (by have := l.pos; omega) zm.ne))
    have e : k + 156 * (p :: pa).length = k + 155 + 1 + 156 * pa.length := by rw [List.length_cons, Nat.mul_succ]; omega
    rw [e]
    exact ⟨z1, z2⟩
section
variable {pa : List Pa} (h : PaIn rows pa) (hl : pa.length ≤ 6)
include h hl
theorem tot_good : SzR 937 (totM rows pa) ∧ (totM rows pa).1.length ≤ 3 ∧ (∀ q ∈ (totM rows pa).1, Nam q.1) ∧ Low (totM rows pa).2.2 := by
  obtain ⟨f1, f2, f3⟩ := accP_facts R h
  obtain ⟨t1, t2⟩ := accT_facts R h sz01 low01
  refine ⟨⟨fun q hq => (parts_sz2 (c := 6) (fun p hp => (f1 p hp).1) (fun x => Nat.le_trans (f3 x) hl) q hq), t1.mono (by omega)⟩, parts_len3 fun p hp => (f1 p hp).2, partsM_names (P := Nam) fun p hp => (f1 p hp).2, t2⟩
theorem pg_sum_of : PG.B_sum_of (.list (rows.map rD)) (.tuple (pa.map aD)) = .ok (rD (totM rows pa)) := by
  obtain ⟨f1, f2, f3⟩ := accP_facts R h
  obtain ⟨e5, e6, e7, e8, e9, L⟩ := prog_sum R (e1 := .d (.tuple (pa.map aD))) pa [] [] (0, 1) .un .un .un .un .un h sz01 (by omega) (by simp; omega) (by simp; omega)
  have a1 : PG.m_added_up [.list ((accP rows pa).map pD)] = .ok (psD (partsM (accP rows pa))) := pg_added_up PyData.list (.inl rfl) (fun p hp => (f1 p hp).1) (by omega) (by decide) (by omega)
  have a2 : PG.m__sign_of_sum [.list ((sigs rows pa).map PyData.str)] = .ok (.str (sgnOf (sigs rows pa))) := pg_sign (sigs_sgn R h)
  simp only [List.nil_append, List.map_nil, N] at L
  simp [PG.B_sum_of, PG.S_sum_of, L, a1, a2, totM]
theorem lh_total : LH.B_total (.list (rows.map rD)) (.tuple (pa.map aD)) = .ok (rD (totM rows pa)) := by
  obtain ⟨f1, f2, f3⟩ := accP_facts R h
  obtain ⟨e2, e5, e6, e7, L, zr⟩ := law_sum R (e1 := .d (.tuple (pa.map aD))) pa [] "=" (0, 1) (.own []) .un .un .un (.inl rfl) ok_eq h sz01 (by omega) (by simp; omega)
  have a1 : LH.m_parts [.list ((accP rows pa).map pD)] = .ok (psD (partsM (accP rows pa))) := lh_parts PyData.list (.inl rfl) (fun p hp => (f1 p hp).1) (by omega) (by decide) (by omega)
  have sg := sg_fold (sigs rows pa) "=" (.inr (.inr rfl)) (sigs_sgn R h)
  have e : (sigs rows pa).foldl sgStep "=" = sgnOf (sigs rows pa) := by
    rw [sg]
    have b1 : ("=" : Str) ≠ "<" := by decide
    have b2 : ("=" : Str) ≠ "<=" := by decide
    simp [sgnOf, b1, b2]
  rw [e] at L
  simp only [List.nil_append, N] at L zr
  rcases zr with rfl | rfl
  · simp [LH.B_total, LH.S_total, L, a1, totM]
  · simp [LH.B_total, LH.S_total, L, a1, totM]
end
end
/-! all rows hold -/
def holdsP (pt : List Pt) (r : Rw) : Bool := holdsR r.2.1 (rv (atM (look pt) r.1 (0, 1))) (rv r.2.2)
theorem lh_true_good {r : Rw} {pt : List Pt} (hpt : GridOk pt) (G : GoodR r) : LH.B_true (rD r) (psD pt) = .ok (.bool (holdsP pt r)) := by
  have l3 := G.len
  refine lh_true hpt.1 G.sz G.low.bd G.sg (by decide) (by decide) ?_
  have : (150 + (5 + 1) + 1) * r.1.length ≤ (150 + (5 + 1) + 1) * 3 := Nat.mul_le_mul_left _ l3
  omega
theorem lh_all {pt : List Pt} (hpt : GridOk pt) (rows : List Rw) (hg : ∀ r ∈ rows, GoodR r) : LH.B_all (.list (rows.map rD)) (psD pt) = .ok (.bool (rows.all (holdsP pt))) := by
  have main : ∀ (rs : List Rw) (e2 : Ent), (∀ r ∈ rs, GoodR r) → (rs.all (holdsP pt) = true → ∃ e2', loopS (nameT 2) LH.L_all_1 (rs.map rD) [.d (.list (rows.map rD)), .d (psD pt), e2] = .nx [.d (.list (rows.map rD)), .d (psD pt), e2']) ∧ (rs.all (holdsP pt) = false → loopS (nameT 2) LH.L_all_1 (rs.map rD) [.d (.list (rows.map rD)), .d (psD pt), e2] = .rt (.bool false)) := by
    intro rs
    induction rs with
    | nil => intro e2 _; exact ⟨fun _ => ⟨e2, rfl⟩, fun h => by cases h⟩
    | cons r rs ih =>
      intro e2 hr
      have e : LH.m_true [rD r, psD pt] = .ok (.bool (holdsP pt r)) := lh_true_good hpt (hr r List.mem_cons_self)
      rw [List.map_cons, loopS_name (by simp)]
      cases hh : holdsP pt r with
      | false =>
        rw [hh] at e
        refine ⟨fun h => by simp [hh] at h, fun _ => by simp [LH.L_all_1, e]⟩
      | true =>
        rw [hh] at e
        obtain ⟨i1, i2⟩ := ih (.d (rD r)) fun x hx => hr x (List.mem_cons_of_mem _ hx)
        have ea : (r :: rs).all (holdsP pt) = rs.all (holdsP pt) := by simp [hh]
        rw [ea]
        have st : LH.L_all_1 ([Ent.d (.list (rows.map rD)), .d (psD pt), e2].set 2 (.d (rD r))) = .nx [.d (.list (rows.map rD)), .d (psD pt), .d (rD r)] := by simp [LH.L_all_1, e]
        rw [st]
        exact ⟨i1, i2⟩
  obtain ⟨h1, h2⟩ := main rows .un hg
  cases hh : rows.all (holdsP pt) with
  | true =>
    obtain ⟨e2', z⟩ := h1 hh
    simp [LH.B_all, LH.S_all, z]
  | false =>
    simp [LH.B_all, LH.S_all, h2 hh]
/-! where all rows hold, the sum does -/
theorem tot_holds {rows : List Rw} (R : RowsOk rows) {pt : List Pt} (hpt : GridOk pt) (hall : ∀ r ∈ rows, holdsP pt r = true) : ∀ {pa : List Pa}, PaOk rows pa → PaIn rows pa →
    (("<" : Str) ∈ sigs rows pa → sumR (look pt) (accP rows pa) < rv (accT rows pa (0, 1))) ∧ (("<=" : Str) ∈ sigs rows pa → sumR (look pt) (accP rows pa) ≤ rv (accT rows pa (0, 1))) ∧ (("<" : Str) ∉ sigs rows pa → ("<=" : Str) ∉ sigs rows pa → sumR (look pt) (accP rows pa) = rv (accT rows pa (0, 1))) := by
  have fpos : ∀ x, 0 < (look pt x).2 := fun x => (look_sz hpt.1 x).pos
  have accRv : ∀ (pa : List Pa) (t : Qn), PaIn rows pa → 0 < t.2 → rv (accT rows pa t) = rv t + rv (accT rows pa (0, 1)) := by
    intro pa
    induction pa with
    | nil => intro t _ _; show rv t = rv t + rv (0, 1); rw [rv01]; grind
    | cons p pa ih =>
      intro t hP ht
      obtain ⟨⟨h0, h1⟩, zp⟩ := hP.each p List.mem_cons_self
      have G := (R.good _ (rw_get h0 h1).2).good
      have b0 := G.pos.bd
      have m0 := zp.pos
      have q2 := qmul_pos b0 m0
      have s1 : ∀ t : Qn, 0 < t.2 → 0 < (qadd t (qmul (rwAt rows p.1).2.2 p.2)).2 := fun t ht => nrm_pos (Int.mul_ne_zero (by omega) (by omega))
      show rv (accT rows pa (qadd t _)) = rv t + rv (accT rows pa (qadd (0, 1) _))
      rw [ih _ hP.tail (s1 t ht), ih _ hP.tail (s1 (0, 1) (by decide)), rv_add (by omega) (by omega), rv_add (by omega) (by decide), rv01]
      grind
  intro pa
  induction pa with
  | nil => intro _ _; exact ⟨fun h => by simp [sigs] at h, fun h => by simp [sigs] at h, fun _ _ => by show (0 : Rat) = rv (0, 1); rw [rv01]⟩
  | cons p pa ih =>
    intro hO hP
    have hO' : PaOk rows pa := ⟨fun q hq => hO.each q (List.mem_cons_of_mem _ hq), (List.pairwise_cons.mp hO.asc).2⟩
    obtain ⟨i1, i2, i3⟩ := ih hO' hP.tail
    obtain ⟨⟨h0, h1⟩, nz, hneg, _⟩ := hO.each p List.mem_cons_self
    obtain ⟨_, zp⟩ := hP.each p List.mem_cons_self
    obtain ⟨_, mr⟩ := rw_get h0 h1
    have G := (R.good _ mr).good
    have hold := hall _ mr
    have sgE : sgAt rows p.1 = (rwAt rows p.1).2.1 := by
      have hi : p.1.toNat < rows.length := by omega
      simp [sgAt, rwAt, hi]
    rw [sgE] at hneg
    have f1 : accP rows (p :: pa) = (scaleM (rwAt rows p.1) p.2).1 ++ accP rows pa := by simp [accP]
    have f2 : sigs rows (p :: pa) = (rwAt rows p.1).2.1 :: sigs rows pa := rfl
    have f3 : accT rows (p :: pa) (0, 1) = accT rows pa (qadd (0, 1) (qmul (rwAt rows p.1).2.2 p.2)) := rfl
    have b0 := G.pos.bd
    have m0 := zp.pos
    have q2 := qmul_pos b0 m0
    have pp : ∀ q ∈ (rwAt rows p.1).1, 0 < q.2.2 := fun q hq => (G.pos.ps q hq).1
    have e3 : rv (accT rows (p :: pa) (0, 1)) = rv p.2 * rv (rwAt rows p.1).2.2 + rv (accT rows pa (0, 1)) := by
      have hq : 0 < (qadd (0, 1) (qmul (rwAt rows p.1).2.2 p.2)).2 := nrm_pos (Int.mul_ne_zero (by decide) (by omega))
      rw [f3, accRv pa _ hP.tail hq, rv_add (by omega) (by decide), rv_mul (by omega) (by omega), rv01]
      grind
    have e1 : sumR (look pt) (accP rows (p :: pa)) = rv p.2 * sumR (look pt) (rwAt rows p.1).1 + sumR (look pt) (accP rows pa) := by
      rw [f1, sumR_app]
      congr 1
      exact sumR_scale m0 _ pp
    rw [e1, e3, f2]
    unfold holdsP at hold
    rw [rv_at fpos _ _ pp (by decide), rv01, Rat.zero_add] at hold
    have mpos : ¬ p.2.1 < 0 → 0 < rv p.2 := fun h => by
      have h1 : ¬ rv p.2 < 0 := fun z => h ((rv_neg m0).mpr z)
      have h2 : rv p.2 ≠ 0 := fun z => nz ((rv_nz m0).mpr z)
      grind
    generalize sumR (look pt) (rwAt rows p.1).1 = S at *
    generalize rv (rwAt rows p.1).2.2 = b at *
    generalize hm : rv p.2 = m at *
    generalize sumR (look pt) (accP rows pa) = S2 at *
    generalize rv (accT rows pa (0, 1)) = T2 at *
    have a1 : ("<=" : Str) ≠ "<" := by decide
    have a2 : ("=" : Str) ≠ "<" := by decide
    have a3 : ("<" : Str) ≠ "<=" := by decide
    have a4 : ("=" : Str) ≠ "<=" := by decide
    have a5 : ("<" : Str) ≠ "=" := by decide
    have a6 : ("<=" : Str) ≠ "=" := by decide
    have weak : S2 ≤ T2 := by
      by_cases c1 : ("<" : Str) ∈ sigs rows pa
      · have := i1 c1; grind
      · by_cases c2 : ("<=" : Str) ∈ sigs rows pa
        · exact i2 c2
        · have := i3 c1 c2; grind
    rcases G.sg with hs | hs | hs
    · rw [hs] at hold hneg ⊢
      have mp := mpos fun z => a6 (hneg z)
      have hSb : S ≤ b := by simpa [holdsR, a6, a1] using hold
      have hmm : m * S ≤ m * b := by
        have := Rat.mul_nonneg (show 0 ≤ m by grind) (show 0 ≤ b - S by grind)
        grind
      refine ⟨fun h => ?_, fun _ => by grind, fun _ h => absurd List.mem_cons_self h⟩
      have := i1 (by rcases List.mem_cons.mp h with h | h; exact absurd h a3; exact h)
      grind
    · rw [hs] at hold hneg ⊢
      have mp := mpos fun z => a5 (hneg z)
      have hSb : S < b := by simpa [holdsR, a5] using hold
      have hmm : m * S < m * b := by
        have := Rat.mul_pos mp (show 0 < b - S by grind)
        grind
      exact ⟨fun _ => by grind, fun _ => by grind, fun h _ => absurd List.mem_cons_self h⟩
    · rw [hs] at hold ⊢
      have hSb : S = b := by simpa [holdsR] using hold
      rw [hSb]
      refine ⟨fun h => ?_, fun h => ?_, fun h1 h2 => ?_⟩
      · have := i1 (by rcases List.mem_cons.mp h with h | h; exact absurd h.symm a2; exact h)
        grind
      · have := i2 (by rcases List.mem_cons.mp h with h | h; exact absurd h.symm a4; exact h)
        grind
      · have := i3 (fun z => h1 (List.mem_cons_of_mem _ z)) (fun z => h2 (List.mem_cons_of_mem _ z))
        grind
theorem tot_holdsP {rows : List Rw} (R : RowsOk rows) {pt : List Pt} (hpt : GridOk pt) (hall : ∀ r ∈ rows, holdsP pt r = true) {pa : List Pa} (hO : PaOk rows pa) (hP : PaIn rows pa) : holdsP pt (totM rows pa) = true := by
  have fpos : ∀ x, 0 < (look pt x).2 := fun x => (look_sz hpt.1 x).pos
  obtain ⟨f1, _, _⟩ := accP_facts R hP
  have ap : ∀ p ∈ accP rows pa, 0 < p.2.2 := fun p hp => (f1 p hp).1.pos
  have pp : ∀ p ∈ partsM (accP rows pa), 0 < p.2.2 := fun p hp => (low_parts ap p hp).pos
  obtain ⟨t1, t2, t3⟩ := tot_holds R hpt hall hO hP
  show holdsR (sgnOf (sigs rows pa)) (rv (atM (look pt) (partsM (accP rows pa)) (0, 1))) (rv (accT rows pa (0, 1))) = true
  rw [rv_at fpos _ _ pp (by decide), rv01, Rat.zero_add, sumR_parts _ ap]
  have a1 : (("<=" : Str) == "=") = false := by decide
  have a2 : (("<" : Str) == "=") = false := by decide
  have a3 : (("<=" : Str) == "<") = false := by decide
  unfold sgnOf
  by_cases c1 : ("<" : Str) ∈ sigs rows pa
  · rw [if_pos c1]
    simp [holdsR, a2, t1 c1]
  · rw [if_neg c1]
    by_cases c2 : ("<=" : Str) ∈ sigs rows pa
    · rw [if_pos c2]
      simp [holdsR, a1, a3, t2 c2]
    · rw [if_neg c2]
      simp [holdsR, t3 c1 c2]
end DL

/-! A def that hands back a list of its own: the caller's own list then. -/
namespace DL
open PySem PySem.Spec PyProof.Rows L2 RT
def SatR (m : KM) (B : Bx) (G0 : Hp) (D : Ends) (i : Nat) : Out → Prop
  | .nx ρ => ∃ xs, ρ[i]? = some (.own xs) ∧ ∀ σ G H, DEnv m B G H σ ρ → Same G0 G → ∀ a, σ[i]? = some (some (.ref a)) → D.rt (.ref a) H
  | _ => False
def tDR (m : KM) (B : Bx) (i : Nat) (S : Rho → Out) : TS := fun D σ H => ∃ G ρ, DEnv m B G H σ ρ ∧ SatR m B G D i (S ρ)
section
variable {X : L2.Cx} {B : Bx} {W : WX} {st : Stmt} {rest : List Stmt} {S1 S2 : Rho → Out} {pos px : Pos}
theorem pdr_ret (i : Nat) {x : Str} (hN : X.N[i]? = some x := by rfl) (hv : Vis X.env.scope x := by first | exact Or.inl rfl | exact Or.inr (Or.inl rfl) | exact Or.inr (Or.inr rfl)) (hd : (x == ("__debug__" : Str)) = false := by decide) (hcd : (x == ("__classdict__" : Str)) = false := by decide) :
    PSs X [.Return (some (.Name x px)) pos] (tDR (km X) B i nxS) := by
  refine (pss_one (ps_ret (pe_var hN hv hd hcd))).of ?_
  rintro D σ H ⟨G, ρ, E, S⟩
  obtain ⟨xs, e, q⟩ := S
  have qe := E.ent i _ e
  generalize hσ : σ[i]? = o at qe
  cases qe with
  | own z1 z2 z3 z4 => exact ⟨_, hσ, q σ G H E (Same.refl _) _ hσ⟩
theorem pdr_cons {i : Nat} (h1 : PS X st (tDS (km X) B W S1)) (h2 : PSs X rest (tDR (km X) B i S2)) : PSs X (st :: rest) (tDR (km X) B i (seqS S1 S2)) := by
  refine (pss_cons h1 h2).of ?_
  rintro D σ H ⟨G, ρ, E, S⟩
  refine ⟨G, ρ, E, ?_⟩
  have S' : SatR (km X) B G D i ((S1 ρ).bind S2) := S
  cases e : S1 ρ with
  | nx ρ1 =>
    rw [e] at S'
    intro σ1 G1 H1 E1 g1
    refine ⟨G1, ρ1, E1, ?_⟩
    have S2' : SatR (km X) B G D i (S2 ρ1) := S'
    cases e2 : S2 ρ1 with
    | nx ρ2 =>
      rw [e2] at S2'
      obtain ⟨xs, h1, h2⟩ := S2'
      exact ⟨xs, h1, fun σ G' H' E' g => h2 σ G' H' E' (g1.trans g)⟩
    | rt d => rw [e2] at S2'; exact S2'.elim
    | bk d => rw [e2] at S2'; exact S2'.elim
    | ct d => rw [e2] at S2'; exact S2'.elim
    | ex x d => rw [e2] at S2'; exact S2'.elim
    | bad => rw [e2] at S2'; exact S2'.elim
  | rt d => rw [e] at S'; exact S'.elim
  | bk d => rw [e] at S'; exact S'.elim
  | ct d => rw [e] at S'; exact S'.elim
  | ex x d => rw [e] at S'; exact S'.elim
  | bad => rw [e] at S'; exact S'.elim
end
def spN (m : KM) (f : Fn) : Sp := fun vs H Q _ => ∃ G ds xs, Same G H ∧ DqAll m.K G vs ds ∧ f ds = .ok (.list xs) ∧ ∀ a us G' H', Ext G H G' H' → H a = none → H' a = some (.lst us) → G' a = none → DqAll m.K G' us xs → Q (.ref a) H'
def outOwn (i : Nat) : Out → FR
  | .nx ρ => (match ρ[i]? with
    | some (.own xs) => .ok (.list xs)
    | _ => .bad)
  | _ => .bad
theorem outOwn_ok {i : Nat} {o : Out} {xs : List PyData} (h : outOwn i o = .ok (.list xs)) : ∃ ρ, o = .nx ρ ∧ ρ[i]? = some (.own xs) := by
  cases o <;> first | (cases h; done) | skip
  rename_i ρ
  refine ⟨ρ, rfl, ?_⟩
  unfold outOwn at h
  dsimp only at h
  cases e : ρ[i]? with
  | none => rw [e] at h; cases h
  | some z => rw [e] at h; cases z <;> first | (cases h; done) | (cases h; rfl)
section
variable {P : Program} {w : World} {K : PySem.W.Frag} {mg : Str → Option Value} {base : Heap}
theorem fnDR {x qual : Str} {st : Stmt} {f : Addr} {fd : FuncData} {N ps : List Str} {k i : Nat} (F : Fun K x qual st f fd) (S : FnScope N ps (defScope st)) (Sb : Rho → Out) (fn : Fn)
    (hn : ∀ ds, fn ds ≠ .bad → ds.length = ps.length)
    (hS : ∀ ds, fn ds ≠ .bad → outOwn i (Sb (startR N.length ds)) = fn ds)
    (hb : ∀ (cdv : Value) (A : Around) (outer : List Env) (s : Shared) (H : Hp) (E : XK) (B : Bx) (W : WX), Room k (A.deeper (envOfC qual (defScope st) s.heap.objs.size f cdv)) →
      Takes (cxOf (L2.CX P w) P w K mg base N qual (defScope st) f cdv A outer s H E) W →
      PassesOwn (model P w) (cxOf (L2.CX P w) P w K mg base N qual (defScope st) f cdv A outer s H E).A (cxOf (L2.CX P w) P w K mg base N qual (defScope st) f cdv A outer s H E).env (cxOf (L2.CX P w) P w K mg base N qual (defScope st) f cdv A outer s H E).xe →
      PSs (cxOf (L2.CX P w) P w K mg base N qual (defScope st) f cdv A outer s H E) (defBody st) (tDR ⟨K, mg⟩ B i Sb)) :
    FnOk P w K mg base (L2.CX P w) (k + 1) f fd ps (spN ⟨K, mg⟩ fn) := by
  refine F.okX S (fun vs H Q E h => ?_) (fun cdv A outer s H vs Q E hr h => ?_)
  · obtain ⟨G, ds, xs, gh, dp, q, _⟩ := h
    rw [dp.len]
    exact hn ds fun z => by rw [z] at q; cases q
  · obtain ⟨G, ds, xs, gh, dp, q, fin⟩ := h
    have nb : fn ds ≠ .bad := fun z => by rw [z] at q; cases q
    refine ⟨_, hb cdv A outer s H E ⟨G, H⟩ (fun cls d _ H => E cls d H) hr (takes_of rfl rfl rfl rfl) (passes_of rfl), G, startR N.length ds, start_env gh dp, ?_⟩
    have e := hS ds nb
    rw [q] at e
    obtain ⟨ρ, e1, e2⟩ := outOwn_ok e
    rw [e1]
    refine ⟨xs, e2, fun σ G' H' E' g a ha => ?_⟩
    have qe := E'.ent i _ e2
    rw [ha] at qe
    cases qe with
    | own z1 z2 z3 z4 => exact fin a _ G' H' E'.base z3 z1 z2 z4
end
def DefOkN (P : Program) (w : World) (K : PySem.W.Frag) (mg : Str → Option Value) (base : Heap) (x : Str) (k : Nat) (fn : Fn) : Prop :=
  ∃ f fd ps, FnOk P w K mg base (L2.CX P w) k f fd ps (spN ⟨K, mg⟩ fn) ∧ mg x = some (.ref f) ∧ PySem.W.keepIn K (.ref f) = true ∧ Binds K fd ps []
def callL (fn : Fn) (A : Rho → Res (List PyData)) : Rho → Res (List PyData) := fun ρ => (A ρ).bind fun ds ρ => match fn ds with
  | .ok (.list xs) => .ok xs ρ
  | _ => .bad
section
variable {X : L2.Cx} {B : Bx} {W : WX} {pos : Pos} {e : Expr} {es : List Expr} {A : Rho → Res (List PyData)}
theorem nl_call {k : Nat} {fn : Fn} {x : Str} {p : Pos} (D : DefOkN X.prog X.w X.K X.mg X.base x k fn) (hr : Room k X.A) (tk : Takes X W)
    (ha : PA X (e :: es) (tDA (km X) B W A)) (hg : Gl X x := by rfl) (hdb : (x == ("__debug__" : Str)) = false := by decide) (he : starEach (e :: es) X.env = (false, eval e X.env) :: starEach es X.env := by rfl) (hpl : (backTo pos (starEach es X.env)).any (·.1) = false := by rfl) :
    PE X (.Call (.Name x p) (e :: es) [] pos) (tNL (km X) B W (callL fn A)) := by
  obtain ⟨f, fd, ps, F, hm, hk, hb⟩ := D
  refine (pe_callS F hr hg hm hk hb (fun σ => passAt tk σ) ha hdb he hpl).of ?_
  rintro σ H Q ⟨G, ρ, E, S⟩
  refine ⟨G, ρ, E, (Sat.bind S).imp fun ds ρ1 s1 vs G1 H1 E1 g1 dp1 => ?_⟩
  cases q : fn ds with
  | ex x => rw [q] at s1; exact s1.elim
  | bad => rw [q] at s1; exact s1.elim
  | ok d =>
    rw [q] at s1
    cases d <;> first | exact s1.elim | skip
    rename_i xs
    refine ⟨G1, ds, xs, E1.base.gh, dp1, q, fun a us G' H' ext hA hl hG da => ?_⟩
    have e0 : upd (fun b => if b = a then none else H' b) a (.lst us) = H' := by
      funext b
      by_cases hb : b = a
      · subst hb; rw [upd_same, hl]
      · rw [upd_ne hb, if_neg hb]
    have x0 : Ext G1 H1 G' (fun b => if b = a then none else H' b) := by
      refine ⟨ext.g, fun b o e => ?_, fun b o e => ?_, ext.cap⟩
      · show (if b = a then none else H' b) = some o
        rw [if_neg (fun z => by rw [z, hA] at e; cases e)]
        exact ext.h _ _ e
      · show (if b = a then none else H' b) = some o
        rw [if_neg (fun z => by rw [z, hG] at e; cases e)]
        exact ext.gh _ _ e
    have fin := s1 a us G' _ (E1.ext x0) (g1.trans ext.g) (if_pos rfl) da
    rw [e0] at fin
    exact fin
end
@[simp] theorem callL_apc {fn : Fn} {A : Rho → Res (List PyData)} {e0 : Ent} {ρ : Rho} : callL fn A (e0 :: ρ) = (A (e0 :: ρ)).bind fun ds ρ => match fn ds with
  | .ok (.list xs) => .ok xs ρ
  | _ => .bad := by unfold callL; exact id rfl
theorem fn3_own {g : PyData → PyData → PyData → FR} {S : Rho → Out} {i k : Nat} (q : ∀ a0 a1 a2, outOwn i (S (startR k [a0, a1, a2])) = g a0 a1 a2) : ∀ ds, fn3 g ds ≠ .bad → outOwn i (S (startR k ds)) = fn3 g ds := fun ds h => by
  match ds with
  | [a0, a1, a2] => exact q a0 a1 a2
  | [] => exact absurd rfl h
  | [_] => exact absurd rfl h
  | [_, _] => exact absurd rfl h
  | _ :: _ :: _ :: _ :: _ => exact absurd rfl h
end DL

/-! all, any of a list of truth values; texts put together by f"..". -/
namespace DL
open PySem PySem.Spec PyProof.Rows L2 RT
def boolsD : List PyData → Option (List Bool)
  | [] => some []
  | .bool b :: r => (boolsD r).map (b :: ·)
  | _ => none
def bAll : PyData → Option PyData
  | .list xs => (boolsD xs).map fun bs => .bool (bs.all id)
  | _ => none
def bAny : PyData → Option PyData
  | .list xs => (boolsD xs).map fun bs => .bool (bs.any id)
  | _ => none
theorem bools_dp {K : PySem.W.Frag} {G : Hp} : ∀ {vs : List V} {xs : List PyData} {bs : List Bool}, DqAll K G vs xs → boolsD xs = some bs → vs = bs.map V.bl
  | _, [], bs, h, e => by cases h; cases e; rfl
  | _, x :: xs, bs, h, e => by
    cases h with
    | cons h1 h2 =>
      cases x <;> first | (cases e; done) | skip
      rename_i b
      unfold boolsD at e
      cases q : boolsD xs with
      | none => rw [q] at e; cases e
      | some cs =>
        rw [q] at e
        cases e
        cases h1
        rw [bools_dp h2 q]
        rfl
section
variable {X : L2.Cx}
theorem rd_all : RDs X.K (rAll X.K) (app1 bAll) := by
  refine rds1 fun G H x d z Q gh h1 hz q => ?_
  cases d <;> first | (cases hz; done) | skip
  rename_i xs
  have hz' : (boolsD xs).map (fun bs => PyData.bool (bs.all id)) = some z := hz
  cases e : boolsD xs with
  | none => rw [e] at hz'; cases hz'
  | some bs =>
    rw [e] at hz'
    cases hz'
    cases h1 with
    | lst a1 a2 =>
      have := bools_dp a2 e
      subst this
      exact ⟨_, bs, rfl, gh.seq a1, q _ _ _ (Ext.refl gh) (.bl _)⟩
theorem rd_any : RDs X.K (rAny X.K) (app1 bAny) := by
  refine rds1 fun G H x d z Q gh h1 hz q => ?_
  cases d <;> first | (cases hz; done) | skip
  rename_i xs
  have hz' : (boolsD xs).map (fun bs => PyData.bool (bs.any id)) = some z := hz
  cases e : boolsD xs with
  | none => rw [e] at hz'; cases hz'
  | some bs =>
    rw [e] at hz'
    cases hz'
    cases h1 with
    | lst a1 a2 =>
      have := bools_dp a2 e
      subst this
      exact ⟨_, bs, rfl, gh.seq a1, q _ _ _ (Ext.refl gh) (.bl _)⟩
end
theorem boolsD_map {α : Type} (p : α → Bool) : ∀ xs : List α, boolsD (xs.map fun x => PyData.bool (p x)) = some (xs.map p)
  | [] => rfl
  | x :: xs => by
    rw [List.map_cons]
    unfold boolsD
    rw [boolsD_map p xs]
    rfl
end DL

/-! for i, x in enumerate(xs); for x, y in zip(xs, ys): the pair is taken apart at once. -/
namespace DL
open PySem PySem.Spec PyProof.Rows L2 RT
/-- an iterator that gives new pairs -/
structure WalkP (K : PySem.W.Frag) (ds : List (PyData × PyData)) (G : Hp) (J : It) : Prop where
  go : ∀ (i : Nat) (d : PyData × PyData) (G2 H2 : Hp), Same G G2 → Same G2 H2 → ds[i]? = some d → J.go i H2 ∧ ∀ v H3, J.yld i H2 v H3 → ∃ T u1 u2 G3, v = .ref T ∧ H3 T = some (.tup [u1, u2]) ∧ Ext G2 H2 G3 H3 ∧ Dq K G3 u1 d.1 ∧ Dq K G3 u2 d.2
  stop : ∀ (i : Nat) (G2 H2 : Hp), Same G G2 → Same G2 H2 → i = ds.length → J.stop i H2
def iP (m : KM) (B : Bx) (W : WX) (F : Rho → Res (List (PyData × PyData))) : TI := fun σ H R => ∃ G ρ, DEnv m B G H σ ρ ∧ Sat m B W G σ (F ρ) fun ds ρ' => ∀ J G' H', DEnv m B G' H' σ ρ' → Same G G' → WalkP m.K ds G' J → R J H'
def gP (m : KM) (B : Bx) (U : Tgs) : TG := fun v σ H Q => ∃ G ρ d1 d2 ρ' T u1 u2, DEnv m B G H σ ρ ∧ v = .ref T ∧ H T = some (.tup [u1, u2]) ∧ Dq m.K G u1 d1 ∧ Dq m.K G u2 d2 ∧ U [d1, d2] ρ = some ρ' ∧ ∀ σ', DEnv m B G H σ' ρ' → Q σ' H
def pairT (U : Tgs) : PyData × PyData → Rho → Option Rho := fun d ρ => U [d.1, d.2] ρ
def loopP (U : Tgs) (S : Rho → Out) : List (PyData × PyData) → Rho → Out
  | [], ρ => .nx ρ
  | d :: ds, ρ => match U [d.1, d.2] ρ with
    | none => .bad
    | some ρ1 => match S ρ1 with
      | .nx ρ2 => loopP U S ds ρ2
      | .ct ρ2 => loopP U S ds ρ2
      | .bk ρ2 => .nx ρ2
      | o => o
def forP (F : Rho → Res (List (PyData × PyData))) (U : Tgs) (S : Rho → Out) : Rho → Out := fun ρ => (F ρ).out fun ds ρ => loopP U S ds ρ
section
variable {X : L2.Cx} {B : Bx} {W : WX} {pos : Pos} {S1 : Rho → Out}
theorem pgp_tup {es : List Expr} {k : Nat} {U : Tgs} (hc : X.calm = true) (h : PGs X es (gDs (km X) B U)) (hn : (assignEach es X.env).length = 2 := by rfl) (hst : (assignEach es X.env).findIdx? (·.1) = none := by rfl) : PG X (.Tuple es k pos) (gP (km X) B U) := by
  refine (pg_tup hc h hn hst).of ?_
  rintro v σ H Q ⟨G, ρ, d1, d2, ρ', T, u1, u2, E, rfl, hT, q1, q2, hU, q⟩
  exact ⟨_, _, rfl, SqT.of hT, rfl, G, ρ, [d1, d2], ρ', E, .cons q1 (.cons q2 .nil), hU, q⟩
theorem pd_forP {tg iter : Expr} {body : List Stmt} {Fi : Rho → Res (List (PyData × PyData))} {U : Tgs} (hp : PassesOwn (model X.prog X.w) X.A X.env X.xe) (hc : X.calm = true) (hi : PI X tg iter (iP (km X) B W Fi)) (hg : PG X tg (gP (km X) B U)) (hb : PSs X body (tDS (km X) B W S1))
    (hs : ∀ x, foldedSetIterable iter X.env x = pure x := by intro _; rfl) : PS X (.For tg iter body [] pos) (tDS (km X) B W (forP Fi U S1)) := by
  refine (ps_for hp hc hi hg hb hs).of ?_
  rintro D σ H ⟨G, ρ, E, S⟩
  refine ⟨G, ρ, E, S.out.imp fun ds ρ1 s1 J G1 H1 E1 g1 wk => ?_⟩
  refine ⟨fun i m σ H => m = ds.length - i ∧ i ≤ ds.length ∧ ∃ G ρ, DEnv (km X) B G H σ ρ ∧ Same G1 G ∧ SatS (km X) B W G1 D (loopP U S1 (ds.drop i) ρ), ⟨_, rfl, Nat.zero_le _, G1, ρ1, E1, Same.refl _, s1.up g1⟩, ?_⟩
  rintro i m σ H ⟨rfl, hi, G2, ρ2, E2, g2, s2⟩
  by_cases hl : i < ds.length
  · have hd : ds[i]? = some ds[i] := List.getElem?_eq_getElem hl
    obtain ⟨w1, w2⟩ := wk.go i _ G2 H g2 E2.base.gh hd
    refine .inr ⟨w1, fun σ' H' => ∃ G ρ, DEnv (km X) B G H' σ' ρ ∧ Same G1 G ∧ SatS (km X) B W G1 D (loopP U S1 (ds.drop (i + 1)) ρ), fun σ' H' n => ⟨ds.length - (i + 1), by omega, rfl, hl, n⟩, fun v H3 y => ?_⟩
    obtain ⟨T, u1, u2, G3, hv, hT, ext, p1, p2⟩ := w2 v H3 y
    have E3 := E2.ext ext
    rw [List.drop_eq_getElem_cons hl] at s2
    unfold loopP at s2
    cases hU : U [ds[i].1, ds[i].2] ρ2 with
    | none => rw [hU] at s2; exact s2.elim
    | some ρ3 =>
      rw [hU] at s2
      refine ⟨G3, ρ2, ds[i].1, ds[i].2, ρ3, T, u1, u2, E3, hv, hT, p1, p2, hU, fun σ' E' => ⟨G3, ρ3, E', ?_⟩⟩
      dsimp only at s2
      have g3 : Same G1 G3 := g2.trans ext.g
      cases hS : S1 ρ3 with
      | nx ρ4 =>
        rw [hS] at s2
        exact fun σ G H E g => ⟨G, ρ4, E, g3.trans g, s2⟩
      | ct ρ4 =>
        rw [hS] at s2
        exact fun σ G H E g => ⟨G, ρ4, E, g3.trans g, s2⟩
      | bk ρ4 =>
        rw [hS] at s2
        exact fun σ G H E g => s2 σ G H E (g3.trans g)
      | rt d => rw [hS] at s2; exact s2
      | ex x ρ4 =>
        rw [hS] at s2
        exact fun cls dd σ G H E g => s2 cls dd σ G H E (g3.trans g)
      | bad => rw [hS] at s2; exact s2
  · have hi' : i = ds.length := by omega
    subst hi'
    rw [List.drop_length] at s2
    exact .inl ⟨wk.stop _ G2 H g2 E2.base.gh rfl, s2 σ G2 H E2 g2⟩
/-! enumerate of a list -/
def enumD (xs : List PyData) : List (PyData × PyData) := (List.range xs.length).zipWith (fun i x => (.int (i : Nat), x)) xs
def enumF (F : Rho → Res PyData) : Rho → Res (List (PyData × PyData)) := fun ρ => (F ρ).bind fun d ρ => match d with
  | .list xs => .ok (enumD xs) ρ
  | _ => .bad
theorem enumD_get {xs : List PyData} {i : Nat} {d : PyData × PyData} (h : (enumD xs)[i]? = some d) : d.1 = .int (i : Nat) ∧ xs[i]? = some d.2 := by
  unfold enumD at h
  rw [List.getElem?_zipWith] at h
  cases e1 : xs[i]? with
  | none => rw [e1] at h; cases hh : (List.range xs.length)[i]? <;> rw [hh] at h <;> cases h
  | some x =>
    have hi : i < xs.length := by
      apply Classical.byContradiction
      intro z
      rw [List.getElem?_eq_none (by omega)] at e1
      cases e1
    rw [e1, List.getElem?_range hi] at h
    cases h
    exact ⟨rfl, rfl⟩
theorem enumD_len (xs : List PyData) : (enumD xs).length = xs.length := by simp [enumD]
theorem pid_enum {e : Expr} {F : Rho → Res PyData} {p tpos : Pos} {elts : List Expr} {kk : Nat} (hm : X.mg "enumerate" = none) (ha : PE X e (tD (km X) B W F)) (hg : Gl X "enumerate" := by rfl) (hs : starEach [e] X.env = [(false, eval e X.env)] := by rfl) (h2 : starEach [e] X.env = (false, eval e X.env) :: starEach [] X.env := by rfl) :
    PI X (.Tuple elts kk tpos) (.Call (.Name "enumerate" p) [e] [] pos) (iP (km X) B W (enumF F)) := by
  refine (pi_enum hg hm (pa_cons ha pa_nil h2) hs).of ?_
  rintro σ H R ⟨G, ρ, E, S⟩
  refine ⟨G, ρ, E, (Sat.bind S).imp fun d ρ1 s1 v G1 H1 E1 g1 dp1 => ?_⟩
  cases d <;> first | exact s1.elim | skip
  rename_i ds
  cases dp1 with
  | lst a1 a2 =>
    rename_i a vs
    refine ⟨a, vs, rfl, E1.base.gh.seq a1, s1 _ G1 H1 E1 g1 ⟨fun i d G2 H2 g2 gh hd => ?_, fun i G2 H2 g2 gh hi => ?_⟩⟩
    · obtain ⟨e1, e2⟩ := enumD_get hd
      have q : SqL X.K H2 a vs := gh.seq (g2.seq a1)
      have hl : i < ds.length := by
        apply Classical.byContradiction
        intro z
        rw [List.getElem?_eq_none (by omega)] at e2
        cases e2
      have hl2 : i < vs.length := by rw [a2.len]; exact hl
      refine ⟨⟨vs, vs[i], q, by simp [hl2]⟩, fun v H3 y => ?_⟩
      obtain ⟨T, x, rfl, hT, rfl, hx⟩ := y
      have hx' := hx vs q
      obtain ⟨u, hu, dp⟩ := dpAll_ix a2 (show atI _ ((i : Nat) : Int) = some d.2 from atI_nat e2)
      rw [atI_nat hx'] at hu
      cases hu
      have ext : Ext G2 H2 G2 (upd H2 T (.tup [.int (i : Nat), x])) := Ext.newOwn gh hT
      exact ⟨T, .int (i : Nat), x, G2, rfl, upd_same, ext, by rw [e1]; exact .int _, dp_same g2 _ _ dp⟩
    · refine ⟨vs, gh.seq (g2.seq a1), ?_⟩
      rw [enumD_len] at hi
      rw [a2.len, hi]
      exact Nat.le_refl _
end
@[simp] theorem forP_apc {F : Rho → Res (List (PyData × PyData))} {U : Tgs} {S : Rho → Out} {e0 : Ent} {ρ : Rho} : forP F U S (e0 :: ρ) = (F (e0 :: ρ)).out fun ds ρ => loopP U S ds ρ := id rfl
@[simp] theorem enumF_apc {F : Rho → Res PyData} {e0 : Ent} {ρ : Rho} : enumF F (e0 :: ρ) = (F (e0 :: ρ)).bind fun d ρ => match d with
  | .list xs => .ok (enumD xs) ρ
  | _ => .bad := id rfl
end DL

/-! a, b, c = x.partition(y): the tuple is taken apart at once. -/
namespace DL
open PySem PySem.Spec PyProof.Rows L2 RT
def part3S (F1 F2 : Rho → Res PyData) (U : Tgs) : Rho → Out := fun ρ => (F1 ρ).out fun d ρ => if isS d = true then (F2 ρ).out fun e ρ => match d, e with
  | .str a, .str b => if (b.length == 0) = false ∧ a.length ≤ sizeLine then optS (U [.str (Txt.partition a b).1, .str (Txt.partition a b).2.1, .str (Txt.partition a b).2.2] ρ) else .bad
  | _, _ => .bad
  else .bad
section
variable {X : L2.Cx} {B : Bx} {W : WX} {pos : Pos}
theorem pd_part3 {o e : Expr} {es : List Expr} {apos cpos pt : Pos} {k : Nat} {F1 F2 : Rho → Res PyData} {U : Tgs} (hc : X.calm = true) (ho : PE X o (tD (km X) B W F1)) (he : PE X e (tD (km X) B W F2)) (hg : PGs X es (gDs (km X) B U))
    (hn : (assignEach es X.env).length = 3 := by rfl) (hst : (assignEach es X.env).findIdx? (·.1) = none := by rfl)
    (hs1 : starEach [e] X.env = [(false, eval e X.env)] := by rfl) (hbase : attributeBase o "partition" X.env (eval o X.env) = eval o X.env := by rfl) (hline : (apos.endLine == cpos.line) = true := by rfl)
    (hs : swapsWithSole [.Tuple es k pt] (.Call (.Attribute o "partition" apos) [e] [] cpos) pos.line X.env = pure false := by rfl) (hw : swappedStores [.Tuple es k pt] (.Call (.Attribute o "partition" apos) [e] [] cpos) X.env = pure none := by rfl)
    (h1 : (assignEach [(.Tuple es k pt : Expr)] X.env).map (·.2) = [assign (.Tuple es k pt) X.env] := by rfl) :
    PS X (.Assign [.Tuple es k pt] (.Call (.Attribute o "partition" apos) [e] [] cpos) pos) (tDS (km X) B W (part3S F1 F2 U)) := by
  refine (ps_asg (pe_partition ho he hs1 hbase hline) (pg_tup hc hg hn hst) hs hw h1).of ?_
  rintro D σ H ⟨G, ρ, E, S⟩
  refine ⟨G, ρ, E, (SatS.out S).imp fun d ρ1 s1 v G1 H1 E1 g1 dp1 => ?_⟩
  by_cases hS : isS d = true
  · rw [if_pos hS] at s1
    cases d <;> first | (cases hS; done) | skip
    rename_i a
    cases dp1
    refine ⟨⟨_, rfl⟩, G1, ρ1, E1, ((SatS.out s1).up g1).imp fun e ρ2 s2 u G2 H2 E2 g2 dp2 => ?_⟩
    cases e <;> first | exact s2.elim | skip
    rename_i b
    cases dp2
    dsimp only at s2
    by_cases hb : (b.length == 0) = false ∧ a.length ≤ sizeLine
    · rw [if_pos hb] at s2
      obtain ⟨ρ3, h3, q⟩ := sat_optS s2
      refine ⟨a, b, rfl, rfl, hb.1, hb.2, fun p hp => ?_⟩
      have x : Ext G2 H2 G2 (upd H2 p (.tup [.str (Txt.partition a b).1, .str (Txt.partition a b).2.1, .str (Txt.partition a b).2.2])) := Ext.newOwn E2.base.gh hp
      exact ⟨p, _, rfl, SqT.of upd_same, rfl, G2, ρ2, _, ρ3, E2.ext x, .cons (.str _) (.cons (.str _) (.cons (.str _) .nil)), h3, fun σ' E' => q σ' G2 _ E' (g1.trans g2)⟩
    · rw [if_neg hb] at s2
      exact s2.elim
  · rw [if_neg hS] at s1
    exact s1.elim
end
end DL

/-! a = b = e; x, y, z = [], "..", CONST; a written dict of any data. -/
namespace DL
open PySem PySem.Spec PyProof.Rows L2 RT
section
variable {X : L2.Cx} {B : Bx} {W : WX} {pos : Pos} {e : Expr} {F : Rho → Res PyData}
def tAsg2 (te : TE) (g1 g2 : TG) : TS := fun D σ H => te σ H fun x H1 => g1 x σ H1 fun σ2 H2 => g2 x σ2 H2 D.nx
theorem ps_asg2 {t1 t2 e : Expr} {te : TE} {g1 g2 : TG} (he : PE X e te) (h1 : PG X t1 g1) (h2 : PG X t2 g2) (hs : swapsWithSole [t1, t2] e pos.line X.env = pure false := by rfl) (hw : swappedStores [t1, t2] e X.env = pure none := by rfl)
    (ha : (assignEach [t1, t2] X.env).map (·.2) = [assign t1 X.env, assign t2 X.env] := by rfl) : PS X (.Assign [t1, t2] e pos) (tAsg2 te g1 g2) := by
  refine ⟨fun pins s σ H D I h => ?_⟩
  refine wpAny_Assign_stores (thn (he.run pins s σ H _ I h) fun v s1 ⟨x, H1, I1, r1, q1⟩ => ?_) hs hw
  rw [ha]
  refine wpAny_bind (wpAny_holding (thn (h1.run pins s1 σ H1 x v _ I1 r1 q1) fun _ s2 z => ?_))
  obtain ⟨σ2, H2, I2, q2⟩ := z
  exact thn (h2.run pins s2 σ2 H2 x v _ I2 r1 q2) fun _ s3 q => q
def asg2S (F : Rho → Res PyData) (i j : Nat) : Rho → Out := fun ρ => (F ρ).out fun d ρ => if i < ρ.length ∧ j < ρ.length then .nx ((ρ.set i (.d d)).set j (.d d)) else .bad
theorem pd_asg2 (i j : Nat) {x y : Str} {px py : Pos} (hN : X.N.Nodup) (he : PE X e (tD (km X) B W F)) (hi : X.N[i]? = some x := by rfl) (hj : X.N[j]? = some y := by rfl)
    (hx : Loc X.env.scope x := by first | exact Or.inl rfl | exact Or.inr rfl) (hy : Loc X.env.scope y := by first | exact Or.inl rfl | exact Or.inr rfl)
    (fx : X.fn x = true ∨ X.env.scope.names.lookup x = some .local := by first | exact .inl rfl | exact .inr rfl | assumption) (fy : X.fn y = true ∨ X.env.scope.names.lookup y = some .local := by first | exact .inl rfl | exact .inr rfl | assumption)
    (hs : swapsWithSole [(.Name x px : Expr), .Name y py] e pos.line X.env = pure false := by rfl) (hw : swappedStores [(.Name x px : Expr), .Name y py] e X.env = pure none := by rfl) :
    PS X (.Assign [.Name x px, .Name y py] e pos) (tDS (km X) B W (asg2S F i j)) := by
  refine (ps_asg2 he (pg_name hN hi hx fx) (pg_name hN hj hy fy) hs hw).of ?_
  rintro D σ H ⟨G, ρ, E, S⟩
  refine ⟨G, ρ, E, (SatS.out S).imp fun d ρ1 s1 v G1 H1 E1 g1 dp1 => ?_⟩
  by_cases hl : i < ρ1.length ∧ j < ρ1.length
  · rw [if_pos hl] at s1
    exact s1 _ _ _ ((E1.put hl.1 dp1).put (by simpa using hl.2) dp1) g1
  · rw [if_neg hl] at s1
    exact s1.elim
def par3T (i j l : Nat) (t : Str) (d : PyData) : Rho → Out := fun ρ => if i < ρ.length ∧ j < ρ.length ∧ l < ρ.length then .nx (((ρ.set i (.own [])).set j (.d (.str t))).set l (.d d)) else .bad
theorem pd_par3T (i j l : Nat) {x y z c t : Str} {q : Nat} {px py pz pt p1 p2 p3 : Pos} {kt k2 pt2} {v : V} {u : Value} {d : PyData} (hc : X.calm = true) (hN : X.N.Nodup) (hm : X.mg c = some u) (r : RelV v u) (hdq : ∀ G : Hp, Dq X.K G v d) (hi : X.N[i]? = some x := by rfl) (hj : X.N[j]? = some y := by rfl) (hl : X.N[l]? = some z := by rfl)
    (hij : i ≠ j := by decide) (hil : i ≠ l := by decide) (hjl : j ≠ l := by decide) (hx : X.env.scope.names.lookup x = some .local := by rfl) (hy : X.env.scope.names.lookup y = some .local := by rfl) (hz : X.env.scope.names.lookup z = some .local := by rfl)
    (hw : swappedStores [.Tuple [.Name x px, .Name y py, .Name z pz] kt pt] (.Tuple [.List [] p1, .Constant (.str t) q p2, .Name c p3] k2 pt2) X.env = pure (some [x, y, z]) := by rfl)
    (hs : swapsWithSole [.Tuple [.Name x px, .Name y py, .Name z pz] kt pt] (.Tuple [.List [] p1, .Constant (.str t) q p2, .Name c p3] k2 pt2) pos.line X.env = pure false := by rfl)
    (hg : Gl X c := by rfl) (hd : (c == ("__debug__" : Str)) = false := by decide) :
    PS X (.Assign [.Tuple [.Name x px, .Name y py, .Name z pz] kt pt] (.Tuple [.List [] p1, .Constant (.str t) q p2, .Name c p3] k2 pt2) pos) (tDS (km X) B W (par3T i j l t d)) := by
  refine (ps_par3 hc hN hi hj hl hij hil hjl hx hy hz (pa_cons (pe_lst pa_nil) (pa_cons pe_str (pa_cons (pe_glob hg hm r hd) pa_nil))) hw hs).of ?_
  rintro D σ H ⟨G, ρ, E, S⟩
  unfold par3T at S
  by_cases h : i < ρ.length ∧ j < ρ.length ∧ l < ρ.length
  · rw [if_pos h] at S
    refine ⟨Nat.zero_le _, fun q1 hq1 => ⟨_, _, _, rfl, ?_⟩⟩
    have E1 := E.putOwn h.1 hq1 .nil
    have E2 := E1.put (i := j) (by simpa using h.2.1) (.str t)
    exact S _ _ _ (E2.put (i := l) (by simpa using h.2.2) (hdq _)) (Same.refl _)
  · rw [if_neg h] at S
    exact S.elim
/-- the module's dict x has these pairs -/
def KDG (w : World) (K : PySem.W.Frag) (mg : Str → Option Value) (x : Str) (kvs : List (Str × PyData)) : Prop :=
  ∃ d es n, mg x = some (.ref d) ∧ KDict K w d es n ∧ ∀ p ∈ kvs, ∃ u v, PySem.W.nsIn K d p.1 = some (some u) ∧ RelV v u ∧ ∀ G : Hp, Dq K G v p.2
def ixGF (kvs : List (Str × PyData)) (F : Rho → Res PyData) : Rho → Res PyData := fun ρ => (F ρ).bind fun d ρ => match d with
  | .str z => (match kvs.find? fun p => decide (p.1 = z) with
    | some p => .ok p.2 ρ
    | none => .bad)
  | _ => .bad
theorem pd_ixG {x : Str} {px : Pos} {kvs : List (Str × PyData)} (hk : KDG X.w X.K X.mg x kvs) (ha : PE X e (tD (km X) B W F)) (hs : PlainIx e := by exact fun _ _ => rfl) (hg : Gl X x := by rfl) (hd : (x == ("__debug__" : Str)) = false := by decide) :
    PE X (.Subscript (.Name x px) e pos) (tD (km X) B W (ixGF kvs F)) := by
  obtain ⟨d, es, n, hm, D, h1⟩ := hk
  refine (pe_ix ix_kdict (pe_glob (v := .ref d) hg hm rfl hd) ha hs).of ?_
  rintro σ H Q ⟨G, ρ, E, S⟩
  refine ⟨G, ρ, E, (Sat.bind S).imp fun y ρ1 s1 v G1 H1 E1 g1 dp1 => ?_⟩
  cases y <;> first | exact s1.elim | skip
  rename_i z
  cases dp1
  dsimp only at s1
  cases q : kvs.find? fun p => decide (p.1 = z) with
  | none => rw [q] at s1; exact s1.elim
  | some p =>
    rw [q] at s1
    obtain ⟨u, v0, ht, hr, hq⟩ := h1 p (List.mem_of_find?_eq_some q)
    have ez : p.1 = z := by simpa using List.find?_some q
    rw [ez] at ht
    exact ⟨_, z, v0, rfl, rfl, ⟨es, n, u, D.at_, D.lit, ht, hr⟩, s1 v0 G1 H1 E1 g1 (hq _)⟩
end
@[simp] theorem asg2S_apc {F : Rho → Res PyData} {i j : Nat} {e0 : Ent} {ρ : Rho} : asg2S F i j (e0 :: ρ) = (F (e0 :: ρ)).out fun d ρ => if i < ρ.length ∧ j < ρ.length then .nx ((ρ.set i (.d d)).set j (.d d)) else .bad := id rfl
@[simp] theorem par3T_apc {i j l : Nat} {t : Str} {d : PyData} {e0 : Ent} {ρ : Rho} : par3T i j l t d (e0 :: ρ) = if i < (e0 :: ρ).length ∧ j < (e0 :: ρ).length ∧ l < (e0 :: ρ).length then .nx ((((e0 :: ρ).set i (.own [])).set j (.d (.str t))).set l (.d d)) else .bad := id rfl
@[simp] theorem ixGF_apc {kvs : List (Str × PyData)} {F : Rho → Res PyData} {e0 : Ent} {ρ : Rho} : ixGF kvs F (e0 :: ρ) = (F (e0 :: ρ)).bind fun d ρ => match d with
  | .str z => (match kvs.find? fun p => decide (p.1 = z) with
    | some p => .ok p.2 ρ
    | none => .bad)
  | _ => .bad := id rfl
@[simp] theorem part3S_apc {F1 F2 : Rho → Res PyData} {U : Tgs} {e0 : Ent} {ρ : Rho} : part3S F1 F2 U (e0 :: ρ) = (F1 (e0 :: ρ)).out fun d ρ => if isS d = true then (F2 ρ).out fun e ρ => match d, e with
  | .str a, .str b => if (b.length == 0) = false ∧ a.length ≤ sizeLine then optS (U [.str (Txt.partition a b).1, .str (Txt.partition a b).2.1, .str (Txt.partition a b).2.2] ρ) else .bad
  | _, _ => .bad
  else .bad := id rfl
end DL

set_option maxHeartbeats 2000000
/-! Sets of texts: added to, sorted; a set comprehension with two fors. -/
namespace DL
open PySem PySem.Spec PyProof.Rows L2 RT
open PySem.Froz (SD sObj addTx tailTx TxOk)
def txOf : Value → Str
  | .str x _ => x
  | _ => ""
def txs (D : SD) : List Str := D.1.toList.map fun e => txOf e.2
section
variable {ep : Nat} {es1 : Array (Int × Value)} {t2 : SetTable} {wd : Bool}
theorem tail_perm : (tailTx ep es1 t2 wd).1.toList.Perm es1.toList := by
  unfold tailTx
  split
  · exact relayAll_perm t2 es1 _
  · exact .refl _
theorem tail_ris (r : Ris t2.place.toList) : Ris (tailTx ep es1 t2 wd).2.2.place.toList := by
  unfold tailTx
  split
  · exact relayAll_ris t2 es1 _
  · exact r
theorem tail_led : (tailTx ep es1 t2 wd).2.2.led = t2.led := by
  unfold tailTx
  split
  · exact relayAll_led t2 es1 _
  · rfl
end
theorem addTx_perm (h : Int) (v : Value) (D : SD) : (addTx h v D).1.toList.Perm ((h, v) :: D.1.toList) := by
  have p1 := layNew_perm D.2.2 D.1 h v
  rw [Array.toList_push] at p1
  exact tail_perm.trans (p1.trans (List.perm_append_singleton _ _))
theorem addTx_ris (h : Int) (v : Value) (D : SD) (r : Ris D.2.2.place.toList) : Ris (addTx h v D).2.2.place.toList := by
  refine tail_ris ?_
  have p1 := layNew_ris D.2.2 D.1 h v r
  split <;> exact p1
theorem addTx_led (h : Int) (v : Value) (D : SD) : (addTx h v D).2.2.led = D.2.2.led := by
  refine tail_led.trans ?_
  have p1 := layNew_led D.2.2 D.1 h v
  split <;> exact p1
/-- the payload of a set of the texts l that can be walked -/
structure Pay (P : Program) (w : World) (D : SD) (l : List Str) : Prop where
  ok : TxOk P w D l
  pm : (txs D).Perm l
  ris : Ris D.2.2.place.toList
  led : w.params.followText "set-order" = true ∨ D.2.2.led = true
def insT (k : Str) (l : List Str) : List Str := if k ∈ l then l else k :: l
theorem insT_len (k : Str) (l : List Str) : (insT k l).length ≤ l.length + 1 := by unfold insT; split <;> simp
theorem insT_nd {k : Str} {l : List Str} (h : l.Nodup) : (insT k l).Nodup := by
  unfold insT
  split
  · exact h
  · rename_i n
    exact List.nodup_cons.mpr ⟨n, h⟩
section
variable {P : Program} {w : World} {A : Around} {E : Value → Shared → Prop} {s : Shared} {a : Addr} {D : SD} {l : List Str} {k : Str} {u : Tok}
theorem Pay.add (y : Pay P w D l) : Pay P w (addTx (hashStr w k) (.str k u) D) (k :: l) where
  ok := PySem.Froz.add_ok u y.ok
  pm := by
    have q := (addTx_perm (hashStr w k) (.str k u) D).map fun e : Int × Value => txOf e.2
    rw [List.map_cons] at q
    exact q.trans (y.pm.cons _)
  ris := addTx_ris _ _ _ y.ris
  led := y.led.imp id fun z => by rw [addTx_led]; exact z
theorem pay_new : Pay P w (#[], 0, .fresh 0 0 (!w.params.followText "set-order")) [] where
  ok := PySem.Froz.TxOk.nil (by rfl)
  pm := .nil
  ris := List.Pairwise.nil
  led := by
    show _ ∨ (!w.params.followText "set-order") = true
    cases w.params.followText "set-order" <;> simp
theorem old_txt {Q : Bool → Shared → Prop} (ho : s.heap.get? a = some (sObj "set" D)) (y : Pay P w D l) (hk : k ∈ l) (few : l.length < scanBound) (hQ : Q false s) : wpAny (model P w) A (setAddHashed a (.str k u) (hashStr w k)) Q E s := by
  obtain ⟨es, ep, t⟩ := D
  have dat : (sObj "set" (es, ep, t)).data = .set es ep t := rfl
  have fit : t.fits es.size = true := y.ok.fit
  have els : ElemsOf (strKind P w) es.toList := y.ok.el
  have siz : es.size = l.length := y.ok.sz
  have isk : (strKind P w).is k (.str k u) = true := PySem.Froz.is_str k u
  unfold setAddHashed setAddHashedIn
  refine wpAny_holding (wpAny_bind (wpAny_setState_of ho dat fit ?_))
  dsimp only
  rw [byScan_of rfl (by rw [siz]; exact few) els]
  simp only [↓reduceIte]
  unfold setAddByScan
  refine wpAny_bind (wpAny_bind (wpAny_rule (wpAny_bind (wpAny_setScan_of (knd := strKind P w) (k := k) isk ho dat fit els ?_))))
  cases hr : List.findIdx? (fun e => (strKind P w).is k e.2) es.toList with
  | none =>
    obtain ⟨e, he, z⟩ := (y.ok.mem k).mp hk
    have c := List.findIdx?_eq_none_iff.mp hr e he
    rw [z] at c
    cases c
  | some j => exact wpAny_pure (wpAny_pure hQ)
theorem txt_add {Q : Value → Shared → Prop} (ho : s.heap.get? a = some (sObj "set" D)) (y : Pay P w D l) (room : l.length + 1 < scanBound)
    (hQ : ∀ h' D', Heap.SameBut a s.heap h' → h'.get? a = some (sObj "set" D') → Pay P w D' (insT k l) → Q .none { s with heap := h', toks := s.toks + 1 }) :
    wpAny (model P w) A (call (.builtin "set.add") [.ref a, .str k u]) Q E s := by
  refine wpAny_call_entry F.slot_set_add ⟨_, ho, rfl⟩ F.entry_set_add ?_ (F.args_set_add_2 _ _)
  unfold Builtin.«set.add» Builtin.Frozenset.oneOther
  simp only [List.isEmpty_nil, bind_assoc]
  unfold Builtin.Frozenset.addrOf setAdd
  refine wpAny_bind (wpAny_pure (wpAny_bind (wpAny_pure (wpAny_bind (wpAny_holding (wpAny_bind (wpAny_pyHash_str ?_)))))))
  by_cases hk : k ∈ l
  · refine old_txt (s := { s with toks := s.toks + 1 }) ho y hk (by omega) ?_
    refine wpAny_pure ⟨_, rfl, hQ s.heap D (Heap.SameBut.refl a s.heap) ho ?_⟩
    unfold insT
    rw [if_pos hk]
    exact y
  · refine PySem.Froz.add_x (s := { s with toks := s.toks + 1 }) ho y.ok hk room ?_
    refine wpAny_pure ⟨_, rfl, hQ _ _ (Heap.SameBut.update s.heap a _) (PySem.Froz.get_upd _ ho rfl) ?_⟩
    unfold insT
    rw [if_neg hk]
    exact y.add
/-! sorted -/
theorem strs_tx : ∀ (vs : List Value), (∀ v ∈ vs, ∃ x t, v = Value.str x t) → StrsAre vs (vs.map txOf)
  | [], _ => .nil
  | v :: vs, h => by
    obtain ⟨x, t, rfl⟩ := h v List.mem_cons_self
    exact .cons x t (strs_tx vs fun z hz => h z (List.mem_cons_of_mem _ hz))
end
/-- the set of the texts l at a -/
def TxO (P : Program) (w : World) (a : Addr) (l : List Str) : HO := .ext fun h => ∃ D, h.get? a = some (sObj "set" D) ∧ Pay P w D l
theorem txO_new {P : Program} {w : World} {H : Hp} {h : Heap} {a : Addr} {D : SD} {l : List Str} (ho : h.get? a = some (sObj "set" D)) (y : Pay P w D l) : ObjOk P w H h a (TxO P w a l) :=
  ⟨⟨D, ho, y⟩, ⟨_, ho⟩, fun h1 h2 p k => let ⟨D, z, y⟩ := p; ⟨D, k _ z, y⟩⟩
section
variable {X : L2.Cx}
theorem txO_get {pins : List (Addr × Obj)} {σ : L2.St} {H : Hp} {s : Shared} {a : Addr} {l : List Str} (I : Inv X pins σ H s) (ha : H a = some (TxO X.prog X.w a l)) : ∃ D, s.heap.get? a = some (sObj "set" D) ∧ Pay X.prog X.w D l := (I.hok a _ ha).1
theorem txO_add {pins : List (Addr × Obj)} {σ : L2.St} {H : Hp} {s : Shared} {E : Value → Shared → Prop} {a : Addr} {l : List Str} {k : Str} {u : Tok} {Q : Value → Shared → Prop} (I : Inv X pins σ H s) (ha : H a = some (TxO X.prog X.w a l)) (room : l.length + 1 < scanBound)
    (h : ∀ s', Inv X pins σ (upd H a (TxO X.prog X.w a (insT k l))) s' → Q .none s') : wpAny (model X.prog X.w) X.A (call (.builtin "set.add") [.ref a, .str k u]) Q E s := by
  obtain ⟨D, ho, y⟩ := txO_get I ha
  refine txt_add ho y room fun h' D' sb ho' y' => ?_
  exact h _ (I.write (e := a) (t' := s.toks + 1) (by rw [ha]; trivial) (.inl rfl) (fun b u hb hu => (sb.2 b hb).trans hu) ⟨_, ho'⟩ (txO_new ho' y'))
/-- sorted(a) -/
theorem cr_sortedT (hcalm : X.calm = true) : CallR X (.builtin "sorted") (fun xs H Q => ∃ (a : Addr) (l : List Str), xs = [.ref a] ∧ H a = some (TxO X.prog X.w a l) ∧ l.length < 64 ∧ ∀ ys p, ys.Perm l → sortedS ys = true → H p = none → Q (.ref p) (upd H p (.lst (ys.map V.str)))) := by
  intro pins s σ H xs us Q I r q
  obtain ⟨a, l, ex, ha, h64, q⟩ := q
  subst ex
  obtain ⟨u, eu, rx⟩ := vals1 r
  subst eu
  cases rx
  obtain ⟨⟨es, ep, t⟩, ho, y⟩ := txO_get I ha
  have siz : es.size = l.length := y.ok.sz
  have few : es.size < scanBound := by rw [siz]; exact Nat.lt_of_lt_of_le h64 (by decide)
  refine Calls.call_function_entry kind_sorted plain_sorted entry_sorted (args_sorted1 _) ?_
  unfold Builtin.«sorted»
  refine wpAny_bind (m := checkCount "sorted" 1 1 _) (wpAny_pure (wpAny_bind (collect_set (A := X.A.in1) (I.ok.hd hcalm) ⟨_, ho, rfl, rfl⟩ y.ok.fit few y.ris y.led fun s1 vs k1 z1 g1 o1 pm => ?_)))
  have lvs : vs.length = l.length := by rw [pm.length_eq, List.length_map, Array.length_toList, siz]
  have sv : StrsAre vs (vs.map txOf) := strs_tx vs fun v hv => by
    obtain ⟨e, he, q⟩ := List.mem_map.mp (pm.mem_iff.mp hv)
    obtain ⟨⟨k, hk, _⟩, _⟩ := y.ok.el e he
    obtain ⟨t, ev⟩ := Value.isStrOf_shape (x := k) (v := e.2) hk
    exact ⟨k, t, by rw [← q]; exact ev⟩
  have pv : (vs.map txOf).Perm l := by
    have z := pm.map txOf
    rw [List.map_map] at z
    exact z.trans y.pm
  have I1 : Inv X pins σ H s1 := I.call' (ch := []) o1 (Un.kept k1) (I.hok.kept k1) (by rw [g1]; exact I.bare) (fun _ z => nomatch z)
  refine wpAny_bind (wpAny_newList ?_ (by rw [lvs, sizeLine_eq]; omega))
  have hoL : (s1.heap.push (seqObj "list" vs.toArray 0)).get? s1.heap.objs.size = some (seqObj "list" vs.toArray 0) := Heap.get?_push_size _ rfl
  refine wpAny_bind (wpAny_holding (wpAny_call_entry slot_list_sort ⟨_, hoL, rfl⟩ entry_list_sort
    (list_sort_treeK strKind_oneLt hoL sv.keysOf (fun v₁ v₂ rest e => keyKind_strs (by rw [← e]; exact sv)) (by rw [lvs]; exact h64) fun st' hp hs => ⟨_, rfl, ?_⟩) (args_list_sort _)))
  obtain ⟨ys, b1, b2, b3⟩ := sorted_out_str sv hp hs
  obtain ⟨e', he'⟩ := sortedHeap_at (vs := vs) (out := (arrOf st').map (·.2)) hoL
  have b2' : ys.Perm l := b2.trans pv
  have hlen : (ys.map V.str).length ≤ sizeLine := by rw [List.length_map, b2'.length_eq, sizeLine_eq]; omega
  refine wpAny_pure ⟨_, rfl, .ref s1.heap.objs.size, upd H s1.heap.objs.size (.lst (ys.map V.str)), I1.laid (t' := s1.toks) (fun b u e => ?_) (Nat.le_refl _)
    (show ObjOk X.prog X.w _ _ _ (.lst (ys.map V.str)) from ⟨hlen, ((arrOf st').map (·.2)).toList, e', vals_of_strs b1, by rw [Array.toArray_toList]; exact he'⟩), rfl, q ys _ b2' b3 (I1.hok.fresh (Nat.le_refl _))⟩
  have hb := Heap.lt_size e
  rw [sortedHeap_old (Nat.ne_of_lt hb) (by rw [size_push']; exact Nat.lt_succ_of_lt hb)]
  exact Heap.get?_push_of_some _ e
end
end DL

set_option maxHeartbeats 2000000
/-! A set comprehension with two fors. -/
namespace DL
open PySem PySem.Spec PyProof.Rows L2 RT
section
variable {t1 t2 i1 i2 elt : Expr} {scope : Scope} {pos : Pos}
theorem turnS_in (it acc : Value) (env : Env) : compTurn (.SetComp elt [⟨t1, i1, [], 0⟩, ⟨t2, i2, [], 0⟩] scope pos) 1 it acc env = (do
    standAt i2.pos
    match ← pyNext it with
    | none => pure (.done .next)
    | some v =>
      letOwnedTupleGo t2 it v
      assign t2 env v
      let mut ok := true
      for c in ([] : List Expr) do
        if ok then ok ← isTrue c env (eval c env)
      if ok then
        (do let v ← eval elt env; standAt elt.pos; let _ ← call (.builtin "set.add") [acc, v])
      again (.compLoop (.SetComp elt [⟨t1, i1, [], 0⟩, ⟨t2, i2, [], 0⟩] scope pos) 1 it acc env)) := by rfl
theorem turnS_out (it acc : Value) (env : Env) : compTurn (.SetComp elt [⟨t1, i1, [], 0⟩, ⟨t2, i2, [], 0⟩] scope pos) 0 it acc env = (do
    standAt i1.pos
    match ← pyNext it with
    | none => pure (.done .next)
    | some v =>
      letOwnedTupleGo t1 it v
      assign t1 env v
      let mut ok := true
      for c in ([] : List Expr) do
        if ok then ok ← isTrue c env (eval c env)
      if ok then
        let x ← eval i2 env
        standAt i2.pos
        let x ← foldedSetIterable i2 env x
        let _ ← runOwn (.compStart (.SetComp elt [⟨t1, i1, [], 0⟩, ⟨t2, i2, [], 0⟩] scope pos) 1 (← holding [x] (pyIter x)) acc env) env
      again (.compLoop (.SetComp elt [⟨t1, i1, [], 0⟩, ⟨t2, i2, [], 0⟩] scope pos) 0 it acc env)) := by rfl
theorem startS_in {prog : Program} {w : World} {A : Around} {env : Env} {s : Shared} {R : Result → Shared → Prop} {it acc : Value}
    (h0 : codeAny (model prog w) A (.compLoop (.SetComp elt [⟨t1, i1, [], 0⟩, ⟨t2, i2, [], 0⟩] scope pos) 1 it acc env) R s)
    (h : wpAny (model prog w) A (pyIter it) (fun it' s' => codeAny (model prog w) A (.compLoop (.SetComp elt [⟨t1, i1, [], 0⟩, ⟨t2, i2, [], 0⟩] scope pos) 1 it' acc env) R s') (notedBy (model prog w) A env fun x s' => R (.error x) s') s) :
    codeAny (model prog w) A (.compStart (.SetComp elt [⟨t1, i1, [], 0⟩, ⟨t2, i2, [], 0⟩] scope pos) 1 it acc env) R s := by
  refine codeAny_of_tree ?_
  show wpAny _ A ((compStart (.SetComp elt [⟨t1, i1, [], 0⟩, ⟨t2, i2, [], 0⟩] scope pos) 1 it acc env).onRaise (fun x => do noteFrame x env; standAt theWindowsPlace)) _ _ s
  refine wpAny_notedAt ?_
  unfold compStart
  show wpAny _ A (ask >>= _) _ _ s
  refine wpAny_bind (wpAny_askSetting (wpAny_ite ?_))
  split
  · first
      | exact wpAny_bind (wpAny_pure (wpAny_pure (And.intro rfl h0)))
      | exact wpAny_pure (And.intro rfl h0)
  · first
      | exact wpAny_bind (wpAny_rule (wpAny_bind (wpAny_standAt (wpAny_bind (wpAny_mono h (fun it' s' h' => wpAny_pure (And.intro rfl h')) fun _ _ x => x)))))
      | (refine wpAny_bind (wpAny_rule ?_); show wpAny _ _ (standAt i2.pos >>= _) _ _ s; exact wpAny_bind (wpAny_standAt (wpAny_bind (wpAny_mono h (fun it' s' h' => wpAny_pure (And.intro rfl h')) fun _ _ x => x))))
/-- the inner loop -/
theorem set2_in {Y : L2.Cx} {pins : List (Addr × Obj)} {s : Shared} {τ : L2.St} {H : Hp} {R : Result → Shared → Prop} {g2 : TG} {te : TE} {it D : Addr} {fp : List Addr} {tn : Nat → Heap → Prop} {J : It} {Nx : L2.St → Hp → Prop} {W : Nat → Nat → L2.St → Hp → Prop} {m0 : Nat}
    (hc : Y.calm = true) (xe : Y.xe = fun _ _ => False) (hg : PG Y t2 g2) (he : PE Y elt te) (I : Inv Y pins τ H s) (T : Turn Y.prog Y.w Y.K t2 J fp it tn) (st : tn 0 s.heap) (f2 : ∀ b ∈ fp, FpOk Y pins H b) (w0 : W 0 m0 τ H)
    (turn : ∀ i m τ3 H4, W i m τ3 H4 → (J.stop i H4 ∧ Nx τ3 H4) ∨ (J.go i H4 ∧ ∃ N : L2.St → Hp → Prop, (∀ τ' H', N τ' H' → ∃ m', m' < m ∧ W (i + 1) m' τ' H') ∧ ∀ y H5, J.yld i H4 y H5 → g2 y τ3 H5 fun τ4 H6 =>
      te τ4 H6 fun z H7 => ∃ (k : Str) (l : List Str), z = .str k ∧ H7 D = some (TxO Y.prog Y.w D l) ∧ l.length + 1 < scanBound ∧ N τ4 (upd H7 D (TxO Y.prog Y.w D (insT k l)))))
    (fin : ∀ s' τ' H', Inv Y pins τ' H' s' → Nx τ' H' → R (.ok .next) s') :
    codeAny (model Y.prog Y.w) Y.A (.compLoop (.SetComp elt [⟨t1, i1, [], 0⟩, ⟨t2, i2, [], 0⟩] scope pos) 1 (.ref it) (.ref D) Y.env) R s := by
  have stat : ∀ {H' : Hp}, (∀ b ∈ fp, H' b = none) → ∀ b ∈ fp, FpOk Y pins H' b := fun hn b hb => ⟨hn b hb, (f2 b hb).2⟩
  refine codeAny_loop rfl (fun n s' => ∃ i τ' H', Inv Y pins τ' H' s' ∧ tn i s'.heap ∧ (∀ b ∈ fp, H' b = none) ∧ W i n τ' H') ?_ m0 ⟨0, τ, H, I, st, fun b hb => (f2 b hb).1, w0⟩
  rintro n s3 ⟨i, τ3, H3, I3, st3, fr3, w3⟩
  show wpAny _ _ ((compTurn (.SetComp elt [⟨t1, i1, [], 0⟩, ⟨t2, i2, [], 0⟩] scope pos) 1 (.ref it) (.ref D) Y.env).onRaise (fun x => do noteFrame x Y.env; theTreesLotGoes x)) _ _ s3
  refine wpAny_noted ?_
  rw [turnS_in]
  refine wpAny_bind (wpAny_standAt ?_)
  rcases turn i n τ3 H3 w3 with ⟨stop, qn⟩ | ⟨go, N, hN, step⟩
  · refine wpAny_bind (thnF (T.done Y rfl rfl rfl hc i pins s3 τ3 H3 (fun _ _ => False) I3 (stat fr3) st3 stop) fun r s4 ⟨hr, I4⟩ => ?_)
    subst hr
    exact wpAny_pure (fin s4 τ3 H3 I4 qn)
  · refine wpAny_bind (thnF (T.item Y rfl rfl rfl hc i pins s3 τ3 H3 (fun _ _ => False) I3 (stat fr3) st3 go) fun r s4 ⟨u, hr, h4⟩ => ?_)
    subst hr
    refine wpAny_bind (thnF h4 fun _ s5 ⟨x, H5, I5, r5, y5, st5, fr5⟩ => ?_)
    have I5' := I5.pinned (stat fr5) (T.obj _ _ st5)
    have hg' := hg.run _ s5 τ3 H5 x u _ I5' r5 (step x H5 y5)
    rw [xe] at hg'
    refine wpAny_bind (thnF hg' fun _ s6 ⟨τ6, H6, I6, q6⟩ => ?_)
    refine wpAny_bind (m := forIn [] true _) (wpAny_pure ?_)
    rw [if_pos rfl]
    have he' := he.run _ s6 τ6 H6 _ I6 q6
    rw [xe] at he'
    refine wpAny_bind (wpAny_bind (thnF he' fun z s7 ⟨yv, H7, I7, r7, k, l, ez, hD, room, nx⟩ => ?_))
    subst ez
    obtain ⟨tk, rfl⟩ := r7
    refine wpAny_bind (wpAny_standAt (wpAny_bind (txO_add I7 hD room fun s8 I8 => ?_)))
    refine wpAny_pure (wpAny_pure ⟨rfl, ?_⟩)
    obtain ⟨m', hm, w8⟩ := hN _ _ nx
    have pin' : ∀ b ∈ fp, ∀ o, s5.heap.get? b = some o → s8.heap.get? b = some o ∧ upd H7 D (TxO Y.prog Y.w D (insT k l)) b = none := fun b hb o e =>
      let z := I8.pin (b, o) (List.mem_append_right _ (List.mem_append_right _ (mem_pinsAt hb e)))
      ⟨z.1, z.2.1⟩
    refine ⟨m', hm, i + 1, τ6, _, I8.unpinned, T.keep _ _ _ st5 fun b hb o e => (pin' b hb o e).1, fun b hb => ?_, w8⟩
    obtain ⟨o, e, _⟩ := T.obj _ _ st5 b hb
    exact (pin' b hb o e).2
/-- {elt for t1 in i1 for t2 in i2}, elt a text: D the new set -/
def tSc2 (P : Program) (w : World) (wi : TI) (g1 : TG) (wi2 : TI) (g2 : TG) (te : TE) (vs : List Nat) : TE := fun σ H Q => wi σ H fun J H1 => ∀ D, H1 D = none → ∃ W : Nat → Nat → L2.St → Hp → Prop, (∃ m, W 0 m (L2.wipe σ vs) (upd H1 D (TxO P w D []))) ∧ ∀ i m τ H, W i m τ H →
  (J.stop i H ∧ Q (.ref D) H) ∨ (J.go i H ∧ ∃ Nx : L2.St → Hp → Prop, (∀ τ' H', Nx τ' H' → ∃ m', m' < m ∧ W (i + 1) m' τ' H') ∧ ∀ x H', J.yld i H x H' → g1 x τ H' fun τ2 H2 => wi2 τ2 H2 fun J2 H3 =>
    ∃ W2 : Nat → Nat → L2.St → Hp → Prop, (∃ m2, W2 0 m2 τ2 H3) ∧ ∀ i2 m2 τ3 H4, W2 i2 m2 τ3 H4 → (J2.stop i2 H4 ∧ Nx τ3 H4) ∨ (J2.go i2 H4 ∧ ∃ N2 : L2.St → Hp → Prop, (∀ τ' H', N2 τ' H' → ∃ m', m' < m2 ∧ W2 (i2 + 1) m' τ' H') ∧ ∀ y H5, J2.yld i2 H4 y H5 → g2 y τ3 H5 fun τ4 H6 =>
      te τ4 H6 fun z H7 => ∃ (k : Str) (l : List Str), z = .str k ∧ H7 D = some (TxO P w D l) ∧ l.length + 1 < scanBound ∧ N2 τ4 (upd H7 D (TxO P w D (insT k l)))))
variable {X : L2.Cx}
theorem pe_sc2 {own : List (Str × Nat)} {wi wi2 : TI} {g1 g2 : TG} {te : TE} (hc : X.calm = true) (hN : X.N.Nodup) (hi : PI X t1 i1 wi) (ok : BlkOk X.N X.env.scope scope own)
    (hg1 : ∀ (s : Shared) (H : Hp) (C : Addr) (cl : List (Str × Addr)) (fp : List Addr), PG (X.blk s H scope (compEnvC scope cl C X.env) fp) t1 g1) (hi2 : ∀ (s : Shared) (H : Hp) (C : Addr) (cl : List (Str × Addr)) (fp : List Addr), PI (X.blk s H scope (compEnvC scope cl C X.env) fp) t2 i2 wi2)
    (hg2 : ∀ (s : Shared) (H : Hp) (C : Addr) (cl : List (Str × Addr)) (fp : List Addr), PG (X.blk s H scope (compEnvC scope cl C X.env) fp) t2 g2) (he : ∀ (s : Shared) (H : Hp) (C : Addr) (cl : List (Str × Addr)) (fp : List Addr), PE (X.blk s H scope (compEnvC scope cl C X.env) fp) elt te)
    (hs : ∀ x, foldedSetIterable i1 X.env x = pure x := by intro _; rfl) (hs2 : ∀ env x, foldedSetIterable i2 env x = pure x := by intro _ _; rfl) : PE X (.SetComp elt [⟨t1, i1, [], 0⟩, ⟨t2, i2, [], 0⟩] scope pos) (tSc2 X.prog X.w wi g1 wi2 g2 te (own.map (·.2))) := by
  refine ⟨fun pins s σ H Q I h => ?_⟩
  rw [PpSet.eval_SetComp]
  have free : ∀ y ∈ scope.names, y.2 = .free → ∃ c, X.env.cells.lookup y.1 = some c := fun y hy e =>
    (ok.free y hy e).elim (fun k => I.ok.has _ (.inl k)) fun k => I.ok.has _ (.inr k)
  refine wpAny_comprehension_free (use := none) rfl hs (closure_ok free) ok.kind (fun y hy e => (ok.uniq y hy).trans (by rw [e]))
    (thn (hi.run pins s σ H _ I h) fun xv s1 hx => thn hx fun itv s2 h2 => ?_)
  obtain ⟨it, fp, tn, J, H2, e, I2, T, st2, f2, q⟩ := h2
  subst e
  refine PpSet.newSet_ok (newEnv_comp ?_)
  generalize hD : s2.heap.objs.size = D
  obtain ⟨W, ⟨m0, w0⟩, turn⟩ := q D (I2.hok.fresh (Nat.le_of_eq hD))
  generalize hT0 : (!X.w.params.followText "set-order") = led0
  generalize hS3 : ({ s2 with heap := s2.heap.push { cls := .type "set", dict := none, data := .set #[] 0 (.fresh 0 0 led0) } } : Shared) = s3
  have hh3 : s3.heap = s2.heap.push { cls := .type "set", dict := none, data := .set #[] 0 (.fresh 0 0 led0) } := by rw [← hS3]
  have I3 : Inv X pins σ (upd H2 D (TxO X.prog X.w D [])) s3 := by
    rw [← hS3]
    refine I2.laid (t' := s2.toks) (fun b o e => Heap.get?_push_of_some _ e) (Nat.le_of_eq hD) ?_
    refine txO_new (D := (#[], 0, .fresh 0 0 led0)) ?_ ?_
    · rw [← hD]; exact Heap.get?_push_size _ rfl
    · rw [← hT0]; exact pay_new
  have under : ∀ b ∈ fp, b < s2.heap.objs.size := fun b hb => by
    obtain ⟨o, e, _⟩ := T.obj _ _ st2 b hb
    exact Heap.lt_size e
  have f3 : ∀ b ∈ fp, FpOk X pins (upd H2 D (TxO X.prog X.w D [])) b ∧ b < s3.heap.objs.size := fun b hb => by
    have lt := under b hb
    refine ⟨⟨?_, (f2 b hb).2⟩, by rw [hh3, Heap.size_push]; exact Nat.lt_succ_of_lt lt⟩
    rw [upd_ne (Nat.ne_of_lt (hD ▸ lt))]
    exact (f2 b hb).1
  have st3 : tn 0 s3.heap := T.keep _ _ _ st2 fun b _ o e => by rw [hh3]; exact Heap.get?_push_of_some _ e
  have I4 := block_start I3 ok hN f3
  have p1 := hg1 s3 (upd H2 D (TxO X.prog X.w D [])) s3.heap.objs.size (cellsFrom (s3.heap.objs.size + 1) scope.names (cloFrom X.env.cells scope.names [])) fp
  have p2 := hi2 s3 (upd H2 D (TxO X.prog X.w D [])) s3.heap.objs.size (cellsFrom (s3.heap.objs.size + 1) scope.names (cloFrom X.env.cells scope.names [])) fp
  have p3 := hg2 s3 (upd H2 D (TxO X.prog X.w D [])) s3.heap.objs.size (cellsFrom (s3.heap.objs.size + 1) scope.names (cloFrom X.env.cells scope.names [])) fp
  have p4 := he s3 (upd H2 D (TxO X.prog X.w D [])) s3.heap.objs.size (cellsFrom (s3.heap.objs.size + 1) scope.names (cloFrom X.env.cells scope.names [])) fp
  show codeAny _ _ (.compStart (.SetComp elt [⟨t1, i1, [], 0⟩, ⟨t2, i2, [], 0⟩] scope pos) 0 (.ref it) (.ref D) (compEnvC scope (cellsFrom (s3.heap.objs.size + 1) scope.names (cloFrom X.env.cells scope.names [])) s3.heap.objs.size X.env)) (compPost (model X.prog X.w) X.A X.xe none (EP X pins σ Q) (.ref D) s3.heap.objs.size) { s3 with heap := pushCells (s3.heap.push { cls := .type "dict", data := .dict #[] }) scope.names }
  have nfp : ∀ b ∈ fp, (upd H2 D (TxO X.prog X.w D [])) b = none := fun b hb => (f3 b hb).1.1
  generalize hce : compEnvC scope (cellsFrom (s3.heap.objs.size + 1) scope.names (cloFrom X.env.cells scope.names [])) s3.heap.objs.size X.env = ce at I4 p1 p2 p3 p4 ⊢
  have cL : ce.locals = s3.heap.objs.size := by subst hce; rfl
  generalize hH3 : upd H2 D (TxO X.prog X.w D []) = H3 at I3 I4 p1 p2 p3 p4 w0 nfp f3
  generalize hs4 : ({ s3 with heap := pushCells (s3.heap.push { cls := .type "dict", data := .dict #[] }) scope.names } : Shared) = s4 at I4 ⊢
  have st4 : tn 0 s4.heap := T.keep _ _ _ st3 fun b _ o e => by rw [← hs4]; exact pushCells_keeps _ _ _ _ (Heap.get?_push_of_some _ e)
  have stat : ∀ {τ' : L2.St} {H' : Hp} {s' : Shared}, Inv (X.blk s3 H3 scope ce fp) [] τ' H' s' → (∀ b ∈ fp, H' b = none) → ∀ b ∈ fp, FpOk (X.blk s3 H3 scope ce fp) [] H' b := fun {τ' H' s'} I' hn b hb =>
    ⟨hn b hb, (I'.ok.exf b hb).1, I'.ok.exfs b hb, .inl hb, fun x c e => (I'.ok.exf b hb).2 x c e, fun p hp => absurd (show p ∈ ([] : List (Addr × Obj)) ++ [] from hp) (by simp)⟩
  have loop : codeAny (model X.prog X.w) X.A (.compLoop (.SetComp elt [⟨t1, i1, [], 0⟩, ⟨t2, i2, [], 0⟩] scope pos) 0 (.ref it) (.ref D) ce) (compPost (model X.prog X.w) X.A X.xe none (EP X pins σ Q) (.ref D) s3.heap.objs.size) s4 := by
    refine codeAny_loop rfl (fun n s' => ∃ i τ' H', Inv (X.blk s3 H3 scope ce fp) [] τ' H' s' ∧ tn i s'.heap ∧ (∀ b ∈ fp, H' b = none) ∧ W i n τ' H') ?_ m0 ⟨0, _, H3, I4, st4, nfp, w0⟩
    rintro n s5 ⟨i, τ5, H5, I5, st5, n5, w5⟩
    show wpAny _ _ ((compTurn (.SetComp elt [⟨t1, i1, [], 0⟩, ⟨t2, i2, [], 0⟩] scope pos) 0 (.ref it) (.ref D) ce).onRaise (fun x => do noteFrame x ce; theTreesLotGoes x)) _ _ s5
    refine wpAny_noted ?_
    rw [turnS_out]
    refine wpAny_bind (wpAny_standAt ?_)
    rcases turn i n τ5 H5 w5 with ⟨stop, qq⟩ | ⟨go, Nx, hNx, step⟩
    · refine wpAny_bind (thnF (T.done (X.blk s3 H3 scope ce fp) rfl rfl rfl hc i [] s5 τ5 H5 (fun _ _ => False) I5 (stat I5 n5) st5 stop) fun r s6 ⟨hr, I6⟩ => ?_)
      subst hr
      have I7 : Inv X pins σ H5 s6 := I3.call' (ch := fp) I6.os I6.base I6.hok I6.bare fun b hb => ⟨(f3 b hb).1.2.2.2.1, (f3 b hb).1.2.1, (f3 b hb).1.2.2.2.2.1, (f3 b hb).1.2.2.2.2.2⟩
      have nC : H5 s3.heap.objs.size = none := by
        have z : H5 ce.locals = none := I6.free
        rw [cL] at z
        exact z
      obtain ⟨m, hn, _⟩ := I6.loc
      have hn : s6.heap.Ns ce.locals m := hn
      rw [cL] at hn
      obtain ⟨k0, k1, k2, k3, k4, k5⟩ := I3.fpOk (Nat.le_refl _) nC
      refine wpAny_pure ⟨m, hn, fun h'' sb => ⟨.ref D, H5, ?_, rfl, qq⟩⟩
      exact I7.turned (t' := s6.toks) (fun b o hb e => (sb.2 b hb).trans e) k0 k1 k3 k4 k5
    · refine wpAny_bind (thnF (T.item (X.blk s3 H3 scope ce fp) rfl rfl rfl hc i [] s5 τ5 H5 (fun _ _ => False) I5 (stat I5 n5) st5 go) fun r s6 ⟨u, hr, h6⟩ => ?_)
      subst hr
      refine wpAny_bind (thnF h6 fun _ s7 ⟨x, H7, I7, r7, y7, st7, n7⟩ => ?_)
      have I7' := I7.pinned (stat I7 n7) (T.obj _ _ st7)
      refine wpAny_bind (thnF (p1.run _ s7 _ H7 x u _ I7' r7 (step x H7 y7)) fun _ s8 ⟨τ8, H8, I8, q8⟩ => ?_)
      refine wpAny_bind (m := forIn [] true _) (wpAny_pure ?_)
      rw [if_pos rfl]
      refine wpAny_bind (thnF (p2.run _ s8 τ8 H8 _ I8 q8) fun xv s9 h9 => ?_)
      refine wpAny_bind (wpAny_standAt (wpAny_bind (wpAny_of_eq (hs2 ce xv) ?_)))
      refine wpAny_bind (wpAny_holding (thnF h9 fun itv s10 h10 => ?_))
      obtain ⟨it2, fp2, tn2, J2, H10, e2, I10, T2, st10, f10, W2, ⟨m2, w2⟩, turn2⟩ := h10
      subst e2
      refine wpAny_bind (wpAny_runOwn ?_)
      have inner := set2_in (Y := X.blk s3 H3 scope ce fp) (scope := scope) (pos := pos) (t1 := t1) (i1 := i1) (i2 := i2) (D := D) (Nx := Nx) (R := fun r s' => match r with
            | .ok f => wpAny (model X.prog X.w) X.A (again (.compLoop (.SetComp elt [⟨t1, i1, [], 0⟩, ⟨t2, i2, [], 0⟩] scope pos) 0 (.ref it) (.ref D) ce)) (fun fin s' => match fin with
                | .done f => compPost (model X.prog X.w) X.A X.xe none (EP X pins σ Q) (.ref D) s3.heap.objs.size (.ok f) s'
                | .again c' => c' = .compLoop (.SetComp elt [⟨t1, i1, [], 0⟩, ⟨t2, i2, [], 0⟩] scope pos) 0 (.ref it) (.ref D) ce ∧ ∃ m, m < n ∧ ∃ i τ' H', Inv (X.blk s3 H3 scope ce fp) [] τ' H' s' ∧ tn i s'.heap ∧ (∀ b ∈ fp, H' b = none) ∧ W i m τ' H') (notedBy (model X.prog X.w) X.A ce fun e s' => compPost (model X.prog X.w) X.A X.xe none (EP X pins σ Q) (.ref D) s3.heap.objs.size (.error e) s') s'
            | .error e => cameBackBy (model X.prog X.w) X.A ce (notedBy (model X.prog X.w) X.A ce fun e s' => compPost (model X.prog X.w) X.A X.xe none (EP X pins σ Q) (.ref D) s3.heap.objs.size (.error e) s') e s') hc rfl p3 p4 I10 T2 st10 f10 w2 turn2 fun s' τ' H' I' nx => by
        obtain ⟨m', hm, w'⟩ := hNx τ' H' nx
        have pin' : ∀ b ∈ fp, ∀ o, s7.heap.get? b = some o → s'.heap.get? b = some o ∧ H' b = none := fun b hb o e =>
          let z := I'.pin (b, o) (List.mem_append_right _ (List.mem_append_right _ (mem_pinsAt hb e)))
          ⟨z.1, z.2.1⟩
        refine wpAny_pure ⟨rfl, m', hm, i + 1, τ', H', I'.unpinned (pins := []), T.keep _ _ _ st7 fun b hb o e => (pin' b hb o e).1, fun b hb => ?_, w'⟩
        obtain ⟨o, e, _⟩ := T.obj _ _ st7 b hb
        exact (pin' b hb o e).2
      exact startS_in inner (T2.self X.A 0 _ _ _ st10 inner)
  exact PpSet.codeAny_compStart_set loop (T.self X.A 0 _ _ _ st4 loop)
end
end DL

/-! sorted({elt for .. in .. for .. in ..}), elt a text, as a function over data. -/
namespace DL
open PySem PySem.Spec PyProof.Rows L2 RT
def addsL (T : Tg) (F : Rho → Res PyData) : List PyData → Rho → List Str → Option (List Str × Rho)
  | [], ρ, acc => some (acc, ρ)
  | d :: ds, ρ, acc => match T d ρ with
    | none => none
    | some ρ2 => match F ρ2 with
      | .ok (.str k) ρ3 => if acc.length < 63 then addsL T F ds (blkR ρ3) (insT k acc) else none
      | _ => none
def setL (T1 : Tg) (Fi : Rho → Res (List PyData)) (T2 : Tg) (F : Rho → Res PyData) : List PyData → Rho → List Str → Option (List Str)
  | [], _, acc => some acc
  | d :: ds, ρ, acc => match T1 d ρ with
    | none => none
    | some ρ2 => match Fi ρ2 with
      | .ok es ρ3 => match addsL T2 F es (blkR ρ3) acc with
        | some (acc2, ρ4) => setL T1 Fi T2 F ds ρ4 acc2
        | none => none
      | _ => none
def iX (m : KM) (Fi : Rho → Res (List PyData)) : TI := fun σ H R => ∃ B, iD m B (fun _ _ _ _ => False) Fi σ H R
section
variable {m : KM} {B : Bx} {G H : Hp} {σ : L2.St} {ρ : Rho}
theorem DEnv.anewU (E : DEnv m B G H σ ρ) (n : noOwn ρ) {D : Addr} {o : HO} (hd : ∀ vs, H D ≠ some (.dK vs)) (hG : G D = none) : DEnv m ⟨G, upd H D o⟩ G (upd H D o) σ (ρ.map roE) := by
  have gh' : Same G (upd H D o) := fun b u e => by
    rw [upd_ne (fun z => by rw [z, hG] at e; cases e)]
    exact E.base.gh _ _ e
  have no : ∀ (i : Nat) (xs : List PyData), (ρ.map roE)[i]? ≠ some (.own xs) := fun i xs h => by
    obtain ⟨e', h1, h2⟩ := ro_get h
    cases e' <;> first | (cases h2; done) | (cases h2; exact n i _ h1)
  have ne : ∀ {a : Addr} {vs : List (Key × V)}, H a = some (.dK vs) → a ≠ D := fun h z => hd _ (z ▸ h)
  refine ⟨Ext.refl gh', by rw [List.length_map]; exact E.len, fun i e h => ?_, fun i j a xs ys h => absurd h (no i xs), fun i j a kvs f h => ?_⟩
  · obtain ⟨e', h1, rfl⟩ := ro_get h
    have q := E.ent i e' h1
    generalize hs : σ[i]? = x at q
    cases q with
    | un => exact .un
    | d z => exact .d z
    | own z1 z2 z3 z4 => exact absurd h1 (n i _)
    | dct z1 z2 z3 z4 => exact .rdd ((upd_ne (ne z1)).trans z1) z4
    | rdd z1 z4 => exact .rdd ((upd_ne (ne z1)).trans z1) z4
  · obtain ⟨e', h1, h2⟩ := ro_get h
    cases e' <;> cases h2
end
section
variable {X : L2.Cx} {B : Bx} {W : WX} {pos : Pos} {vs : List Nat}
theorem pi_ex {tg e : Expr} {Fi : Rho → Res (List PyData)} (h : ∀ B, PI X tg e (iD (km X) B (fun _ _ _ _ => False) Fi)) : PI X tg e (iX (km X) Fi) := ⟨fun pins s σ H R I ⟨B, q⟩ => (h B).run pins s σ H R I q⟩
theorem scan_64 {n : Nat} (h : n < 63) : n + 1 < scanBound := Nat.lt_of_lt_of_le (show n + 1 < 64 by omega) (by decide)
theorem t_sc2 {Fi Fi2 : Rho → Res (List PyData)} {T1 T2 : Tg} {F : Rho → Res PyData} {σ : L2.St} {H G : Hp} {ρ : Rho} {Q : VK} (E : DEnv (km X) B G H σ ρ) (S : Sat (km X) B W G σ (Fi ρ) fun ds ρ1 => (∀ v ∈ vs, v < ρ1.length) ∧ ∃ r, setL T1 Fi2 T2 F ds (wipeR (blkR ρ1) vs) [] = some r ∧
      ∀ D G' H', DEnv (km X) B G' H' σ (frz ρ1) → Same G G' → H' D = some (TxO X.prog X.w D r) → G' D = none → Q (.ref D) H') :
    tSc2 X.prog X.w (iD (km X) B W Fi) (gW (km X) vs T1) (iX (km X) Fi2) (gW (km X) vs T2) (exE (km X) F) vs σ H Q := by
  refine ⟨G, ρ, E, S.imp fun ds ρ1 s1 J G1 H1 E1 g1 wk D hD => ?_⟩
  obtain ⟨hv, r, hr, q⟩ := s1
  obtain ⟨Gf, sf, Ef⟩ := E1.frz
  have no := frz_noOwn ρ1
  have x0 : Ext Gf H1 Gf (upd H1 D (TxO X.prog X.w D [])) := Ext.newOwn Ef.base.gh hD
  have hGf : Gf D = none := Ef.base.gh.free hD
  have E0 : DEnv (km X) ⟨Gf, upd H1 D (TxO X.prog X.w D [])⟩ Gf (upd H1 D (TxO X.prog X.w D [])) σ (blkR ρ1) := Ef.anew no (Same.refl _) x0.h x0.gh
  have E0w := (E0.wipe vs (by unfold blkR frz; rw [List.length_map, List.length_map]; exact hv)).1
  refine ⟨fun i m τ H => m = ds.length - i ∧ i ≤ ds.length ∧ ∃ G acc ρ', Ext Gf H1 G H ∧ H D = some (TxO X.prog X.w D acc) ∧ G D = none ∧ DEnv (km X) ⟨G, H⟩ G H τ ρ' ∧ setL T1 Fi2 T2 F (ds.drop i) ρ' acc = some r,
    ⟨_, rfl, Nat.zero_le _, Gf, [], _, x0, upd_same, hGf, E0w, hr⟩, ?_⟩
  rintro i m τ H2 ⟨rfl, hi, G2, acc, ρ', x2, hH, hG, E2, hc⟩
  by_cases hl : i < ds.length
  · have hd : ds[i]? = some ds[i] := List.getElem?_eq_getElem hl
    obtain ⟨w1, w2⟩ := wk.go i _ G2 H2 (sf.trans x2.g) x2.gh hd
    refine .inr ⟨w1, fun τ' H' => ∃ G acc ρ', Ext Gf H1 G H' ∧ H' D = some (TxO X.prog X.w D acc) ∧ G D = none ∧ DEnv (km X) ⟨G, H'⟩ G H' τ' ρ' ∧ setL T1 Fi2 T2 F (ds.drop (i + 1)) ρ' acc = some r, fun τ' H' n => ⟨ds.length - (i + 1), by omega, rfl, hl, n⟩, fun v H3 y => ?_⟩
    obtain ⟨G3, x3, dp⟩ := w2 v H3 y
    rw [List.drop_eq_getElem_cons hl] at hc
    unfold setL at hc
    cases hT : T1 ds[i] ρ' with
    | none => rw [hT] at hc; cases hc
    | some ρ2 =>
      rw [hT] at hc
      dsimp only at hc
      refine ⟨⟨G2, H2⟩, G3, ρ', ds[i], ρ2, E2.ext x3, dp, hT, fun τ2 E4 _ => ⟨⟨G2, H2⟩, G3, ρ2, E4, ?_⟩⟩
      cases hF2 : Fi2 ρ2 with
      | bad => rw [hF2] at hc; cases hc
      | ex x ρ3 => rw [hF2] at hc; cases hc
      | ok es ρ3 =>
        rw [hF2] at hc
        dsimp only at hc
        cases hA : addsL T2 F es (blkR ρ3) acc with
        | none => rw [hA] at hc; cases hc
        | some z =>
          obtain ⟨acc2, ρ4⟩ := z
          rw [hA] at hc
          dsimp only at hc
          intro J2 G5 H5 E5 g5 wk2
          obtain ⟨G6, sf6, Ef6⟩ := E5.frz
          have no6 := frz_noOwn ρ3
          have x6 : Ext G2 H2 G6 H5 := Ef6.base
          have hH6 : H5 D = some (TxO X.prog X.w D acc) := x6.h _ _ hH
          have hG6 : G6 D = none := x6.cap D (by rw [hH]; exact fun z => nomatch z) hG
          have E6 : DEnv (km X) ⟨G6, H5⟩ G6 H5 τ2 (blkR ρ3) := Ef6.anew no6 (Same.refl _) (Same.refl _) x6.gh
          refine ⟨fun i2 m2 τ H => m2 = es.length - i2 ∧ i2 ≤ es.length ∧ ∃ G a ρ', Ext Gf H1 G H ∧ Same G6 G ∧ H D = some (TxO X.prog X.w D a) ∧ G D = none ∧ DEnv (km X) ⟨G, H⟩ G H τ ρ' ∧ addsL T2 F (es.drop i2) ρ' a = some (acc2, ρ4),
            ⟨_, rfl, Nat.zero_le _, G6, acc, _, x2.trans x6, Same.refl _, hH6, hG6, E6, hA⟩, ?_⟩
          rintro j m2 τ5 H7 ⟨rfl, hj, G7, a7, ρ7, x7, s7, hH7, hG7, E7, hc7⟩
          by_cases hl2 : j < es.length
          · have hd2 : es[j]? = some es[j] := List.getElem?_eq_getElem hl2
            obtain ⟨w3, w4⟩ := wk2.go j _ G7 H7 (sf6.trans s7) x7.gh hd2
            refine .inr ⟨w3, fun τ' H' => ∃ G a ρ', Ext Gf H1 G H' ∧ Same G6 G ∧ H' D = some (TxO X.prog X.w D a) ∧ G D = none ∧ DEnv (km X) ⟨G, H'⟩ G H' τ' ρ' ∧ addsL T2 F (es.drop (j + 1)) ρ' a = some (acc2, ρ4), fun τ' H' n => ⟨es.length - (j + 1), by omega, rfl, hl2, n⟩, fun v2 H8 y2 => ?_⟩
            obtain ⟨G8, x8, dp8⟩ := w4 v2 H8 y2
            rw [List.drop_eq_getElem_cons hl2] at hc7
            unfold addsL at hc7
            cases hT2 : T2 es[j] ρ7 with
            | none => rw [hT2] at hc7; cases hc7
            | some ρ8 =>
              rw [hT2] at hc7
              dsimp only at hc7
              refine ⟨⟨G7, H7⟩, G8, ρ7, es[j], ρ8, E7.ext x8, dp8, hT2, fun τ8 E8 _ => ⟨⟨G7, H7⟩, G8, ρ8, E8, ?_⟩⟩
              cases hF : F ρ8 with
              | bad => rw [hF] at hc7; cases hc7
              | ex x ρ9 => rw [hF] at hc7; cases hc7
              | ok y ρ9 =>
                rw [hF] at hc7
                cases y <;> first | (cases hc7; done) | skip
                rename_i k
                dsimp only at hc7
                by_cases hlen : a7.length < 63
                · rw [if_pos hlen] at hc7
                  intro u G9 H9 E9 g9 dp9
                  cases dp9
                  obtain ⟨Gx, sx, Ex⟩ := E9.frz
                  have x9 : Ext G7 H7 Gx H9 := Ex.base
                  have hH9 : H9 D = some (TxO X.prog X.w D a7) := x9.h _ _ hH7
                  have hG9 : Gx D = none := x9.cap D (by rw [hH7]; exact fun z => nomatch z) hG7
                  have xx : Ext Gf H1 Gx H9 := x7.trans x9
                  refine ⟨k, a7, rfl, hH9, scan_64 hlen, Gx, insT k a7, _, ⟨xx.g, fun b o e => ?_, fun b o e => ?_, xx.cap⟩, s7.trans x9.g, upd_same, hG9, Ex.anewU (frz_noOwn ρ9) (fun vs z => by rw [hH9] at z; cases z) hG9, hc7⟩
                  · rw [upd_ne (ne_of_none e hD)]
                    exact xx.h _ _ e
                  · rw [upd_ne (ne_of_none e hG9)]
                    exact xx.gh _ _ e
                · rw [if_neg hlen] at hc7
                  cases hc7
          · have hj' : j = es.length := by omega
            subst hj'
            rw [List.drop_length] at hc7
            unfold addsL at hc7
            cases hc7
            exact .inl ⟨wk2.stop _ G7 H7 (sf6.trans s7) x7.gh rfl, G7, _, _, x7, hH7, hG7, E7, hc⟩
  · have hi' : i = ds.length := by omega
    subst hi'
    rw [List.drop_length] at hc
    unfold setL at hc
    cases hc
    exact .inl ⟨wk.stop _ G2 H2 (sf.trans x2.g) x2.gh rfl, q D G2 H2 (Ef.ext x2) (g1.trans (sf.trans x2.g)) hH hG⟩
theorem insT_few {k : Str} {l : List Str} {n : Nat} (h : l.length < n) : (insT k l).length ≤ n := Nat.le_trans (insT_len k l) h
theorem addsL_few {T : Tg} {F : Rho → Res PyData} : ∀ (ds : List PyData) (ρ : Rho) (acc : List Str) {r : List Str × Rho}, addsL T F ds ρ acc = some r → acc.length ≤ 63 → r.1.length ≤ 63
  | [], ρ, acc, r, h, hl => by
    unfold addsL at h
    cases h
    exact hl
  | d :: ds, ρ, acc, r, h, hl => by
    unfold addsL at h
    split at h
    · cases h
    · split at h
      · split at h
        · rename_i hh
          exact addsL_few ds _ _ h (insT_few hh)
        · cases h
      · cases h
theorem setL_few {T1 T2 : Tg} {Fi : Rho → Res (List PyData)} {F : Rho → Res PyData} : ∀ (ds : List PyData) (ρ : Rho) (acc : List Str) {r : List Str}, setL T1 Fi T2 F ds ρ acc = some r → acc.length ≤ 63 → r.length ≤ 63
  | [], ρ, acc, r, h, hl => by
    unfold setL at h
    cases h
    exact hl
  | d :: ds, ρ, acc, r, h, hl => by
    unfold setL at h
    split at h
    · cases h
    · split at h
      · split at h
        · rename_i hh
          exact setL_few ds _ _ h (addsL_few _ _ _ hh hl)
        · cases h
      · cases h
def sortSetF (vs : List Nat) (Fi : Rho → Res (List PyData)) (T1 : Tg) (Fi2 : Rho → Res (List PyData)) (T2 : Tg) (F : Rho → Res PyData) : Rho → Res PyData := fun ρ => (Fi ρ).bind fun ds ρ1 =>
  if (∀ v ∈ vs, v < ρ1.length) then (match setL T1 Fi2 T2 F ds (wipeR (blkR ρ1) vs) [] with
    | some r => .ok (.list ((sortS r).map PyData.str)) (frz ρ1)
    | none => .bad) else .bad
theorem pd_sortSet {elt t1 t2 i1 i2 : Expr} {scope : Scope} {p cpos : Pos} {own : List (Str × Nat)} {Fi Fi2 : Rho → Res (List PyData)} {T1 T2 : Tg} {F : Rho → Res PyData} (hc : X.calm = true) (hN : X.N.Nodup) (hm : X.mg "sorted" = none) (hi : PI X t1 i1 (iD (km X) B W Fi)) (ok : BlkOk X.N X.env.scope scope own)
    (hg1 : ∀ (s : Shared) (H : Hp) (C : Addr) (cl : List (Str × Addr)) (fp : List Addr), PG (X.blk s H scope (compEnvC scope cl C X.env) fp) t1 (gW (km X) (own.map (·.2)) T1))
    (hi2 : ∀ (s : Shared) (H : Hp) (C : Addr) (cl : List (Str × Addr)) (fp : List Addr) (B : Bx), PI (X.blk s H scope (compEnvC scope cl C X.env) fp) t2 i2 (iD (km X) B (fun _ _ _ _ => False) Fi2))
    (hg2 : ∀ (s : Shared) (H : Hp) (C : Addr) (cl : List (Str × Addr)) (fp : List Addr), PG (X.blk s H scope (compEnvC scope cl C X.env) fp) t2 (gW (km X) (own.map (·.2)) T2))
    (he : ∀ (s : Shared) (H : Hp) (C : Addr) (cl : List (Str × Addr)) (fp : List Addr) (B : Bx), PE (X.blk s H scope (compEnvC scope cl C X.env) fp) elt (tD (km X) B (fun _ _ _ _ => False) F))
    (hs : ∀ x, foldedSetIterable i1 X.env x = pure x := by intro _; rfl) (hs2 : ∀ env x, foldedSetIterable i2 env x = pure x := by intro _ _; rfl) (hg : Gl X "sorted" := by rfl)
    (hst : starEach [.SetComp elt [⟨t1, i1, [], 0⟩, ⟨t2, i2, [], 0⟩] scope cpos] X.env = (false, eval (.SetComp elt [⟨t1, i1, [], 0⟩, ⟨t2, i2, [], 0⟩] scope cpos) X.env) :: starEach [] X.env := by rfl) (hpl : (backTo pos (starEach [] X.env)).any (·.1) = false := by rfl) :
    PE X (.Call (.Name "sorted" p) [.SetComp elt [⟨t1, i1, [], 0⟩, ⟨t2, i2, [], 0⟩] scope cpos] [] pos) (tD (km X) B W (sortSetF (own.map (·.2)) Fi T1 Fi2 T2 F)) := by
  have z := pe_sc2 (pos := cpos) (wi2 := iX (km X) Fi2) (te := exE (km X) F) hc hN hi ok hg1 (fun s H C cl fp => pi_ex (X := X.blk s H scope (compEnvC scope cl C X.env) fp) (hi2 s H C cl fp)) hg2 (fun s H C cl fp => pe_ex (X := X.blk s H scope (compEnvC scope cl C X.env) fp) (he s H C cl fp)) hs hs2
  refine (pe_callB (cr_sortedT hc) hg hm (by decide +kernel) (pa_cons z pa_nil hst) (by decide) (by decide) hst hpl).of ?_
  rintro σ H Q ⟨G, ρ, E, S⟩
  unfold tCB tCons
  refine t_sc2 E ((Sat.bind S).imp fun ds ρ1 s1 => ?_)
  by_cases hv : ∀ v ∈ own.map (·.2), v < ρ1.length
  · rw [if_pos hv] at s1
    refine ⟨hv, ?_⟩
    cases hr : setL T1 Fi2 T2 F ds (wipeR (blkR ρ1) (own.map (·.2))) [] with
    | none => rw [hr] at s1; exact s1.elim
    | some r =>
      rw [hr] at s1
      refine ⟨r, rfl, fun D G' H' E' g' hH hG => ⟨D, r, rfl, hH, by have := setL_few _ _ _ hr (by decide); omega, fun ys p hp hsd hn => ?_⟩⟩
      rw [sortedS_eq hp hsd]
      have x := Ext.new (o := .lst ((sortS r).map V.str)) E'.base.gh hn
      exact s1 _ _ _ (E'.ext x) (g'.trans x.g) (.lst (SqL.of upd_same) (dp_strs _))
  · rw [if_neg hv] at s1
    exact s1.elim
end
end DL

/-! x in L, x not in L, L a list of the frame's own, which stays its own. -/
namespace DL
open PySem PySem.Spec PyProof.Rows L2 RT
section
variable {X : L2.Cx} {B : Bx} {W : WX} {e : Expr} {pos : Pos} {F : Rho → Res PyData}
noncomputable def inO (neg : Bool) (i : Nat) (F : Rho → Res PyData) : Rho → Res PyData := fun ρ => (F ρ).bind fun k ρ => match ρ[i]? with
  | some (.own xs) => if SeqAt.shaped k = true ∧ SeqAt.shaped (.list xs) = true then .ok (.bool (neg != xs.any fun z => PyData.eqv z k)) ρ else .bad
  | _ => .bad
@[simp] theorem inO_apc {neg : Bool} {i : Nat} {e0 : Ent} {ρ : Rho} : inO neg i F (e0 :: ρ) = (F (e0 :: ρ)).bind fun k ρ => match ρ[i]? with
  | some (.own xs) => if SeqAt.shaped k = true ∧ SeqAt.shaped (.list xs) = true then .ok (.bool (neg != xs.any fun z => PyData.eqv z k)) ρ else .bad
  | _ => .bad := by unfold inO; exact id rfl
theorem inO_run {neg : Bool} {i : Nat} {σ : L2.St} {H : Hp} {Q : VK} (h : tD (km X) B W (inO neg i F) σ H Q) : tD (km X) B W F σ H fun y H1 => ∃ v k xs, σ[i]? = some (some v) ∧ Dp X.K H1 y k ∧ Dp X.K H1 v (.list xs) ∧ SeqAt.shaped k = true ∧ SeqAt.shaped (.list xs) = true ∧ Q (.bl (neg != xs.any fun z => PyData.eqv z k)) H1 := by
  obtain ⟨G, ρ, E, S⟩ := h
  refine ⟨G, ρ, E, (Sat.bind S).imp fun k ρ1 s1 y G1 H1 E1 g1 dp1 => ?_⟩
  split at s1
  · rename_i xs e1
    by_cases hs : SeqAt.shaped k = true ∧ SeqAt.shaped (.list xs) = true
    · rw [if_pos hs] at s1
      have q := E1.ent i _ e1
      generalize hσ : σ[i]? = o at q
      cases q with
      | own k1 k2 k3 k4 =>
        have gh := E1.base.gh
        exact ⟨_, k, xs, rfl, (dp_same gh _ _ dp1).p, (show Dq X.K H1 _ (.list xs) from .lst (SqL.of k1) (dpAll_same gh _ _ k4)).p, hs.1, hs.2, s1 _ G1 H1 E1 g1 (.bl _)⟩
    · rw [if_neg hs] at s1
      exact s1.elim
  · exact s1.elim
theorem pd_inO (i : Nat) {x : Str} {px : Pos} (hu : X.A.units + 65 < cLine) (ha : PE X e (tD (km X) B W F)) (hN : X.N[i]? = some x := by rfl) (hvs : Vis X.env.scope x := by first | exact Or.inl rfl | exact Or.inr (Or.inl rfl) | exact Or.inr (Or.inr rfl)) (hd : (x == ("__debug__" : Str)) = false := by decide)
    (hcd : (x == ("__classdict__" : Str)) = false := by decide) (hm : behindInMarks .In (.Name x px) = false := by rfl) : PE X (.Compare e [.In] [.Name x px] pos) (tD (km X) B W (inO false i F)) := by
  refine (pe_cmpR (op_in3 hu) ha (pe_var hN hvs hd hcd) hm).of ?_
  intro σ H Q h
  obtain ⟨G, ρ, E, S⟩ := inO_run h
  refine ⟨G, ρ, E, S.imp fun k ρ1 s1 y G1 H1 E1 g1 dp1 => ?_⟩
  obtain ⟨v, k2, xs, e1, d1, d2, h1, h2, q⟩ := s1 y G1 H1 E1 g1 dp1
  exact ⟨v, e1, .inl ⟨k2, xs, d1, d2, h1, h2, by simpa using q⟩⟩
theorem pd_notInO (i : Nat) {x : Str} {px : Pos} (hu : X.A.units + 65 < cLine) (ha : PE X e (tD (km X) B W F)) (hN : X.N[i]? = some x := by rfl) (hvs : Vis X.env.scope x := by first | exact Or.inl rfl | exact Or.inr (Or.inl rfl) | exact Or.inr (Or.inr rfl)) (hd : (x == ("__debug__" : Str)) = false := by decide)
    (hcd : (x == ("__classdict__" : Str)) = false := by decide) (hm : behindInMarks .NotIn (.Name x px) = false := by rfl) : PE X (.Compare e [.NotIn] [.Name x px] pos) (tD (km X) B W (inO true i F)) := by
  refine (pe_cmpR (op_notIn3 hu) ha (pe_var hN hvs hd hcd) hm).of ?_
  intro σ H Q h
  obtain ⟨G, ρ, E, S⟩ := inO_run h
  refine ⟨G, ρ, E, S.imp fun k ρ1 s1 y G1 H1 E1 g1 dp1 => ?_⟩
  obtain ⟨v, k2, xs, e1, d1, d2, h1, h2, q⟩ := s1 y G1 H1 E1 g1 dp1
  exact ⟨v, e1, .inl ⟨k2, xs, d1, d2, h1, h2, by simpa using q⟩⟩
theorem pt_inO (i : Nat) {x : Str} {px : Pos} (hu : X.A.units + 65 < cLine) (ha : PE X e (tD (km X) B W F)) (hN : X.N[i]? = some x := by rfl) (hvs : Vis X.env.scope x := by first | exact Or.inl rfl | exact Or.inr (Or.inl rfl) | exact Or.inr (Or.inr rfl)) (hd : (x == ("__debug__" : Str)) = false := by decide)
    (hcd : (x == ("__classdict__" : Str)) = false := by decide) (hm : behindInMarks .In (.Name x px) = false := by rfl) : PT X (.Compare e [.In] [.Name x px] pos) (tDT (km X) B W (testF (inO false i F))) := by
  refine (pt_cmpR (op_in3 hu) ha (pe_var hN hvs hd hcd) hm).of ?_
  intro σ H Q h
  obtain ⟨G, ρ, E, S⟩ := inO_run (t_test σ H Q h)
  refine ⟨G, ρ, E, S.imp fun k ρ1 s1 y G1 H1 E1 g1 dp1 => ?_⟩
  obtain ⟨v, k2, xs, e1, d1, d2, h1, h2, q⟩ := s1 y G1 H1 E1 g1 dp1
  exact ⟨v, e1, .inl ⟨k2, xs, d1, d2, h1, h2, by simpa using q⟩⟩
theorem pt_notInO (i : Nat) {x : Str} {px : Pos} (hu : X.A.units + 65 < cLine) (ha : PE X e (tD (km X) B W F)) (hN : X.N[i]? = some x := by rfl) (hvs : Vis X.env.scope x := by first | exact Or.inl rfl | exact Or.inr (Or.inl rfl) | exact Or.inr (Or.inr rfl)) (hd : (x == ("__debug__" : Str)) = false := by decide)
    (hcd : (x == ("__classdict__" : Str)) = false := by decide) (hm : behindInMarks .NotIn (.Name x px) = false := by rfl) : PT X (.Compare e [.NotIn] [.Name x px] pos) (tDT (km X) B W (testF (inO true i F))) := by
  refine (pt_cmpR (op_notIn3 hu) ha (pe_var hN hvs hd hcd) hm).of ?_
  intro σ H Q h
  obtain ⟨G, ρ, E, S⟩ := inO_run (t_test σ H Q h)
  refine ⟨G, ρ, E, S.imp fun k ρ1 s1 y G1 H1 E1 g1 dp1 => ?_⟩
  obtain ⟨v, k2, xs, e1, d1, d2, h1, h2, q⟩ := s1 y G1 H1 E1 g1 dp1
  exact ⟨v, e1, .inl ⟨k2, xs, d1, d2, h1, h2, by simpa using q⟩⟩
end
end DL

namespace G_k06
open PySem PySem.Spec PyProof.Rows L2 DL
def topS (i : Nat) : Stmt := PySem.Challenge.pw_linpapers_k06_values_and_points.main.body.getD i (.Pass ⟨0, 0, 0, 0⟩)
/-! number -/
abbrev s_number : Stmt := topS 6
theorem sc_number : FnScope ["top", "bottom", "common"] ["top", "bottom"] (defScope s_number) := ⟨rfl, rfl, rfl, by decide +kernel, rfl, by decide +kernel, by decide +kernel⟩
noncomputable def S_number : Rho → Out := (seqS (ifS (testF (binF dEq (varF 1) (cF (.int 0)))) (raiseS "NumberError") nxS) (seqS (asgS (appF (app2 bGcd) (consA (varF 0) (consA (varF 1) nilA))) (nameT 2)) (seqS (ifS (testF (binF dLt (varF 1) (cF (.int 0)))) (asgS (unF dNeg (varF 2)) (nameT 2)) nxS) (retS (tupF (consA (binF dDiv (varF 0) (varF 2)) (consA (binF dDiv (varF 1) (varF 2)) nilA)))))))
noncomputable def B_number (a0 a1 : PyData) : FR := outFR (S_number [.d a0, .d a1, .un])
noncomputable def m_number : Fn := fn2 B_number
/-! plus -/
abbrev s_plus : Stmt := topS 7
theorem sc_plus : FnScope ["first", "second", "top", "bottom", "other_top", "other_bottom"] ["first", "second"] (defScope s_plus) := ⟨rfl, rfl, rfl, by decide +kernel, rfl, by decide +kernel, by decide +kernel⟩
noncomputable def S_plus : Rho → Out := (seqS (asgS (varF 0) (tupT 2 (consTs (nameT 2) (consTs (nameT 3) nilTs)))) (seqS (asgS (varF 1) (tupT 2 (consTs (nameT 4) (consTs (nameT 5) nilTs)))) (retS (callF m_number (consA (binF dAdd (binF dMul (varF 2) (varF 5)) (binF dMul (varF 4) (varF 3))) (consA (binF dMul (varF 3) (varF 5)) nilA))))))
noncomputable def B_plus (a0 a1 : PyData) : FR := outFR (S_plus [.d a0, .d a1, .un, .un, .un, .un])
noncomputable def m_plus : Fn := fn2 B_plus
/-! times -/
abbrev s_times : Stmt := topS 8
theorem sc_times : FnScope ["first", "second"] ["first", "second"] (defScope s_times) := ⟨rfl, rfl, rfl, by decide +kernel, rfl, by decide +kernel, by decide +kernel⟩
noncomputable def S_times : Rho → Out := (retS (callF m_number (consA (binF dMul (binF dIx (varF 0) (cF (.int 0))) (binF dIx (varF 1) (cF (.int 0)))) (consA (binF dMul (binF dIx (varF 0) (cF (.int 1))) (binF dIx (varF 1) (cF (.int 1)))) nilA))))
noncomputable def B_times (a0 a1 : PyData) : FR := outFR (S_times [.d a0, .d a1])
noncomputable def m_times : Fn := fn2 B_times
/-! compare -/
abbrev s_compare : Stmt := topS 9
theorem sc_compare : FnScope ["first", "second", "left", "right"] ["first", "second"] (defScope s_compare) := ⟨rfl, rfl, rfl, by decide +kernel, rfl, by decide +kernel, by decide +kernel⟩
noncomputable def S_compare : Rho → Out := (seqS (asgS (binF dMul (binF dIx (varF 0) (cF (.int 0))) (binF dIx (varF 1) (cF (.int 1)))) (nameT 2)) (seqS (asgS (binF dMul (binF dIx (varF 1) (cF (.int 0))) (binF dIx (varF 0) (cF (.int 1)))) (nameT 3)) (seqS (ifS (testF (binF dLt (varF 2) (varF 3))) (retS (unF dNeg (cF (.int 1)))) nxS) (seqS (ifS (testF (binF dGt (varF 2) (varF 3))) (retS (cF (.int 1))) nxS) (retS (cF (.int 0)))))))
noncomputable def B_compare (a0 a1 : PyData) : FR := outFR (S_compare [.d a0, .d a1, .un, .un])
noncomputable def m_compare : Fn := fn2 B_compare
/-! unknowns -/
abbrev s_unknowns : Stmt := topS 11
theorem sc_unknowns : FnScope ["system", "parts", "_", "unknown"] ["system"] (defScope s_unknowns) := ⟨rfl, rfl, rfl, by decide +kernel, rfl, by decide +kernel, by decide +kernel⟩
noncomputable def S_unknowns : Rho → Out := (retS (sortSetF [1, 2, 3] (itemsQ (varF 0)) (tupT 3 (consTs (nameT 1) (consTs (nameT 2) (consTs (nameT 2) nilTs)))) (itemsQ (varF 1)) (tupT 2 (consTs (nameT 3) (consTs (nameT 2) nilTs))) (varF 3)))
noncomputable def B_unknowns (a0 : PyData) : FR := outFR (S_unknowns [.d a0, .un, .un, .un])
noncomputable def m_unknowns : Fn := fn1 B_unknowns
/-! value -/
abbrev s_value : Stmt := topS 12
theorem sc_value : FnScope ["some_term", "point", "parts", "total", "known", "unknown", "amount"] ["some_term", "point"] (defScope s_value) := ⟨rfl, rfl, rfl, by decide +kernel, rfl, by decide +kernel, by decide +kernel⟩
noncomputable def L_value_1 : Rho → Out := (asgS (callF m_plus (consA (varF 3) (consA (callF m_times (consA (varF 6) (consA (dgetF 4 (varF 5) (cF (.tuple [.int 0, .int 1]))) nilA))) nilA))) (nameT 3))
noncomputable def S_value : Rho → Out := (seqS (asgS (varF 0) (tupT 2 (consTs (nameT 2) (consTs (nameT 3) nilTs)))) (seqS (dictS (varF 1) 4) (seqS (forS (itemsQ (varF 2)) (tupT 2 (consTs (nameT 5) (consTs (nameT 6) nilTs))) L_value_1) (retS (varF 3)))))
noncomputable def B_value (a0 a1 : PyData) : FR := outFR (S_value [.d a0, .d a1, .un, .un, .un, .un, .un])
noncomputable def m_value : Fn := fn2 B_value
/-! holds -/
abbrev s_holds : Stmt := topS 13
theorem sc_holds : FnScope ["some_row", "point", "parts", "sign", "bound", "order"] ["some_row", "point"] (defScope s_holds) := ⟨rfl, rfl, rfl, by decide +kernel, rfl, by decide +kernel, by decide +kernel⟩
noncomputable def S_holds : Rho → Out := (seqS (asgS (varF 0) (tupT 3 (consTs (nameT 2) (consTs (nameT 3) (consTs (nameT 4) nilTs))))) (seqS (asgS (callF m_compare (consA (callF m_value (consA (tupF (consA (varF 2) (consA (cF (.tuple [.int 0, .int 1])) nilA))) (consA (varF 1) nilA))) (consA (varF 4) nilA))) (nameT 5)) (seqS (ifS (testF (binF dEq (varF 3) (cF (.str "=")))) (retS (binF dEq (varF 5) (cF (.int 0)))) nxS) (seqS (ifS (testF (binF dEq (varF 3) (cF (.str "<")))) (retS (binF dLt (varF 5) (cF (.int 0)))) nxS) (retS (binF dLe (varF 5) (cF (.int 0))))))))
noncomputable def B_holds (a0 a1 : PyData) : FR := outFR (S_holds [.d a0, .d a1, .un, .un, .un, .un])
noncomputable def m_holds : Fn := fn2 B_holds
/-! is_point -/
abbrev s_is_point : Stmt := topS 14
theorem sc_is_point : FnScope ["system", "point", "some_row"] ["system", "point"] (defScope s_is_point) := ⟨rfl, rfl, rfl, by decide +kernel, rfl, by decide +kernel, by decide +kernel⟩
noncomputable def S_is_point : Rho → Out := (retS (appF (app1 bAll) (consA (lcF [2] (itemsQ (varF 0)) (nameT 2) yesT (callF m_holds (consA (varF 2) (consA (varF 1) nilA)))) nilA)))
noncomputable def B_is_point (a0 a1 : PyData) : FR := outFR (S_is_point [.d a0, .d a1, .un])
noncomputable def m_is_point : Fn := fn2 B_is_point
/-! _law_cell -/
abbrev s__law_cell : Stmt := topS 16
theorem sc__law_cell : FnScope ["script", "k"] ["script", "k"] (defScope s__law_cell) := ⟨rfl, rfl, rfl, by decide +kernel, rfl, by decide +kernel, by decide +kernel⟩
noncomputable def S__law_cell : Rho → Out := (seqS (ifS (testF (binF dLt (varF 1) (appF (app1 bLen) (consA (varF 0) nilA)))) (retS (binF dIx (varF 0) (varF 1))) nxS) (retS (cF (.int 0))))
noncomputable def B__law_cell (a0 a1 : PyData) : FR := outFR (S__law_cell [.d a0, .d a1])
noncomputable def m__law_cell : Fn := fn2 B__law_cell
/-! _law_draw -/
abbrev s__law_draw : Stmt := topS 17
theorem sc__law_draw : FnScope ["script", "k", "sizes", "cell", "drawn", "size", "stirred", "j"] ["script", "k", "sizes"] (defScope s__law_draw) := ⟨rfl, rfl, rfl, by decide +kernel, rfl, by decide +kernel, by decide +kernel⟩
noncomputable def L__law_draw_1 : Rho → Out := (seqS (appendS 4 (binF dMod (varF 3) (varF 5))) (asgS (binF dDiv (varF 3) (varF 5)) (nameT 3)))
noncomputable def L__law_draw_2 : Rho → Out := (seqS (asgS (binF dMod (binF dAdd (binF dAdd (binF dMul (varF 6) (cF (.int 48271))) (cF (.int 11))) (varF 7)) (cF (.int 2147483647))) (nameT 6)) (seqS (asgS (binF dMod (binF dAdd (binF dMul (varF 6) (cF (.int 69621))) (cF (.int 3))) (cF (.int 2147483647))) (nameT 6)) (appendS 4 (binF dMod (binF dDiv (varF 6) (cF (.int 7))) (binF dIx (varF 2) (varF 7))))))
noncomputable def S__law_draw : Rho → Out := (seqS (asgS (callF m__law_cell (consA (varF 0) (consA (varF 1) nilA))) (nameT 3)) (seqS (ifS (testF (binF dLt (varF 3) (cF (.int 0)))) (asgS (unF dNeg (varF 3)) (nameT 3)) nxS) (seqS (ownS nilA 4) (seqS (ifS (testF (binF dGe (varF 3) (binF dPow (cF (.int 10)) (cF (.int 18))))) (seqS (asgS (binF dSub (varF 3) (binF dPow (cF (.int 10)) (cF (.int 18)))) (nameT 3)) (seqS (forS (itemsQ (varF 2)) (nameT 5) L__law_draw_1) (retS (varF 4)))) nxS) (seqS (asgS (binF dMod (binF dAdd (binF dAdd (varF 3) (cF (.int 1))) (binF dMul (cF (.int 31)) (varF 1))) (cF (.int 2147483647))) (nameT 6)) (seqS (forS (range1F (consA (appF (app1 bLen) (consA (varF 2) nilA)) nilA)) (nameT 7) L__law_draw_2) (retS (varF 4))))))))
noncomputable def B__law_draw (a0 a1 a2 : PyData) : FR := outFR (S__law_draw [.d a0, .d a1, .d a2, .un, .un, .un, .un, .un])
noncomputable def m__law_draw : Fn := fn3 B__law_draw
/-! _law_f -/
abbrev s__law_f : Stmt := topS 18
theorem sc__law_f : FnScope ["top", "bottom", "first", "second"] ["top", "bottom"] (defScope s__law_f) := ⟨rfl, rfl, rfl, by decide +kernel, rfl, by decide +kernel, by decide +kernel⟩
noncomputable def L__law_f_1 : Rho → Out := (parS (consA (varF 3) (consA (binF dMod (varF 2) (varF 3)) nilA)) 2 3)
noncomputable def S__law_f : Rho → Out := (seqS (ifS (testF (binF dLt (varF 1) (cF (.int 0)))) (seqS (asgS (unF dNeg (varF 0)) (nameT 0)) (asgS (unF dNeg (varF 1)) (nameT 1))) nxS) (seqS (asgS (appF (app2 bMax) (consA (varF 0) (consA (unF dNeg (varF 0)) nilA))) (nameT 2)) (seqS (asgS (varF 1) (nameT 3)) (seqS (whileS (testF (binF dNe (varF 3) (cF (.int 0)))) L__law_f_1) (retS (tupF (consA (binF dDiv (varF 0) (varF 2)) (consA (binF dDiv (varF 1) (varF 2)) nilA))))))))
noncomputable def B__law_f (a0 a1 : PyData) : FR := outFR (S__law_f [.d a0, .d a1, .un, .un])
noncomputable def m__law_f : Fn := fn2 B__law_f
/-! _law_add -/
abbrev s__law_add : Stmt := topS 19
theorem sc__law_add : FnScope ["a", "b"] ["a", "b"] (defScope s__law_add) := ⟨rfl, rfl, rfl, by decide +kernel, rfl, by decide +kernel, by decide +kernel⟩
noncomputable def S__law_add : Rho → Out := (retS (callF m__law_f (consA (binF dAdd (binF dMul (binF dIx (varF 0) (cF (.int 0))) (binF dIx (varF 1) (cF (.int 1)))) (binF dMul (binF dIx (varF 1) (cF (.int 0))) (binF dIx (varF 0) (cF (.int 1))))) (consA (binF dMul (binF dIx (varF 0) (cF (.int 1))) (binF dIx (varF 1) (cF (.int 1)))) nilA))))
noncomputable def B__law_add (a0 a1 : PyData) : FR := outFR (S__law_add [.d a0, .d a1])
noncomputable def m__law_add : Fn := fn2 B__law_add
/-! _law_sub -/
abbrev s__law_sub : Stmt := topS 20
theorem sc__law_sub : FnScope ["a", "b"] ["a", "b"] (defScope s__law_sub) := ⟨rfl, rfl, rfl, by decide +kernel, rfl, by decide +kernel, by decide +kernel⟩
noncomputable def S__law_sub : Rho → Out := (retS (callF m__law_f (consA (binF dSub (binF dMul (binF dIx (varF 0) (cF (.int 0))) (binF dIx (varF 1) (cF (.int 1)))) (binF dMul (binF dIx (varF 1) (cF (.int 0))) (binF dIx (varF 0) (cF (.int 1))))) (consA (binF dMul (binF dIx (varF 0) (cF (.int 1))) (binF dIx (varF 1) (cF (.int 1)))) nilA))))
noncomputable def B__law_sub (a0 a1 : PyData) : FR := outFR (S__law_sub [.d a0, .d a1])
noncomputable def m__law_sub : Fn := fn2 B__law_sub
/-! _law_mul -/
abbrev s__law_mul : Stmt := topS 21
theorem sc__law_mul : FnScope ["a", "b"] ["a", "b"] (defScope s__law_mul) := ⟨rfl, rfl, rfl, by decide +kernel, rfl, by decide +kernel, by decide +kernel⟩
noncomputable def S__law_mul : Rho → Out := (retS (callF m__law_f (consA (binF dMul (binF dIx (varF 0) (cF (.int 0))) (binF dIx (varF 1) (cF (.int 0)))) (consA (binF dMul (binF dIx (varF 0) (cF (.int 1))) (binF dIx (varF 1) (cF (.int 1)))) nilA))))
noncomputable def B__law_mul (a0 a1 : PyData) : FR := outFR (S__law_mul [.d a0, .d a1])
noncomputable def m__law_mul : Fn := fn2 B__law_mul
/-! _law_div -/
abbrev s__law_div : Stmt := topS 22
theorem sc__law_div : FnScope ["a", "b"] ["a", "b"] (defScope s__law_div) := ⟨rfl, rfl, rfl, by decide +kernel, rfl, by decide +kernel, by decide +kernel⟩
noncomputable def S__law_div : Rho → Out := (retS (callF m__law_f (consA (binF dMul (binF dIx (varF 0) (cF (.int 0))) (binF dIx (varF 1) (cF (.int 1)))) (consA (binF dMul (binF dIx (varF 0) (cF (.int 1))) (binF dIx (varF 1) (cF (.int 0)))) nilA))))
noncomputable def B__law_div (a0 a1 : PyData) : FR := outFR (S__law_div [.d a0, .d a1])
noncomputable def m__law_div : Fn := fn2 B__law_div
/-! _law_less -/
abbrev s__law_less : Stmt := topS 23
theorem sc__law_less : FnScope ["a", "b"] ["a", "b"] (defScope s__law_less) := ⟨rfl, rfl, rfl, by decide +kernel, rfl, by decide +kernel, by decide +kernel⟩
noncomputable def S__law_less : Rho → Out := (retS (binF dLt (binF dMul (binF dIx (varF 0) (cF (.int 0))) (binF dIx (varF 1) (cF (.int 1)))) (binF dMul (binF dIx (varF 1) (cF (.int 0))) (binF dIx (varF 0) (cF (.int 1))))))
noncomputable def B__law_less (a0 a1 : PyData) : FR := outFR (S__law_less [.d a0, .d a1])
noncomputable def m__law_less : Fn := fn2 B__law_less
/-! _law_scaled -/
abbrev s__law_scaled : Stmt := topS 24
theorem sc__law_scaled : FnScope ["line", "factor", "name", "number_v"] ["line", "factor"] (defScope s__law_scaled) := ⟨rfl, rfl, rfl, by decide +kernel, rfl, by decide +kernel, by decide +kernel⟩
noncomputable def S__law_scaled : Rho → Out := (retS (tupF (consA (appF (app1 bTuple) (consA (lcF [2, 3] (itemsQ (binF dIx (varF 0) (cF (.int 0)))) (tupT 2 (consTs (nameT 2) (consTs (nameT 3) nilTs))) yesT (tupF (consA (varF 2) (consA (callF m__law_mul (consA (varF 3) (consA (varF 1) nilA))) nilA)))) nilA)) (consA (binF dIx (varF 0) (cF (.int 1))) (consA (callF m__law_mul (consA (binF dIx (varF 0) (cF (.int 2))) (consA (varF 1) nilA))) nilA)))))
noncomputable def B__law_scaled (a0 a1 : PyData) : FR := outFR (S__law_scaled [.d a0, .d a1, .un, .un])
noncomputable def m__law_scaled : Fn := fn2 B__law_scaled
/-! _law_factor -/
abbrev s__law_factor : Stmt := topS 25
theorem sc__law_factor : FnScope ["line", "parts", "sign", "bound", "factor", "common", "name", "number_v", "shared", "first", "second"] ["line"] (defScope s__law_factor) := ⟨rfl, rfl, rfl, by decide +kernel, rfl, by decide +kernel, by decide +kernel⟩
noncomputable def L__law_factor_1 : Rho → Out := (asgS (binF dMul (varF 5) (binF dIx (varF 7) (cF (.int 1)))) (nameT 5))
noncomputable def L__law_factor_2 : Rho → Out := (parS (consA (varF 10) (consA (binF dMod (varF 9) (varF 10)) nilA)) 9 10)
noncomputable def L__law_factor_3 : Rho → Out := (seqS (asgS (binF dMul (appF (app2 bMax) (consA (binF dIx (varF 7) (cF (.int 0))) (consA (unF dNeg (binF dIx (varF 7) (cF (.int 0)))) nilA))) (binF dDiv (varF 5) (binF dIx (varF 7) (cF (.int 1))))) (nameT 9)) (seqS (asgS (varF 8) (nameT 10)) (seqS (whileS (testF (binF dNe (varF 10) (cF (.int 0)))) L__law_factor_2) (asgS (varF 9) (nameT 8)))))
noncomputable def S__law_factor : Rho → Out := (seqS (asgS (varF 0) (tupT 3 (consTs (nameT 1) (consTs (nameT 2) (consTs (nameT 3) nilTs))))) (seqS (ifS (testF (binF dEq (appF (app1 bLen) (consA (varF 1) nilA)) (cF (.int 0)))) (seqS (ifS (testF (binF dEq (binF dIx (varF 3) (cF (.int 0))) (cF (.int 0)))) (retS (tupF (consA (cF (.int 1)) (consA (cF (.int 1)) nilA)))) nxS) (seqS (asgS (callF m__law_div (consA (tupF (consA (cF (.int 1)) (consA (cF (.int 1)) nilA))) (consA (callF m__law_f (consA (appF (app2 bMax) (consA (binF dIx (varF 3) (cF (.int 0))) (consA (unF dNeg (binF dIx (varF 3) (cF (.int 0)))) nilA))) (consA (binF dIx (varF 3) (cF (.int 1))) nilA))) nilA))) (nameT 4)) (seqS (ifS (andT (testF (binF dEq (varF 2) (cF (.str "=")))) (testF (binF dLt (binF dIx (varF 3) (cF (.int 0))) (cF (.int 0))))) (asgS (callF m__law_mul (consA (varF 4) (consA (tupF (consA (unF dNeg (cF (.int 1))) (consA (cF (.int 1)) nilA))) nilA))) (nameT 4)) nxS) (retS (varF 4))))) nxS) (seqS (asgS (cF (.int 1)) (nameT 5)) (seqS (forS (itemsQ (varF 1)) (tupT 2 (consTs (nameT 6) (consTs (nameT 7) nilTs))) L__law_factor_1) (seqS (asgS (cF (.int 0)) (nameT 8)) (seqS (forS (itemsQ (varF 1)) (tupT 2 (consTs (nameT 6) (consTs (nameT 7) nilTs))) L__law_factor_3) (seqS (asgS (callF m__law_f (consA (varF 5) (consA (varF 8) nilA))) (nameT 4)) (seqS (ifS (andT (testF (binF dEq (varF 2) (cF (.str "=")))) (testF (binF dLt (binF dIx (binF dIx (binF dIx (varF 1) (cF (.int 0))) (cF (.int 1))) (cF (.int 0))) (cF (.int 0))))) (asgS (callF m__law_mul (consA (varF 4) (consA (tupF (consA (unF dNeg (cF (.int 1))) (consA (cF (.int 1)) nilA))) nilA))) (nameT 4)) nxS) (retS (varF 4))))))))))
noncomputable def B__law_factor (a0 : PyData) : FR := outFR (S__law_factor [.d a0, .un, .un, .un, .un, .un, .un, .un, .un, .un, .un])
noncomputable def m__law_factor : Fn := fn1 B__law_factor
/-! _law_normal -/
abbrev s__law_normal : Stmt := topS 26
theorem sc__law_normal : FnScope ["line"] ["line"] (defScope s__law_normal) := ⟨rfl, rfl, rfl, by decide +kernel, rfl, by decide +kernel, by decide +kernel⟩
noncomputable def S__law_normal : Rho → Out := (retS (callF m__law_scaled (consA (varF 0) (consA (callF m__law_factor (consA (varF 0) nilA)) nilA))))
noncomputable def B__law_normal (a0 : PyData) : FR := outFR (S__law_normal [.d a0])
noncomputable def m__law_normal : Fn := fn1 B__law_normal
/-! _law_parts -/
abbrev s__law_parts : Stmt := topS 27
theorem sc__law_parts : FnScope ["pairs", "sums", "name", "number_v"] ["pairs"] (defScope s__law_parts) := ⟨rfl, rfl, rfl, by decide +kernel, rfl, by decide +kernel, by decide +kernel⟩
noncomputable def L__law_parts_1 : Rho → Out := (putS 1 (varF 2) (callF m__law_add (consA (dgetF 1 (varF 2) (tupF (consA (cF (.int 0)) (consA (cF (.int 1)) nilA)))) (consA (varF 3) nilA))))
noncomputable def S__law_parts : Rho → Out := (seqS (newDS 1) (seqS (forS (itemsQ (varF 0)) (tupT 2 (consTs (nameT 2) (consTs (nameT 3) nilTs))) L__law_parts_1) (retS (appF (app1 bTuple) (consA (lcF [2] (itemsQ (dsortF 1)) (nameT 2) (testF (binF dNe (binF dIx (dixF 1 (varF 2)) (cF (.int 0))) (cF (.int 0)))) (tupF (consA (varF 2) (consA (dixF 1 (varF 2)) nilA)))) nilA)))))
noncomputable def B__law_parts (a0 : PyData) : FR := outFR (S__law_parts [.d a0, .un, .un, .un])
noncomputable def m__law_parts : Fn := fn1 B__law_parts
/-! _law_row -/
abbrev s__law_row : Stmt := topS 28
theorem sc__law_row : FnScope ["pairs", "sign", "bound", "name", "number_v"] ["pairs", "sign", "bound"] (defScope s__law_row) := ⟨rfl, rfl, rfl, by decide +kernel, rfl, by decide +kernel, by decide +kernel⟩
noncomputable def S__law_row : Rho → Out := (seqS (ifS (orT (testF (binF dEq (varF 1) (cF (.str ">=")))) (testF (binF dEq (varF 1) (cF (.str ">"))))) (seqS (lcS 0 [3, 4] (itemsQ (varF 0)) (tupT 2 (consTs (nameT 3) (consTs (nameT 4) nilTs))) yesT (tupF (consA (varF 3) (consA (callF m__law_sub (consA (tupF (consA (cF (.int 0)) (consA (cF (.int 1)) nilA))) (consA (varF 4) nilA))) nilA)))) (seqS (asgS (callF m__law_sub (consA (tupF (consA (cF (.int 0)) (consA (cF (.int 1)) nilA))) (consA (varF 2) nilA))) (nameT 2)) (asgS (dispF [(">=", "<="), (">", "<")] 1) (nameT 1)))) nxS) (retS (callF m__law_normal (consA (tupF (consA (callF m__law_parts (consA (varF 0) nilA)) (consA (varF 1) (consA (varF 2) nilA)))) nilA))))
noncomputable def B__law_row (a0 a1 a2 : PyData) : FR := outFR (S__law_row [.d a0, .d a1, .d a2, .un, .un])
noncomputable def m__law_row : Fn := fn3 B__law_row
/-! _law_at -/
abbrev s__law_at : Stmt := topS 29
theorem sc__law_at : FnScope ["parts", "point", "known", "total", "name", "number_v"] ["parts", "point"] (defScope s__law_at) := ⟨rfl, rfl, rfl, by decide +kernel, rfl, by decide +kernel, by decide +kernel⟩
noncomputable def L__law_at_1 : Rho → Out := (asgS (callF m__law_add (consA (varF 3) (consA (callF m__law_mul (consA (varF 5) (consA (dgetF 2 (varF 4) (tupF (consA (cF (.int 0)) (consA (cF (.int 1)) nilA)))) nilA))) nilA))) (nameT 3))
noncomputable def S__law_at : Rho → Out := (seqS (dictS (varF 1) 2) (seqS (asgS (tupF (consA (cF (.int 0)) (consA (cF (.int 1)) nilA))) (nameT 3)) (seqS (forS (itemsQ (varF 0)) (tupT 2 (consTs (nameT 4) (consTs (nameT 5) nilTs))) L__law_at_1) (retS (varF 3)))))
noncomputable def B__law_at (a0 a1 : PyData) : FR := outFR (S__law_at [.d a0, .d a1, .un, .un, .un, .un])
noncomputable def m__law_at : Fn := fn2 B__law_at
/-! _law_true -/
abbrev s__law_true : Stmt := topS 30
theorem sc__law_true : FnScope ["line", "point", "total"] ["line", "point"] (defScope s__law_true) := ⟨rfl, rfl, rfl, by decide +kernel, rfl, by decide +kernel, by decide +kernel⟩
noncomputable def S__law_true : Rho → Out := (seqS (asgS (callF m__law_at (consA (binF dIx (varF 0) (cF (.int 0))) (consA (varF 1) nilA))) (nameT 2)) (seqS (ifS (testF (binF dEq (binF dIx (varF 0) (cF (.int 1))) (cF (.str "=")))) (retS (binF dEq (varF 2) (binF dIx (varF 0) (cF (.int 2))))) nxS) (seqS (ifS (testF (binF dEq (binF dIx (varF 0) (cF (.int 1))) (cF (.str "<")))) (retS (callF m__law_less (consA (varF 2) (consA (binF dIx (varF 0) (cF (.int 2))) nilA)))) nxS) (retS (notV (callF m__law_less (consA (binF dIx (varF 0) (cF (.int 2))) (consA (varF 2) nilA))))))))
noncomputable def B__law_true (a0 a1 : PyData) : FR := outFR (S__law_true [.d a0, .d a1, .un])
noncomputable def m__law_true : Fn := fn2 B__law_true
/-! _law_all -/
abbrev s__law_all : Stmt := topS 31
theorem sc__law_all : FnScope ["rows", "point", "line"] ["rows", "point"] (defScope s__law_all) := ⟨rfl, rfl, rfl, by decide +kernel, rfl, by decide +kernel, by decide +kernel⟩
noncomputable def L__law_all_1 : Rho → Out := (ifS (notT (truF (callF m__law_true (consA (varF 2) (consA (varF 1) nilA))))) (retS (cF (.bool false))) nxS)
noncomputable def S__law_all : Rho → Out := (seqS (forS (itemsQ (varF 0)) (nameT 2) L__law_all_1) (retS (cF (.bool true))))
noncomputable def B__law_all (a0 a1 : PyData) : FR := outFR (S__law_all [.d a0, .d a1, .un])
noncomputable def m__law_all : Fn := fn2 B__law_all
/-! _law_names -/
abbrev s__law_names : Stmt := topS 32
theorem sc__law_names : FnScope ["rows", "names", "line", "name", "number_v"] ["rows"] (defScope s__law_names) := ⟨rfl, rfl, rfl, by decide +kernel, rfl, by decide +kernel, by decide +kernel⟩
noncomputable def L__law_names_1 : Rho → Out := (ifS (testF (inO true 1 (varF 3))) (appendS 1 (varF 3)) nxS)
noncomputable def L__law_names_2 : Rho → Out := (forS (itemsQ (binF dIx (varF 2) (cF (.int 0)))) (tupT 2 (consTs (nameT 3) (consTs (nameT 4) nilTs))) L__law_names_1)
noncomputable def S__law_names : Rho → Out := (seqS (ownS nilA 1) (seqS (forS (itemsQ (varF 0)) (nameT 2) L__law_names_2) (retS (appF (app1 bSorted) (consA (varF 1) nilA)))))
noncomputable def B__law_names (a0 : PyData) : FR := outFR (S__law_names [.d a0, .un, .un, .un, .un])
noncomputable def m__law_names : Fn := fn1 B__law_names
/-! _law_pairs -/
abbrev s__law_pairs : Stmt := topS 33
theorem sc__law_pairs : FnScope ["digits", "pairs", "j"] ["digits"] (defScope s__law_pairs) := ⟨rfl, rfl, rfl, by decide +kernel, rfl, by decide +kernel, by decide +kernel⟩
noncomputable def L__law_pairs_1 : Rho → Out := (ifS (testF (binF dNe (binF dIx (varF 0) (varF 2)) (cF (.int 3)))) (appendS 1 (tupF (consA (binF dIx (lstF (consA (cF (.str "x")) (consA (cF (.str "b1")) (consA (cF (.str "total")) nilA)))) (varF 2)) (consA (callF m__law_f (consA (binF dSub (binF dIx (varF 0) (varF 2)) (cF (.int 3))) (consA (binF dAdd (cF (.int 1)) (binF dDiv (binF dIx (varF 0) (cF (.int 3))) (cF (.int 5)))) nilA))) nilA)))) nxS)
noncomputable def S__law_pairs : Rho → Out := (seqS (ownS nilA 1) (seqS (forS (range1F (consA (cF (.int 3)) nilA)) (nameT 2) L__law_pairs_1) (retS (varF 1))))
noncomputable def B__law_pairs (a0 : PyData) : FR := outFR (S__law_pairs [.d a0, .un, .un])
noncomputable def m__law_pairs : Fn := fn1 B__law_pairs
/-! _law_anyrow -/
abbrev s__law_anyrow : Stmt := topS 34
theorem sc__law_anyrow : FnScope ["digits", "sign"] ["digits"] (defScope s__law_anyrow) := ⟨rfl, rfl, rfl, by decide +kernel, rfl, by decide +kernel, by decide +kernel⟩
noncomputable def S__law_anyrow : Rho → Out := (seqS (asgS (binF dIx (lstF (consA (cF (.str "<=")) (consA (cF (.str "<=")) (consA (cF (.str "<")) (consA (cF (.str "=")) (consA (cF (.str ">=")) (consA (cF (.str ">")) nilA))))))) (binF dIx (varF 0) (cF (.int 4)))) (nameT 1)) (retS (callF m__law_row (consA (callF m__law_pairs (consA (cutF (varF 0) noP (someP (cF (.int 4)))) nilA)) (consA (varF 1) (consA (callF m__law_f (consA (binF dSub (binF dIx (varF 0) (cF (.int 5))) (cF (.int 5))) (consA (binF dAdd (cF (.int 1)) (binF dIx (varF 0) (cF (.int 6)))) nilA))) nilA))))))
noncomputable def B__law_anyrow (a0 : PyData) : FR := outFR (S__law_anyrow [.d a0, .un])
noncomputable def m__law_anyrow : Fn := fn1 B__law_anyrow
/-! _law_system -/
abbrev s__law_system : Stmt := topS 35
theorem sc__law_system : FnScope ["script", "k", "most", "digits", "rows", "j", "line"] ["script", "k", "most"] (defScope s__law_system) := ⟨rfl, rfl, rfl, by decide +kernel, rfl, by decide +kernel, by decide +kernel⟩
noncomputable def L__law_system_1 : Rho → Out := (seqS (newS (cutL (varF 3) (someP (binF dAdd (cF (.int 2)) (binF dMul (cF (.int 7)) (varF 5)))) (someP (binF dAdd (cF (.int 9)) (binF dMul (cF (.int 7)) (varF 5))))) 6) (seqS (ifS (testF (binF dGt (binF dIx (varF 3) (cF (.int 1))) (cF (.int 0)))) (ownS (consA (binF dAdd (binF dDiv (binF dIx (varF 6) (cF (.int 0))) (cF (.int 2))) (cF (.int 2))) (consA (binF dIx (varF 6) (cF (.int 1))) (consA (binF dIx (varF 6) (cF (.int 2))) (consA (binF dMul (binF dIx (varF 6) (cF (.int 3))) (binF dMod (binF dIx (varF 6) (cF (.int 3))) (cF (.int 2)))) (consA (binF dIx (varF 6) (cF (.int 4))) (consA (binF dIx (varF 6) (cF (.int 5))) (consA (binF dIx (varF 6) (cF (.int 6))) nilA))))))) 6) nxS) (seqS (ifS (testF (binF dEq (binF dIx (varF 3) (cF (.int 1))) (cF (.int 3)))) (lsetS 6 (cF (.int 2)) (cF (.int 3))) nxS) (appendS 4 (callF m__law_anyrow (consA (varF 6) nilA))))))
noncomputable def S__law_system : Rho → Out := (seqS (asgS (callF m__law_draw (consA (varF 0) (consA (varF 1) (consA (binF dAdd (lstF (consA (varF 2) (consA (cF (.int 4)) nilA))) (repF (consA (cF (.int 7)) (consA (cF (.int 7)) (consA (cF (.int 7)) (consA (cF (.int 7)) (consA (cF (.int 6)) (consA (cF (.int 11)) (consA (cF (.int 2)) nilA))))))) (cF (.int 6)))) nilA)))) (nameT 3)) (seqS (ownS nilA 4) (seqS (forS (range1F (consA (binF dAdd (cF (.int 1)) (binF dIx (varF 3) (cF (.int 0)))) nilA)) (nameT 5) L__law_system_1) (retS (varF 4)))))
noncomputable def B__law_system (a0 a1 a2 : PyData) : FR := outFR (S__law_system [.d a0, .d a1, .d a2, .un, .un, .un, .un])
noncomputable def m__law_system : Fn := fn3 B__law_system
/-! _law_grid -/
abbrev s__law_grid : Stmt := topS 36
theorem sc__law_grid : FnScope ["script", "k", "names", "points", "j", "digits", "i"] ["script", "k", "names"] (defScope s__law_grid) := ⟨rfl, rfl, rfl, by decide +kernel, rfl, by decide +kernel, by decide +kernel⟩
noncomputable def L__law_grid_1 : Rho → Out := (seqS (asgS (callF m__law_draw (consA (varF 0) (consA (binF dAdd (varF 1) (varF 4)) (consA (lstF (consA (cF (.int 17)) (consA (cF (.int 17)) (consA (cF (.int 17)) (consA (cF (.int 17)) (consA (cF (.int 3)) nilA)))))) nilA)))) (nameT 5)) (appendS 3 (appF (app1 bTuple) (consA (lcO [6] (range1F (consA (appF (app1 bLen) (consA (varF 2) nilA)) nilA)) (nameT 6) yesT (tupF (consA (binF dIx (varF 2) (varF 6)) (consA (callF m__law_f (consA (binF dSub (binF dIx (varF 5) (binF dMod (varF 6) (cF (.int 4)))) (cF (.int 8))) (consA (binF dAdd (cF (.int 1)) (binF dIx (varF 5) (cF (.int 4)))) nilA))) nilA)))) nilA))))
noncomputable def S__law_grid : Rho → Out := (seqS (ownS nilA 3) (seqS (forS (range1F (consA (cF (.int 6)) nilA)) (nameT 4) L__law_grid_1) (retS (varF 3))))
noncomputable def B__law_grid (a0 a1 a2 : PyData) : FR := outFR (S__law_grid [.d a0, .d a1, .d a2, .un, .un, .un, .un])
noncomputable def m__law_grid : Fn := fn3 B__law_grid
/-! law -/
abbrev s_law : Stmt := topS 37
theorem sc_law : FnScope ["script", "k", "rows", "point", "part"] ["script"] (defScope s_law) := ⟨rfl, rfl, rfl, by decide +kernel, rfl, by decide +kernel, by decide +kernel⟩
noncomputable def L_law_1 : Rho → Out := (seqS (ifS (testF (binF dNe (callF m_is_point (consA (varF 2) (consA (varF 4) nilA))) (callF m__law_all (consA (varF 2) (consA (varF 4) nilA))))) (retS (cF (.bool false))) nxS) (ifS (testF (binF dNe (callF m_value (consA (tupF (consA (binF dIx (binF dIx (varF 2) (cF (.int 0))) (cF (.int 0))) (consA (tupF (consA (cF (.int 3)) (consA (cF (.int 2)) nilA))) nilA))) (consA (varF 4) nilA))) (callF m__law_add (consA (callF m__law_at (consA (binF dIx (binF dIx (varF 2) (cF (.int 0))) (cF (.int 0))) (consA (varF 4) nilA))) (consA (tupF (consA (cF (.int 3)) (consA (cF (.int 2)) nilA))) nilA))))) (retS (cF (.bool false))) nxS))
noncomputable def L_law_2 : Rho → Out := (forS (itemsQ (lstF (consA (varF 3) (consA (cutF (varF 3) (someP (cF (.int 1))) noP) (consA (cutF (varF 3) noP (someP (cF (.int 1)))) (consA (tupF nilA) nilA)))))) (nameT 4) L_law_1)
noncomputable def L_law_3 : Rho → Out := (seqS (asgS (callF m__law_system (consA (varF 0) (consA (binF dMul (cF (.int 2)) (varF 1)) (consA (cF (.int 4)) nilA)))) (nameT 2)) (seqS (ifS (testF (binF dNe (callF m_unknowns (consA (varF 2) nilA)) (callF m__law_names (consA (varF 2) nilA)))) (retS (cF (.bool false))) nxS) (forS (itemsQ (callF m__law_grid (consA (varF 0) (consA (binF dAdd (binF dMul (cF (.int 2)) (varF 1)) (cF (.int 1))) (consA (lstF (consA (cF (.str "b1")) (consA (cF (.str "total")) (consA (cF (.str "x")) nilA)))) nilA))))) (nameT 3) L_law_2)))
noncomputable def S_law : Rho → Out := (seqS (forS (range1F (consA (appF (app2 bMin) (consA (cF (.int 12)) (consA (appF (app2 bMax) (consA (cF (.int 1)) (consA (binF dDiv (appF (app1 bLen) (consA (varF 0) nilA)) (cF (.int 2))) nilA))) nilA))) nilA)) (nameT 1) L_law_3) (retS (cF (.bool true))))
noncomputable def B_law (a0 : PyData) : FR := outFR (S_law [.d a0, .un, .un, .un, .un])
noncomputable def m_law : Fn := fn1 B_law
/-- what the top has written -/
structure Txt (K : PySem.W.Frag) (mg : Str → Option Value) : Prop where
  f_number : ∃ f fd, Fun K "number" "number" s_number f fd ∧ mg "number" = some (.ref f)
  f_plus : ∃ f fd, Fun K "plus" "plus" s_plus f fd ∧ mg "plus" = some (.ref f)
  f_times : ∃ f fd, Fun K "times" "times" s_times f fd ∧ mg "times" = some (.ref f)
  f_compare : ∃ f fd, Fun K "compare" "compare" s_compare f fd ∧ mg "compare" = some (.ref f)
  f_unknowns : ∃ f fd, Fun K "unknowns" "unknowns" s_unknowns f fd ∧ mg "unknowns" = some (.ref f)
  f_value : ∃ f fd, Fun K "value" "value" s_value f fd ∧ mg "value" = some (.ref f)
  f_holds : ∃ f fd, Fun K "holds" "holds" s_holds f fd ∧ mg "holds" = some (.ref f)
  f_is_point : ∃ f fd, Fun K "is_point" "is_point" s_is_point f fd ∧ mg "is_point" = some (.ref f)
  f__law_cell : ∃ f fd, Fun K "_law_cell" "_law_cell" s__law_cell f fd ∧ mg "_law_cell" = some (.ref f)
  f__law_draw : ∃ f fd, Fun K "_law_draw" "_law_draw" s__law_draw f fd ∧ mg "_law_draw" = some (.ref f)
  f__law_f : ∃ f fd, Fun K "_law_f" "_law_f" s__law_f f fd ∧ mg "_law_f" = some (.ref f)
  f__law_add : ∃ f fd, Fun K "_law_add" "_law_add" s__law_add f fd ∧ mg "_law_add" = some (.ref f)
  f__law_sub : ∃ f fd, Fun K "_law_sub" "_law_sub" s__law_sub f fd ∧ mg "_law_sub" = some (.ref f)
  f__law_mul : ∃ f fd, Fun K "_law_mul" "_law_mul" s__law_mul f fd ∧ mg "_law_mul" = some (.ref f)
  f__law_div : ∃ f fd, Fun K "_law_div" "_law_div" s__law_div f fd ∧ mg "_law_div" = some (.ref f)
  f__law_less : ∃ f fd, Fun K "_law_less" "_law_less" s__law_less f fd ∧ mg "_law_less" = some (.ref f)
  f__law_scaled : ∃ f fd, Fun K "_law_scaled" "_law_scaled" s__law_scaled f fd ∧ mg "_law_scaled" = some (.ref f)
  f__law_factor : ∃ f fd, Fun K "_law_factor" "_law_factor" s__law_factor f fd ∧ mg "_law_factor" = some (.ref f)
  f__law_normal : ∃ f fd, Fun K "_law_normal" "_law_normal" s__law_normal f fd ∧ mg "_law_normal" = some (.ref f)
  f__law_parts : ∃ f fd, Fun K "_law_parts" "_law_parts" s__law_parts f fd ∧ mg "_law_parts" = some (.ref f)
  f__law_row : ∃ f fd, Fun K "_law_row" "_law_row" s__law_row f fd ∧ mg "_law_row" = some (.ref f)
  f__law_at : ∃ f fd, Fun K "_law_at" "_law_at" s__law_at f fd ∧ mg "_law_at" = some (.ref f)
  f__law_true : ∃ f fd, Fun K "_law_true" "_law_true" s__law_true f fd ∧ mg "_law_true" = some (.ref f)
  f__law_all : ∃ f fd, Fun K "_law_all" "_law_all" s__law_all f fd ∧ mg "_law_all" = some (.ref f)
  f__law_names : ∃ f fd, Fun K "_law_names" "_law_names" s__law_names f fd ∧ mg "_law_names" = some (.ref f)
  f__law_pairs : ∃ f fd, Fun K "_law_pairs" "_law_pairs" s__law_pairs f fd ∧ mg "_law_pairs" = some (.ref f)
  f__law_anyrow : ∃ f fd, Fun K "_law_anyrow" "_law_anyrow" s__law_anyrow f fd ∧ mg "_law_anyrow" = some (.ref f)
  f__law_system : ∃ f fd, Fun K "_law_system" "_law_system" s__law_system f fd ∧ mg "_law_system" = some (.ref f)
  f__law_grid : ∃ f fd, Fun K "_law_grid" "_law_grid" s__law_grid f fd ∧ mg "_law_grid" = some (.ref f)
  f_law : ∃ f fd, Fun K "law" "law" s_law f fd ∧ mg "law" = some (.ref f)
  z_all : mg "all" = none
  z_dict : mg "dict" = none
  z_len : mg "len" = none
  z_max : mg "max" = none
  z_min : mg "min" = none
  z_range : mg "range" = none
  z_sorted : mg "sorted" = none
  z_tuple : mg "tuple" = none
  z_gcd : mg "gcd" = some (.builtin "math.gcd")
  x_NumberError : ∃ C, ExcTxt K mg "NumberError" C
  c_ZERO : ∃ v u, mg "ZERO" = some u ∧ RelV v u ∧ ∀ G : Hp, Dq K G v (.tuple [.int 0, .int 1])
section
variable {P : Program} {w : World} {K : PySem.W.Frag} {mg : Str → Option Value} {base : Heap}
theorem d_number (T : Txt K mg) : DefOk P w K mg base "number" 1 m_number := by
  obtain ⟨f, fd, F, hm⟩ := T.f_number
  have z_gcd := T.z_gcd
  obtain ⟨C_NumberError, x_NumberError⟩ := T.x_NumberError
  exact ⟨f, fd, ["top", "bottom"], fnD F sc_number S_number m_number (fn2_len _) (fn2_body fun _ _ => rfl) (fun cdv A outer s H E B W hr tk hp => (pds_cons (pd_if (pt_cmp' (op_eqD hr.units) rd_eq (nomark _) (pd_var 1) pd_int) (pds_one (pd_raise0 rfl tk PySem.F.excBase_ValueError x_NumberError.xP x_NumberError.gP x_NumberError.kP (raises_own x_NumberError.bP x_NumberError.tP))) pds_nil) (pds_cons (pd_set 2 sc_number.nd (pd_callM cr_gcd rd_gcd z_gcd (pda_cons (pd_var 0) (pda_cons (pd_var 1) pda_nil)))) (pds_cons (pd_if (pt_cmp' (op_lt.or op_lt_str) rd_lt (nomark _) (pd_var 1) pd_int) (pds_one (pd_set 2 sc_number.nd (pd_neg (pd_var 2)))) pds_nil) (pds_one (pd_ret (pd_tup (pda_cons (pd_div (pd_var 0) (pd_var 2)) (pda_cons (pd_div (pd_var 1) (pd_var 2)) pda_nil))))))))), hm, F.kp, F.binds fun _ _ _ _ _ _ us hl => match us, hl with | [_, _], _ => rfl⟩
theorem d_plus (T : Txt K mg) : DefOk P w K mg base "plus" 2 m_plus := by
  obtain ⟨f, fd, F, hm⟩ := T.f_plus
  have d_number : DefOk P w K mg base "number" 1 m_number := d_number T
  exact ⟨f, fd, ["first", "second"], fnD F sc_plus S_plus m_plus (fn2_len _) (fn2_body fun _ _ => rfl) (fun cdv A outer s H E B W hr tk hp => (pds_cons (pd_asg (pd_var 0) (pgd_tup rfl (pgds_cons (pgd_name 2 sc_plus.nd) (pgds_cons (pgd_name 3 sc_plus.nd) pgds_nil)))) (pds_cons (pd_asg (pd_var 1) (pgd_tup rfl (pgds_cons (pgd_name 4 sc_plus.nd) (pgds_cons (pgd_name 5 sc_plus.nd) pgds_nil)))) (pds_one (pd_ret (pd_call d_number (hr.mono (by decide)) tk (pda_cons (pd_add (pd_mul (pd_var 2) (pd_var 5)) (pd_mul (pd_var 4) (pd_var 3))) (pda_cons (pd_mul (pd_var 3) (pd_var 5)) pda_nil)))))))), hm, F.kp, F.binds fun _ _ _ _ _ _ us hl => match us, hl with | [_, _], _ => rfl⟩
theorem d_times (T : Txt K mg) : DefOk P w K mg base "times" 2 m_times := by
  obtain ⟨f, fd, F, hm⟩ := T.f_times
  have d_number : DefOk P w K mg base "number" 1 m_number := d_number T
  exact ⟨f, fd, ["first", "second"], fnD F sc_times S_times m_times (fn2_len _) (fn2_body fun _ _ => rfl) (fun cdv A outer s H E B W hr tk hp => (pds_one (pd_ret (pd_call d_number (hr.mono (by decide)) tk (pda_cons (pd_mul (pd_ix (pd_var 0) pd_int) (pd_ix (pd_var 1) pd_int)) (pda_cons (pd_mul (pd_ix (pd_var 0) pd_int) (pd_ix (pd_var 1) pd_int)) pda_nil)))))), hm, F.kp, F.binds fun _ _ _ _ _ _ us hl => match us, hl with | [_, _], _ => rfl⟩
theorem d_compare (T : Txt K mg) : DefOk P w K mg base "compare" 1 m_compare := by
  obtain ⟨f, fd, F, hm⟩ := T.f_compare
  exact ⟨f, fd, ["first", "second"], fnD F sc_compare S_compare m_compare (fn2_len _) (fn2_body fun _ _ => rfl) (fun cdv A outer s H E B W hr tk hp => (pds_cons (pd_set 2 sc_compare.nd (pd_mul (pd_ix (pd_var 0) pd_int) (pd_ix (pd_var 1) pd_int))) (pds_cons (pd_set 3 sc_compare.nd (pd_mul (pd_ix (pd_var 1) pd_int) (pd_ix (pd_var 0) pd_int))) (pds_cons (pd_if (pt_cmp' (op_lt.or op_lt_str) rd_lt (nomark _) (pd_var 2) (pd_var 3)) (pds_one (pd_ret (pd_neg pd_int))) pds_nil) (pds_cons (pd_if (pt_cmp' op_gt rd_gt (nomark _) (pd_var 2) (pd_var 3)) (pds_one (pd_ret pd_int)) pds_nil) (pds_one (pd_ret pd_int))))))), hm, F.kp, F.binds fun _ _ _ _ _ _ us hl => match us, hl with | [_, _], _ => rfl⟩
theorem d_unknowns (T : Txt K mg) : DefOk P w K mg base "unknowns" 1 m_unknowns := by
  obtain ⟨f, fd, F, hm⟩ := T.f_unknowns
  have z_sorted := T.z_sorted
  exact ⟨f, fd, ["system"], fnD F sc_unknowns S_unknowns m_unknowns (fn1_len _) (fn1_body fun _ => rfl) (fun cdv A outer s H E B W hr tk hp => (pds_one (pd_ret (pd_sortSet (own := [("parts", 1), ("_", 2), ("unknown", 3)]) rfl sc_unknowns.nd z_sorted (pid_seq (pd_var 0)) (blkOk_by (N := ["system", "parts", "_", "unknown"]) (sc := defScope s_unknowns) (by decide +kernel)) (fun _ _ _ _ _ => (pgw_tup rfl (pgws_cons (pgw_name 1 sc_unknowns.nd) (pgws_cons (pgw_name 2 sc_unknowns.nd) (pgws_cons (pgw_name 2 sc_unknowns.nd) pgws_nil))))) (fun _ _ _ _ _ B => (pid_seq (pd_var 1))) (fun _ _ _ _ _ => (pgw_tup rfl (pgws_cons (pgw_name 3 sc_unknowns.nd) (pgws_cons (pgw_name 2 sc_unknowns.nd) pgws_nil)))) (fun _ _ _ _ _ B => (pd_var 3)))))), hm, F.kp, F.binds fun _ _ _ _ _ _ us hl => match us, hl with | [_], _ => rfl⟩
theorem d_value (T : Txt K mg) : DefOk P w K mg base "value" 3 m_value := by
  obtain ⟨f, fd, F, hm⟩ := T.f_value
  have d_times : DefOk P w K mg base "times" 2 m_times := d_times T
  have d_plus : DefOk P w K mg base "plus" 2 m_plus := d_plus T
  have z_dict := T.z_dict
  obtain ⟨v_ZERO, u_ZERO, c_ZERO, r_ZERO, t_ZERO⟩ := T.c_ZERO
  exact ⟨f, fd, ["some_term", "point"], fnD F sc_value S_value m_value (fn2_len _) (fn2_body fun _ _ => rfl) (fun cdv A outer s H E B W hr tk hp => (pds_cons (pd_asg (pd_var 0) (pgd_tup rfl (pgds_cons (pgd_name 2 sc_value.nd) (pgds_cons (pgd_name 3 sc_value.nd) pgds_nil)))) (pds_cons (pd_dict 4 rfl sc_value.nd z_dict (pd_var 1)) (pds_cons (pd_for hp rfl (pid_seq (pd_var 2)) (pgd_tup rfl (pgds_cons (pgd_name 5 sc_value.nd) (pgds_cons (pgd_name 6 sc_value.nd) pgds_nil))) (pds_one (pd_set 3 sc_value.nd (pd_call d_plus (hr.mono (by decide)) tk (pda_cons (pd_var 3) (pda_cons (pd_call d_times (hr.mono (by decide)) tk (pda_cons (pd_var 6) (pda_cons (pd_dget 4 (hu1 hr) (pd_var 5) (pd_glob c_ZERO r_ZERO t_ZERO) ⟨rfl, rfl, rfl, rfl⟩) pda_nil))) pda_nil)))))) (pds_one (pd_ret (pd_var 3))))))), hm, F.kp, F.binds fun _ _ _ _ _ _ us hl => match us, hl with | [_, _], _ => rfl⟩
theorem d_holds (T : Txt K mg) : DefOk P w K mg base "holds" 4 m_holds := by
  obtain ⟨f, fd, F, hm⟩ := T.f_holds
  have d_value : DefOk P w K mg base "value" 3 m_value := d_value T
  have d_compare : DefOk P w K mg base "compare" 1 m_compare := d_compare T
  obtain ⟨v_ZERO, u_ZERO, c_ZERO, r_ZERO, t_ZERO⟩ := T.c_ZERO
  exact ⟨f, fd, ["some_row", "point"], fnD F sc_holds S_holds m_holds (fn2_len _) (fn2_body fun _ _ => rfl) (fun cdv A outer s H E B W hr tk hp => (pds_cons (pd_asg (pd_var 0) (pgd_tup rfl (pgds_cons (pgd_name 2 sc_holds.nd) (pgds_cons (pgd_name 3 sc_holds.nd) (pgds_cons (pgd_name 4 sc_holds.nd) pgds_nil))))) (pds_cons (pd_set 5 sc_holds.nd (pd_call d_compare (hr.mono (by decide)) tk (pda_cons (pd_call d_value (hr.mono (by decide)) tk (pda_cons (pd_tup (pda_cons (pd_var 2) (pda_cons (pd_glob c_ZERO r_ZERO t_ZERO) pda_nil))) (pda_cons (pd_var 1) pda_nil))) (pda_cons (pd_var 4) pda_nil)))) (pds_cons (pd_if (pt_cmp' (op_eqD hr.units) rd_eq (nomark _) (pd_var 3) pd_str) (pds_one (pd_ret (pd_cmp (op_eqD hr.units) rd_eq (nomark _) (pd_var 5) pd_int))) pds_nil) (pds_cons (pd_if (pt_cmp' (op_eqD hr.units) rd_eq (nomark _) (pd_var 3) pd_str) (pds_one (pd_ret (pd_cmp (op_lt.or op_lt_str) rd_lt (nomark _) (pd_var 5) pd_int))) pds_nil) (pds_one (pd_ret (pd_cmp op_le rd_le (nomark _) (pd_var 5) pd_int)))))))), hm, F.kp, F.binds fun _ _ _ _ _ _ us hl => match us, hl with | [_, _], _ => rfl⟩
theorem d_is_point (T : Txt K mg) : DefOk P w K mg base "is_point" 5 m_is_point := by
  obtain ⟨f, fd, F, hm⟩ := T.f_is_point
  have d_holds : DefOk P w K mg base "holds" 4 m_holds := d_holds T
  have z_all := T.z_all
  exact ⟨f, fd, ["system", "point"], fnD F sc_is_point S_is_point m_is_point (fn2_len _) (fn2_body fun _ _ => rfl) (fun cdv A outer s H E B W hr tk hp => (pds_one (pd_ret (pd_callB (cr_all rfl) rd_all z_all (by decide +kernel) (pda_cons (pd_lc (own := [("some_row", 2)]) rfl sc_is_point.nd (pid_seq (pd_var 0)) (blkOk_by (N := ["system", "point", "some_row"]) (sc := defScope s_is_point) (by decide +kernel)) (fun _ _ _ _ _ => (pgw_name 2 sc_is_point.nd)) (fun _ _ _ _ _ => pts_nilD) (fun _ _ _ _ _ B => (pd_call d_holds (hr.mono (by decide)) takes0 (pda_cons (pd_var 2) (pda_cons (pd_var 1) pda_nil))))) pda_nil))))), hm, F.kp, F.binds fun _ _ _ _ _ _ us hl => match us, hl with | [_, _], _ => rfl⟩
theorem d__law_cell (T : Txt K mg) : DefOk P w K mg base "_law_cell" 1 m__law_cell := by
  obtain ⟨f, fd, F, hm⟩ := T.f__law_cell
  have z_len := T.z_len
  exact ⟨f, fd, ["script", "k"], fnD F sc__law_cell S__law_cell m__law_cell (fn2_len _) (fn2_body fun _ _ => rfl) (fun cdv A outer s H E B W hr tk hp => (pds_cons (pd_if (pt_cmp' (op_lt.or op_lt_str) rd_lt (nomark _) (pd_var 1) (pd_callB call_len rd_len z_len (by decide +kernel) (pda_cons (pd_var 0) pda_nil))) (pds_one (pd_ret (pd_ix (pd_var 0) (pd_var 1)))) pds_nil) (pds_one (pd_ret pd_int)))), hm, F.kp, F.binds fun _ _ _ _ _ _ us hl => match us, hl with | [_, _], _ => rfl⟩
theorem d__law_draw (T : Txt K mg) : DefOk P w K mg base "_law_draw" 2 m__law_draw := by
  obtain ⟨f, fd, F, hm⟩ := T.f__law_draw
  have d__law_cell : DefOk P w K mg base "_law_cell" 1 m__law_cell := d__law_cell T
  have z_len := T.z_len
  have z_range := T.z_range
  exact ⟨f, fd, ["script", "k", "sizes"], fnD F sc__law_draw S__law_draw m__law_draw (fn3_len _) (fn3_body fun _ _ _ => rfl) (fun cdv A outer s H E B W hr tk hp => (pds_cons (pd_set 3 sc__law_draw.nd (pd_call d__law_cell (hr.mono (by decide)) tk (pda_cons (pd_var 0) (pda_cons (pd_var 1) pda_nil)))) (pds_cons (pd_if (pt_cmp' (op_lt.or op_lt_str) rd_lt (nomark _) (pd_var 3) pd_int) (pds_one (pd_set 3 sc__law_draw.nd (pd_neg (pd_var 3)))) pds_nil) (pds_cons (pd_setOwn 4 sc__law_draw.nd pda_nil) (pds_cons (pd_if (pt_cmp' op_ge rd_ge (nomark _) (pd_var 3) (pd_pow pd_int pd_int)) (pds_cons (pd_set 3 sc__law_draw.nd (pd_sub (pd_var 3) (pd_pow pd_int pd_int))) (pds_cons (pd_for hp rfl (pid_seq (pd_var 2)) (pgd_name 5 sc__law_draw.nd) (pds_cons (pd_append 4 (pd_mod (pd_var 3) (pd_var 5))) (pds_one (pd_set 3 sc__law_draw.nd (pd_div (pd_var 3) (pd_var 5)))))) (pds_one (pd_ret (pd_var 4))))) pds_nil) (pds_cons (pd_set 6 sc__law_draw.nd (pd_mod (pd_add (pd_add (pd_var 3) pd_int) (pd_mul pd_int (pd_var 1))) pd_int)) (pds_cons (pd_for hp rfl (pid_range1 z_range (pda_cons (pd_callB call_len rd_len z_len (by decide +kernel) (pda_cons (pd_var 2) pda_nil)) pda_nil)) (pgd_name 7 sc__law_draw.nd) (pds_cons (pd_set 6 sc__law_draw.nd (pd_mod (pd_add (pd_add (pd_mul (pd_var 6) pd_int) pd_int) (pd_var 7)) pd_int)) (pds_cons (pd_set 6 sc__law_draw.nd (pd_mod (pd_add (pd_mul (pd_var 6) pd_int) pd_int) pd_int)) (pds_one (pd_append 4 (pd_mod (pd_div (pd_var 6) pd_int) (pd_ix (pd_var 2) (pd_var 7)))))))) (pds_one (pd_ret (pd_var 4)))))))))), hm, F.kp, F.binds fun _ _ _ _ _ _ us hl => match us, hl with | [_, _, _], _ => rfl⟩
theorem d__law_f (T : Txt K mg) : DefOk P w K mg base "_law_f" 1 m__law_f := by
  obtain ⟨f, fd, F, hm⟩ := T.f__law_f
  have z_max := T.z_max
  exact ⟨f, fd, ["top", "bottom"], fnD F sc__law_f S__law_f m__law_f (fn2_len _) (fn2_body fun _ _ => rfl) (fun cdv A outer s H E B W hr tk hp => (pds_cons (pd_if (pt_cmp' (op_lt.or op_lt_str) rd_lt (nomark _) (pd_var 1) pd_int) (pds_cons (pd_set 0 sc__law_f.nd (pd_neg (pd_var 0))) (pds_one (pd_set 1 sc__law_f.nd (pd_neg (pd_var 1))))) pds_nil) (pds_cons (pd_set 2 sc__law_f.nd (pd_callB (call_max2 rfl) rd_max z_max (by decide +kernel) (pda_cons (pd_var 0) (pda_cons (pd_neg (pd_var 0)) pda_nil)))) (pds_cons (pd_set 3 sc__law_f.nd (pd_var 1)) (pds_cons (pd_while hp (pt_cmp' (op_neD hr.units) rd_ne (nomark _) (pd_var 3) pd_int) (pds_one (pd_par 2 3 rfl sc__law_f.nd (pda_cons (pd_var 3) (pda_cons (pd_mod (pd_var 2) (pd_var 3)) pda_nil))))) (pds_one (pd_ret (pd_tup (pda_cons (pd_div (pd_var 0) (pd_var 2)) (pda_cons (pd_div (pd_var 1) (pd_var 2)) pda_nil)))))))))), hm, F.kp, F.binds fun _ _ _ _ _ _ us hl => match us, hl with | [_, _], _ => rfl⟩
theorem d__law_add (T : Txt K mg) : DefOk P w K mg base "_law_add" 2 m__law_add := by
  obtain ⟨f, fd, F, hm⟩ := T.f__law_add
  have d__law_f : DefOk P w K mg base "_law_f" 1 m__law_f := d__law_f T
  exact ⟨f, fd, ["a", "b"], fnD F sc__law_add S__law_add m__law_add (fn2_len _) (fn2_body fun _ _ => rfl) (fun cdv A outer s H E B W hr tk hp => (pds_one (pd_ret (pd_call d__law_f (hr.mono (by decide)) tk (pda_cons (pd_add (pd_mul (pd_ix (pd_var 0) pd_int) (pd_ix (pd_var 1) pd_int)) (pd_mul (pd_ix (pd_var 1) pd_int) (pd_ix (pd_var 0) pd_int))) (pda_cons (pd_mul (pd_ix (pd_var 0) pd_int) (pd_ix (pd_var 1) pd_int)) pda_nil)))))), hm, F.kp, F.binds fun _ _ _ _ _ _ us hl => match us, hl with | [_, _], _ => rfl⟩
theorem d__law_sub (T : Txt K mg) : DefOk P w K mg base "_law_sub" 2 m__law_sub := by
  obtain ⟨f, fd, F, hm⟩ := T.f__law_sub
  have d__law_f : DefOk P w K mg base "_law_f" 1 m__law_f := d__law_f T
  exact ⟨f, fd, ["a", "b"], fnD F sc__law_sub S__law_sub m__law_sub (fn2_len _) (fn2_body fun _ _ => rfl) (fun cdv A outer s H E B W hr tk hp => (pds_one (pd_ret (pd_call d__law_f (hr.mono (by decide)) tk (pda_cons (pd_sub (pd_mul (pd_ix (pd_var 0) pd_int) (pd_ix (pd_var 1) pd_int)) (pd_mul (pd_ix (pd_var 1) pd_int) (pd_ix (pd_var 0) pd_int))) (pda_cons (pd_mul (pd_ix (pd_var 0) pd_int) (pd_ix (pd_var 1) pd_int)) pda_nil)))))), hm, F.kp, F.binds fun _ _ _ _ _ _ us hl => match us, hl with | [_, _], _ => rfl⟩
theorem d__law_mul (T : Txt K mg) : DefOk P w K mg base "_law_mul" 2 m__law_mul := by
  obtain ⟨f, fd, F, hm⟩ := T.f__law_mul
  have d__law_f : DefOk P w K mg base "_law_f" 1 m__law_f := d__law_f T
  exact ⟨f, fd, ["a", "b"], fnD F sc__law_mul S__law_mul m__law_mul (fn2_len _) (fn2_body fun _ _ => rfl) (fun cdv A outer s H E B W hr tk hp => (pds_one (pd_ret (pd_call d__law_f (hr.mono (by decide)) tk (pda_cons (pd_mul (pd_ix (pd_var 0) pd_int) (pd_ix (pd_var 1) pd_int)) (pda_cons (pd_mul (pd_ix (pd_var 0) pd_int) (pd_ix (pd_var 1) pd_int)) pda_nil)))))), hm, F.kp, F.binds fun _ _ _ _ _ _ us hl => match us, hl with | [_, _], _ => rfl⟩
theorem d__law_div (T : Txt K mg) : DefOk P w K mg base "_law_div" 2 m__law_div := by
  obtain ⟨f, fd, F, hm⟩ := T.f__law_div
  have d__law_f : DefOk P w K mg base "_law_f" 1 m__law_f := d__law_f T
  exact ⟨f, fd, ["a", "b"], fnD F sc__law_div S__law_div m__law_div (fn2_len _) (fn2_body fun _ _ => rfl) (fun cdv A outer s H E B W hr tk hp => (pds_one (pd_ret (pd_call d__law_f (hr.mono (by decide)) tk (pda_cons (pd_mul (pd_ix (pd_var 0) pd_int) (pd_ix (pd_var 1) pd_int)) (pda_cons (pd_mul (pd_ix (pd_var 0) pd_int) (pd_ix (pd_var 1) pd_int)) pda_nil)))))), hm, F.kp, F.binds fun _ _ _ _ _ _ us hl => match us, hl with | [_, _], _ => rfl⟩
theorem d__law_less (T : Txt K mg) : DefOk P w K mg base "_law_less" 1 m__law_less := by
  obtain ⟨f, fd, F, hm⟩ := T.f__law_less
  exact ⟨f, fd, ["a", "b"], fnD F sc__law_less S__law_less m__law_less (fn2_len _) (fn2_body fun _ _ => rfl) (fun cdv A outer s H E B W hr tk hp => (pds_one (pd_ret (pd_cmp (op_lt.or op_lt_str) rd_lt (nomark _) (pd_mul (pd_ix (pd_var 0) pd_int) (pd_ix (pd_var 1) pd_int)) (pd_mul (pd_ix (pd_var 1) pd_int) (pd_ix (pd_var 0) pd_int)))))), hm, F.kp, F.binds fun _ _ _ _ _ _ us hl => match us, hl with | [_, _], _ => rfl⟩
theorem d__law_scaled (T : Txt K mg) : DefOk P w K mg base "_law_scaled" 3 m__law_scaled := by
  obtain ⟨f, fd, F, hm⟩ := T.f__law_scaled
  have d__law_mul : DefOk P w K mg base "_law_mul" 2 m__law_mul := d__law_mul T
  have z_tuple := T.z_tuple
  exact ⟨f, fd, ["line", "factor"], fnD F sc__law_scaled S__law_scaled m__law_scaled (fn2_len _) (fn2_body fun _ _ => rfl) (fun cdv A outer s H E B W hr tk hp => (pds_one (pd_ret (pd_tup (pda_cons (pd_callTy call_tupleN rd_tuple z_tuple (by decide +kernel) (pda_cons (pd_lc (own := [("name", 2), ("number_v", 3)]) rfl sc__law_scaled.nd (pid_seq (pd_ix (pd_var 0) pd_int)) (blkOk_by (N := ["line", "factor", "name", "number_v"]) (sc := defScope s__law_scaled) (by decide +kernel)) (fun _ _ _ _ _ => (pgw_tup rfl (pgws_cons (pgw_name 2 sc__law_scaled.nd) (pgws_cons (pgw_name 3 sc__law_scaled.nd) pgws_nil)))) (fun _ _ _ _ _ => pts_nilD) (fun _ _ _ _ _ B => (pd_tup (pda_cons (pd_var 2) (pda_cons (pd_call d__law_mul (hr.mono (by decide)) takes0 (pda_cons (pd_var 3) (pda_cons (pd_var 1) pda_nil))) pda_nil))))) pda_nil)) (pda_cons (pd_ix (pd_var 0) pd_int) (pda_cons (pd_call d__law_mul (hr.mono (by decide)) tk (pda_cons (pd_ix (pd_var 0) pd_int) (pda_cons (pd_var 1) pda_nil))) pda_nil))))))), hm, F.kp, F.binds fun _ _ _ _ _ _ us hl => match us, hl with | [_, _], _ => rfl⟩
theorem d__law_factor (T : Txt K mg) : DefOk P w K mg base "_law_factor" 3 m__law_factor := by
  obtain ⟨f, fd, F, hm⟩ := T.f__law_factor
  have d__law_f : DefOk P w K mg base "_law_f" 1 m__law_f := d__law_f T
  have d__law_div : DefOk P w K mg base "_law_div" 2 m__law_div := d__law_div T
  have d__law_mul : DefOk P w K mg base "_law_mul" 2 m__law_mul := d__law_mul T
  have z_len := T.z_len
  have z_max := T.z_max
  exact ⟨f, fd, ["line"], fnD F sc__law_factor S__law_factor m__law_factor (fn1_len _) (fn1_body fun _ => rfl) (fun cdv A outer s H E B W hr tk hp => (pds_cons (pd_asg (pd_var 0) (pgd_tup rfl (pgds_cons (pgd_name 1 sc__law_factor.nd) (pgds_cons (pgd_name 2 sc__law_factor.nd) (pgds_cons (pgd_name 3 sc__law_factor.nd) pgds_nil))))) (pds_cons (pd_if (pt_cmp' (op_eqD hr.units) rd_eq (nomark _) (pd_callB call_len rd_len z_len (by decide +kernel) (pda_cons (pd_var 1) pda_nil)) pd_int) (pds_cons (pd_if (pt_cmp' (op_eqD hr.units) rd_eq (nomark _) (pd_ix (pd_var 3) pd_int) pd_int) (pds_one (pd_ret (pd_tup (pda_cons pd_int (pda_cons pd_int pda_nil))))) pds_nil) (pds_cons (pd_set 4 sc__law_factor.nd (pd_call d__law_div (hr.mono (by decide)) tk (pda_cons (pd_tup (pda_cons pd_int (pda_cons pd_int pda_nil))) (pda_cons (pd_call d__law_f (hr.mono (by decide)) tk (pda_cons (pd_callB (call_max2 rfl) rd_max z_max (by decide +kernel) (pda_cons (pd_ix (pd_var 3) pd_int) (pda_cons (pd_neg (pd_ix (pd_var 3) pd_int)) pda_nil))) (pda_cons (pd_ix (pd_var 3) pd_int) pda_nil))) pda_nil)))) (pds_cons (pd_if (PW.pt (pw_andD (pt_cmp' (op_eqD hr.units) rd_eq (nomark _) (pd_var 2) pd_str) (pw_and1 (pt_cmp' (op_lt.or op_lt_str) rd_lt (nomark _) (pd_ix (pd_var 3) pd_int) pd_int)))) (pds_one (pd_set 4 sc__law_factor.nd (pd_call d__law_mul (hr.mono (by decide)) tk (pda_cons (pd_var 4) (pda_cons (pd_tup (pda_cons (pd_neg pd_int) (pda_cons pd_int pda_nil))) pda_nil))))) pds_nil) (pds_one (pd_ret (pd_var 4)))))) pds_nil) (pds_cons (pd_set 5 sc__law_factor.nd pd_int) (pds_cons (pd_for hp rfl (pid_seq (pd_var 1)) (pgd_tup rfl (pgds_cons (pgd_name 6 sc__law_factor.nd) (pgds_cons (pgd_name 7 sc__law_factor.nd) pgds_nil))) (pds_one (pd_set 5 sc__law_factor.nd (pd_mul (pd_var 5) (pd_ix (pd_var 7) pd_int))))) (pds_cons (pd_set 8 sc__law_factor.nd pd_int) (pds_cons (pd_for hp rfl (pid_seq (pd_var 1)) (pgd_tup rfl (pgds_cons (pgd_name 6 sc__law_factor.nd) (pgds_cons (pgd_name 7 sc__law_factor.nd) pgds_nil))) (pds_cons (pd_set 9 sc__law_factor.nd (pd_mul (pd_callB (call_max2 rfl) rd_max z_max (by decide +kernel) (pda_cons (pd_ix (pd_var 7) pd_int) (pda_cons (pd_neg (pd_ix (pd_var 7) pd_int)) pda_nil))) (pd_div (pd_var 5) (pd_ix (pd_var 7) pd_int)))) (pds_cons (pd_set 10 sc__law_factor.nd (pd_var 8)) (pds_cons (pd_while hp (pt_cmp' (op_neD hr.units) rd_ne (nomark _) (pd_var 10) pd_int) (pds_one (pd_par 9 10 rfl sc__law_factor.nd (pda_cons (pd_var 10) (pda_cons (pd_mod (pd_var 9) (pd_var 10)) pda_nil))))) (pds_one (pd_set 8 sc__law_factor.nd (pd_var 9))))))) (pds_cons (pd_set 4 sc__law_factor.nd (pd_call d__law_f (hr.mono (by decide)) tk (pda_cons (pd_var 5) (pda_cons (pd_var 8) pda_nil)))) (pds_cons (pd_if (PW.pt (pw_andD (pt_cmp' (op_eqD hr.units) rd_eq (nomark _) (pd_var 2) pd_str) (pw_and1 (pt_cmp' (op_lt.or op_lt_str) rd_lt (nomark _) (pd_ix (pd_ix (pd_ix (pd_var 1) pd_int) pd_int) pd_int) pd_int)))) (pds_one (pd_set 4 sc__law_factor.nd (pd_call d__law_mul (hr.mono (by decide)) tk (pda_cons (pd_var 4) (pda_cons (pd_tup (pda_cons (pd_neg pd_int) (pda_cons pd_int pda_nil))) pda_nil))))) pds_nil) (pds_one (pd_ret (pd_var 4)))))))))))), hm, F.kp, F.binds fun _ _ _ _ _ _ us hl => match us, hl with | [_], _ => rfl⟩
theorem d__law_normal (T : Txt K mg) : DefOk P w K mg base "_law_normal" 4 m__law_normal := by
  obtain ⟨f, fd, F, hm⟩ := T.f__law_normal
  have d__law_factor : DefOk P w K mg base "_law_factor" 3 m__law_factor := d__law_factor T
  have d__law_scaled : DefOk P w K mg base "_law_scaled" 3 m__law_scaled := d__law_scaled T
  exact ⟨f, fd, ["line"], fnD F sc__law_normal S__law_normal m__law_normal (fn1_len _) (fn1_body fun _ => rfl) (fun cdv A outer s H E B W hr tk hp => (pds_one (pd_ret (pd_call d__law_scaled (hr.mono (by decide)) tk (pda_cons (pd_var 0) (pda_cons (pd_call d__law_factor (hr.mono (by decide)) tk (pda_cons (pd_var 0) pda_nil)) pda_nil)))))), hm, F.kp, F.binds fun _ _ _ _ _ _ us hl => match us, hl with | [_], _ => rfl⟩
theorem d__law_parts (T : Txt K mg) : DefOk P w K mg base "_law_parts" 3 m__law_parts := by
  obtain ⟨f, fd, F, hm⟩ := T.f__law_parts
  have d__law_add : DefOk P w K mg base "_law_add" 2 m__law_add := d__law_add T
  have z_sorted := T.z_sorted
  have z_tuple := T.z_tuple
  exact ⟨f, fd, ["pairs"], fnD F sc__law_parts S__law_parts m__law_parts (fn1_len _) (fn1_body fun _ => rfl) (fun cdv A outer s H E B W hr tk hp => (pds_cons (pd_newD 1 sc__law_parts.nd) (pds_cons (pd_for hp rfl (pid_seq (pd_var 0)) (pgd_tup rfl (pgds_cons (pgd_name 2 sc__law_parts.nd) (pgds_cons (pgd_name 3 sc__law_parts.nd) pgds_nil))) (pds_one (pd_put 1 (hu1 hr) (pd_var 2) (pd_call d__law_add (hr.mono (by decide)) tk (pda_cons (pd_dget 1 (hu1 hr) (pd_var 2) (pd_tup (pda_cons pd_int (pda_cons pd_int pda_nil))) ⟨rfl, rfl, rfl, rfl⟩) (pda_cons (pd_var 3) pda_nil)))))) (pds_one (pd_ret (pd_callTy call_tupleN rd_tuple z_tuple (by decide +kernel) (pda_cons (pd_lc (own := [("name", 2)]) rfl sc__law_parts.nd (pid_seq (pd_dsort 1 rfl z_sorted)) (blkOk_by (N := ["pairs", "sums", "name", "number_v"]) (sc := defScope s__law_parts) (by decide +kernel)) (fun _ _ _ _ _ => (pgw_name 2 sc__law_parts.nd)) (fun _ _ _ _ _ => (pts_oneD fun B => (pt_cmp' (op_neD hr.units) rd_ne (nomark _) (pd_ix (pd_dix 1 (hu1 hr) (pd_var 2)) pd_int) pd_int))) (fun _ _ _ _ _ B => (pd_tup (pda_cons (pd_var 2) (pda_cons (pd_dix 1 (hu1 hr) (pd_var 2)) pda_nil))))) pda_nil))))))), hm, F.kp, F.binds fun _ _ _ _ _ _ us hl => match us, hl with | [_], _ => rfl⟩
theorem d__law_row (T : Txt K mg) : DefOk P w K mg base "_law_row" 5 m__law_row := by
  obtain ⟨f, fd, F, hm⟩ := T.f__law_row
  have d__law_sub : DefOk P w K mg base "_law_sub" 2 m__law_sub := d__law_sub T
  have d__law_parts : DefOk P w K mg base "_law_parts" 3 m__law_parts := d__law_parts T
  have d__law_normal : DefOk P w K mg base "_law_normal" 4 m__law_normal := d__law_normal T
  exact ⟨f, fd, ["pairs", "sign", "bound"], fnD F sc__law_row S__law_row m__law_row (fn3_len _) (fn3_body fun _ _ _ => rfl) (fun cdv A outer s H E B W hr tk hp => (pds_cons (pd_if (PW.pt (pw_orD (pt_cmp' (op_eqD hr.units) rd_eq (nomark _) (pd_var 1) pd_str) (pw_or1 (pt_cmp' (op_eqD hr.units) rd_eq (nomark _) (pd_var 1) pd_str)))) (pds_cons (pd_setLc 0 (own := [("name", 3), ("number_v", 4)]) rfl sc__law_row.nd (sw_true rfl rfl rfl (by decide +kernel)) (pid_seq (pd_var 0)) (blkOk_by (N := ["pairs", "sign", "bound", "name", "number_v"]) (sc := defScope s__law_row) (by decide +kernel)) (fun _ _ _ _ _ => (pgw_tup rfl (pgws_cons (pgw_name 3 sc__law_row.nd) (pgws_cons (pgw_name 4 sc__law_row.nd) pgws_nil)))) (fun _ _ _ _ _ => pts_nilD) (fun _ _ _ _ _ B => (pd_tup (pda_cons (pd_var 3) (pda_cons (pd_call d__law_sub (hr.mono (by decide)) takes0 (pda_cons (pd_tup (pda_cons pd_int (pda_cons pd_int pda_nil))) (pda_cons (pd_var 4) pda_nil))) pda_nil))))) (pds_cons (pd_set 2 sc__law_row.nd (pd_call d__law_sub (hr.mono (by decide)) tk (pda_cons (pd_tup (pda_cons pd_int (pda_cons pd_int pda_nil))) (pda_cons (pd_var 2) pda_nil)))) (pds_one (pd_set 1 sc__law_row.nd (pd_disp [(">=", "<="), (">", "<")] 1 (hu1 hr) (pps_cons pe_str pe_str (pps_cons pe_str pe_str pps_nil))))))) pds_nil) (pds_one (pd_ret (pd_call d__law_normal (hr.mono (by decide)) tk (pda_cons (pd_tup (pda_cons (pd_call d__law_parts (hr.mono (by decide)) tk (pda_cons (pd_var 0) pda_nil)) (pda_cons (pd_var 1) (pda_cons (pd_var 2) pda_nil)))) pda_nil)))))), hm, F.kp, F.binds fun _ _ _ _ _ _ us hl => match us, hl with | [_, _, _], _ => rfl⟩
theorem d__law_at (T : Txt K mg) : DefOk P w K mg base "_law_at" 3 m__law_at := by
  obtain ⟨f, fd, F, hm⟩ := T.f__law_at
  have d__law_mul : DefOk P w K mg base "_law_mul" 2 m__law_mul := d__law_mul T
  have d__law_add : DefOk P w K mg base "_law_add" 2 m__law_add := d__law_add T
  have z_dict := T.z_dict
  exact ⟨f, fd, ["parts", "point"], fnD F sc__law_at S__law_at m__law_at (fn2_len _) (fn2_body fun _ _ => rfl) (fun cdv A outer s H E B W hr tk hp => (pds_cons (pd_dict 2 rfl sc__law_at.nd z_dict (pd_var 1)) (pds_cons (pd_set 3 sc__law_at.nd (pd_tup (pda_cons pd_int (pda_cons pd_int pda_nil)))) (pds_cons (pd_for hp rfl (pid_seq (pd_var 0)) (pgd_tup rfl (pgds_cons (pgd_name 4 sc__law_at.nd) (pgds_cons (pgd_name 5 sc__law_at.nd) pgds_nil))) (pds_one (pd_set 3 sc__law_at.nd (pd_call d__law_add (hr.mono (by decide)) tk (pda_cons (pd_var 3) (pda_cons (pd_call d__law_mul (hr.mono (by decide)) tk (pda_cons (pd_var 5) (pda_cons (pd_dget 2 (hu1 hr) (pd_var 4) (pd_tup (pda_cons pd_int (pda_cons pd_int pda_nil))) ⟨rfl, rfl, rfl, rfl⟩) pda_nil))) pda_nil)))))) (pds_one (pd_ret (pd_var 3))))))), hm, F.kp, F.binds fun _ _ _ _ _ _ us hl => match us, hl with | [_, _], _ => rfl⟩
theorem d__law_true (T : Txt K mg) : DefOk P w K mg base "_law_true" 4 m__law_true := by
  obtain ⟨f, fd, F, hm⟩ := T.f__law_true
  have d__law_at : DefOk P w K mg base "_law_at" 3 m__law_at := d__law_at T
  have d__law_less : DefOk P w K mg base "_law_less" 1 m__law_less := d__law_less T
  exact ⟨f, fd, ["line", "point"], fnD F sc__law_true S__law_true m__law_true (fn2_len _) (fn2_body fun _ _ => rfl) (fun cdv A outer s H E B W hr tk hp => (pds_cons (pd_set 2 sc__law_true.nd (pd_call d__law_at (hr.mono (by decide)) tk (pda_cons (pd_ix (pd_var 0) pd_int) (pda_cons (pd_var 1) pda_nil)))) (pds_cons (pd_if (pt_cmp' (op_eqD hr.units) rd_eq (nomark _) (pd_ix (pd_var 0) pd_int) pd_str) (pds_one (pd_ret (pd_cmp (op_eqD hr.units) rd_eq (nomark _) (pd_var 2) (pd_ix (pd_var 0) pd_int)))) pds_nil) (pds_cons (pd_if (pt_cmp' (op_eqD hr.units) rd_eq (nomark _) (pd_ix (pd_var 0) pd_int) pd_str) (pds_one (pd_ret (pd_call d__law_less (hr.mono (by decide)) tk (pda_cons (pd_var 2) (pda_cons (pd_ix (pd_var 0) pd_int) pda_nil))))) pds_nil) (pds_one (pd_ret (pd_not (pd_call d__law_less (hr.mono (by decide)) tk (pda_cons (pd_ix (pd_var 0) pd_int) (pda_cons (pd_var 2) pda_nil)))))))))), hm, F.kp, F.binds fun _ _ _ _ _ _ us hl => match us, hl with | [_, _], _ => rfl⟩
theorem d__law_all (T : Txt K mg) : DefOk P w K mg base "_law_all" 5 m__law_all := by
  obtain ⟨f, fd, F, hm⟩ := T.f__law_all
  have d__law_true : DefOk P w K mg base "_law_true" 4 m__law_true := d__law_true T
  exact ⟨f, fd, ["rows", "point"], fnD F sc__law_all S__law_all m__law_all (fn2_len _) (fn2_body fun _ _ => rfl) (fun cdv A outer s H E B W hr tk hp => (pds_cons (pd_for hp rfl (pid_seq (pd_var 0)) (pgd_name 2 sc__law_all.nd) (pds_one (pd_if (pt_notD (pd_tru (pd_call d__law_true (hr.mono (by decide)) tk (pda_cons (pd_var 2) (pda_cons (pd_var 1) pda_nil))))) (pds_one (pd_ret pd_bl)) pds_nil))) (pds_one (pd_ret pd_bl)))), hm, F.kp, F.binds fun _ _ _ _ _ _ us hl => match us, hl with | [_, _], _ => rfl⟩
theorem d__law_names (T : Txt K mg) : DefOk P w K mg base "_law_names" 1 m__law_names := by
  obtain ⟨f, fd, F, hm⟩ := T.f__law_names
  have z_sorted := T.z_sorted
  exact ⟨f, fd, ["rows"], fnD F sc__law_names S__law_names m__law_names (fn1_len _) (fn1_body fun _ => rfl) (fun cdv A outer s H E B W hr tk hp => (pds_cons (pd_setOwn 1 sc__law_names.nd pda_nil) (pds_cons (pd_for hp rfl (pid_seq (pd_var 0)) (pgd_name 2 sc__law_names.nd) (pds_one (pd_for hp rfl (pid_seq (pd_ix (pd_var 2) pd_int)) (pgd_tup rfl (pgds_cons (pgd_name 3 sc__law_names.nd) (pgds_cons (pgd_name 4 sc__law_names.nd) pgds_nil))) (pds_one (pd_if (pt_notInO 1 (hu65 hr) (pd_var 3)) (pds_one (pd_append 1 (pd_var 3))) pds_nil))))) (pds_one (pd_ret (pd_callB cr_sortedS rd_sorted z_sorted (by decide +kernel) (pda_cons (pd_var 1) pda_nil))))))), hm, F.kp, F.binds fun _ _ _ _ _ _ us hl => match us, hl with | [_], _ => rfl⟩
theorem d__law_pairs (T : Txt K mg) : DefOk P w K mg base "_law_pairs" 2 m__law_pairs := by
  obtain ⟨f, fd, F, hm⟩ := T.f__law_pairs
  have d__law_f : DefOk P w K mg base "_law_f" 1 m__law_f := d__law_f T
  have z_range := T.z_range
  exact ⟨f, fd, ["digits"], fnD F sc__law_pairs S__law_pairs m__law_pairs (fn1_len _) (fn1_body fun _ => rfl) (fun cdv A outer s H E B W hr tk hp => (pds_cons (pd_setOwn 1 sc__law_pairs.nd pda_nil) (pds_cons (pd_for hp rfl (pid_range1 z_range (pda_cons pd_int pda_nil)) (pgd_name 2 sc__law_pairs.nd) (pds_one (pd_if (pt_cmp' (op_neD hr.units) rd_ne (nomark _) (pd_ix (pd_var 0) (pd_var 2)) pd_int) (pds_one (pd_append 1 (pd_tup (pda_cons (pd_ix (pd_lst (pda_cons pd_str (pda_cons pd_str (pda_cons pd_str pda_nil)))) (pd_var 2)) (pda_cons (pd_call d__law_f (hr.mono (by decide)) tk (pda_cons (pd_sub (pd_ix (pd_var 0) (pd_var 2)) pd_int) (pda_cons (pd_add pd_int (pd_div (pd_ix (pd_var 0) pd_int) pd_int)) pda_nil))) pda_nil))))) pds_nil))) (pds_one (pd_ret (pd_var 1)))))), hm, F.kp, F.binds fun _ _ _ _ _ _ us hl => match us, hl with | [_], _ => rfl⟩
theorem d__law_anyrow (T : Txt K mg) : DefOk P w K mg base "_law_anyrow" 6 m__law_anyrow := by
  obtain ⟨f, fd, F, hm⟩ := T.f__law_anyrow
  have d__law_f : DefOk P w K mg base "_law_f" 1 m__law_f := d__law_f T
  have d__law_pairs : DefOk P w K mg base "_law_pairs" 2 m__law_pairs := d__law_pairs T
  have d__law_row : DefOk P w K mg base "_law_row" 5 m__law_row := d__law_row T
  exact ⟨f, fd, ["digits"], fnD F sc__law_anyrow S__law_anyrow m__law_anyrow (fn1_len _) (fn1_body fun _ => rfl) (fun cdv A outer s H E B W hr tk hp => (pds_cons (pd_set 1 sc__law_anyrow.nd (pd_ix (pd_lst (pda_cons pd_str (pda_cons pd_str (pda_cons pd_str (pda_cons pd_str (pda_cons pd_str (pda_cons pd_str pda_nil))))))) (pd_ix (pd_var 0) pd_int))) (pds_one (pd_ret (pd_call d__law_row (hr.mono (by decide)) tk (pda_cons (pd_call d__law_pairs (hr.mono (by decide)) tk (pda_cons (pd_slice (pd_var 0) pod_none (pod_some pd_int)) pda_nil)) (pda_cons (pd_var 1) (pda_cons (pd_call d__law_f (hr.mono (by decide)) tk (pda_cons (pd_sub (pd_ix (pd_var 0) pd_int) pd_int) (pda_cons (pd_add pd_int (pd_ix (pd_var 0) pd_int)) pda_nil))) pda_nil)))))))), hm, F.kp, F.binds fun _ _ _ _ _ _ us hl => match us, hl with | [_], _ => rfl⟩
theorem d__law_system (T : Txt K mg) : DefOk P w K mg base "_law_system" 7 m__law_system := by
  obtain ⟨f, fd, F, hm⟩ := T.f__law_system
  have d__law_draw : DefOk P w K mg base "_law_draw" 2 m__law_draw := d__law_draw T
  have d__law_anyrow : DefOk P w K mg base "_law_anyrow" 6 m__law_anyrow := d__law_anyrow T
  have z_range := T.z_range
  exact ⟨f, fd, ["script", "k", "most"], fnD F sc__law_system S__law_system m__law_system (fn3_len _) (fn3_body fun _ _ _ => rfl) (fun cdv A outer s H E B W hr tk hp => (pds_cons (pd_set 3 sc__law_system.nd (pd_call d__law_draw (hr.mono (by decide)) tk (pda_cons (pd_var 0) (pda_cons (pd_var 1) (pda_cons (pd_add (pd_lst (pda_cons (pd_var 2) (pda_cons pd_int pda_nil))) (pd_rep (pda_cons pd_int (pda_cons pd_int (pda_cons pd_int (pda_cons pd_int (pda_cons pd_int (pda_cons pd_int (pda_cons pd_int pda_nil))))))) pd_int)) pda_nil))))) (pds_cons (pd_setOwn 4 sc__law_system.nd pda_nil) (pds_cons (pd_for hp rfl (pid_range1 z_range (pda_cons (pd_add pd_int (pd_ix (pd_var 3) pd_int)) pda_nil)) (pgd_name 5 sc__law_system.nd) (pds_cons (pd_setNL 6 sc__law_system.nd (nl_cut (pd_var 3) (pod_some (pd_add pd_int (pd_mul pd_int (pd_var 5)))) (pod_some (pd_add pd_int (pd_mul pd_int (pd_var 5)))))) (pds_cons (pd_if (pt_cmp' op_gt rd_gt (nomark _) (pd_ix (pd_var 3) pd_int) pd_int) (pds_one (pd_setOwn 6 sc__law_system.nd (pda_cons (pd_add (pd_div (pd_ix (pd_var 6) pd_int) pd_int) pd_int) (pda_cons (pd_ix (pd_var 6) pd_int) (pda_cons (pd_ix (pd_var 6) pd_int) (pda_cons (pd_mul (pd_ix (pd_var 6) pd_int) (pd_mod (pd_ix (pd_var 6) pd_int) pd_int)) (pda_cons (pd_ix (pd_var 6) pd_int) (pda_cons (pd_ix (pd_var 6) pd_int) (pda_cons (pd_ix (pd_var 6) pd_int) pda_nil))))))))) pds_nil) (pds_cons (pd_if (pt_cmp' (op_eqD hr.units) rd_eq (nomark _) (pd_ix (pd_var 3) pd_int) pd_int) (pds_one (pd_lset 6 pd_int pd_int)) pds_nil) (pds_one (pd_append 4 (pd_call d__law_anyrow (hr.mono (by decide)) tk (pda_cons (pd_var 6) pda_nil)))))))) (pds_one (pd_ret (pd_var 4))))))), hm, F.kp, F.binds fun _ _ _ _ _ _ us hl => match us, hl with | [_, _, _], _ => rfl⟩
theorem d__law_grid (T : Txt K mg) : DefOk P w K mg base "_law_grid" 3 m__law_grid := by
  obtain ⟨f, fd, F, hm⟩ := T.f__law_grid
  have d__law_draw : DefOk P w K mg base "_law_draw" 2 m__law_draw := d__law_draw T
  have d__law_f : DefOk P w K mg base "_law_f" 1 m__law_f := d__law_f T
  have z_range := T.z_range
  have z_len := T.z_len
  have z_tuple := T.z_tuple
  exact ⟨f, fd, ["script", "k", "names"], fnD F sc__law_grid S__law_grid m__law_grid (fn3_len _) (fn3_body fun _ _ _ => rfl) (fun cdv A outer s H E B W hr tk hp => (pds_cons (pd_setOwn 3 sc__law_grid.nd pda_nil) (pds_cons (pd_for hp rfl (pid_range1 z_range (pda_cons pd_int pda_nil)) (pgd_name 4 sc__law_grid.nd) (pds_cons (pd_set 5 sc__law_grid.nd (pd_call d__law_draw (hr.mono (by decide)) tk (pda_cons (pd_var 0) (pda_cons (pd_add (pd_var 1) (pd_var 4)) (pda_cons (pd_lst (pda_cons pd_int (pda_cons pd_int (pda_cons pd_int (pda_cons pd_int (pda_cons pd_int pda_nil)))))) pda_nil))))) (pds_one (pd_append 3 (pd_callTy call_tupleN rd_tuple z_tuple (by decide +kernel) (pda_cons (pd_lcO (own := [("i", 6)]) rfl sc__law_grid.nd (pid_range1 z_range (pda_cons (pd_callB call_len rd_len z_len (by decide +kernel) (pda_cons (pd_var 2) pda_nil)) pda_nil)) (blkOk_by (N := ["script", "k", "names", "points", "j", "digits", "i"]) (sc := defScope s__law_grid) (by decide +kernel)) (fun _ _ _ _ _ => (pgw_name 6 sc__law_grid.nd)) (fun _ _ _ _ _ => pts_nilD) (fun _ _ _ _ _ B => (pd_tup (pda_cons (pd_ix (pd_var 2) (pd_var 6)) (pda_cons (pd_call d__law_f (hr.mono (by decide)) takes0 (pda_cons (pd_sub (pd_ix (pd_var 5) (pd_mod (pd_var 6) pd_int)) pd_int) (pda_cons (pd_add pd_int (pd_ix (pd_var 5) pd_int)) pda_nil))) pda_nil))))) pda_nil)))))) (pds_one (pd_ret (pd_var 3)))))), hm, F.kp, F.binds fun _ _ _ _ _ _ us hl => match us, hl with | [_, _, _], _ => rfl⟩
theorem d_law (T : Txt K mg) : DefOk P w K mg base "law" 8 m_law := by
  obtain ⟨f, fd, F, hm⟩ := T.f_law
  have d__law_system : DefOk P w K mg base "_law_system" 7 m__law_system := d__law_system T
  have d_unknowns : DefOk P w K mg base "unknowns" 1 m_unknowns := d_unknowns T
  have d__law_names : DefOk P w K mg base "_law_names" 1 m__law_names := d__law_names T
  have d__law_grid : DefOk P w K mg base "_law_grid" 3 m__law_grid := d__law_grid T
  have d_is_point : DefOk P w K mg base "is_point" 5 m_is_point := d_is_point T
  have d__law_all : DefOk P w K mg base "_law_all" 5 m__law_all := d__law_all T
  have d_value : DefOk P w K mg base "value" 3 m_value := d_value T
  have d__law_at : DefOk P w K mg base "_law_at" 3 m__law_at := d__law_at T
  have d__law_add : DefOk P w K mg base "_law_add" 2 m__law_add := d__law_add T
  have z_len := T.z_len
  have z_max := T.z_max
  have z_min := T.z_min
  have z_range := T.z_range
  exact ⟨f, fd, ["script"], fnD F sc_law S_law m_law (fn1_len _) (fn1_body fun _ => rfl) (fun cdv A outer s H E B W hr tk hp => (pds_cons (pd_for hp rfl (pid_range1 z_range (pda_cons (pd_callB (call_min2 rfl) rd_min z_min (by decide +kernel) (pda_cons pd_int (pda_cons (pd_callB (call_max2 rfl) rd_max z_max (by decide +kernel) (pda_cons pd_int (pda_cons (pd_div (pd_callB call_len rd_len z_len (by decide +kernel) (pda_cons (pd_var 0) pda_nil)) pd_int) pda_nil))) pda_nil))) pda_nil)) (pgd_name 1 sc_law.nd) (pds_cons (pd_set 2 sc_law.nd (pd_call d__law_system (hr.mono (by decide)) tk (pda_cons (pd_var 0) (pda_cons (pd_mul pd_int (pd_var 1)) (pda_cons pd_int pda_nil))))) (pds_cons (pd_if (pt_cmp' (op_neD hr.units) rd_ne (nomark _) (pd_call d_unknowns (hr.mono (by decide)) tk (pda_cons (pd_var 2) pda_nil)) (pd_call d__law_names (hr.mono (by decide)) tk (pda_cons (pd_var 2) pda_nil))) (pds_one (pd_ret pd_bl)) pds_nil) (pds_one (pd_for hp rfl (pid_seq (pd_call d__law_grid (hr.mono (by decide)) tk (pda_cons (pd_var 0) (pda_cons (pd_add (pd_mul pd_int (pd_var 1)) pd_int) (pda_cons (pd_lst (pda_cons pd_str (pda_cons pd_str (pda_cons pd_str pda_nil)))) pda_nil))))) (pgd_name 3 sc_law.nd) (pds_one (pd_for hp rfl (pid_seq (pd_lst (pda_cons (pd_var 3) (pda_cons (pd_slice (pd_var 3) (pod_some pd_int) pod_none) (pda_cons (pd_slice (pd_var 3) pod_none (pod_some pd_int)) (pda_cons (pd_tup pda_nil) pda_nil)))))) (pgd_name 4 sc_law.nd) (pds_cons (pd_if (pt_cmp' (op_neD hr.units) rd_ne (nomark _) (pd_call d_is_point (hr.mono (by decide)) tk (pda_cons (pd_var 2) (pda_cons (pd_var 4) pda_nil))) (pd_call d__law_all (hr.mono (by decide)) tk (pda_cons (pd_var 2) (pda_cons (pd_var 4) pda_nil)))) (pds_one (pd_ret pd_bl)) pds_nil) (pds_one (pd_if (pt_cmp' (op_neD hr.units) rd_ne (nomark _) (pd_call d_value (hr.mono (by decide)) tk (pda_cons (pd_tup (pda_cons (pd_ix (pd_ix (pd_var 2) pd_int) pd_int) (pda_cons (pd_tup (pda_cons pd_int (pda_cons pd_int pda_nil))) pda_nil))) (pda_cons (pd_var 4) pda_nil))) (pd_call d__law_add (hr.mono (by decide)) tk (pda_cons (pd_call d__law_at (hr.mono (by decide)) tk (pda_cons (pd_ix (pd_ix (pd_var 2) pd_int) pd_int) (pda_cons (pd_var 4) pda_nil))) (pda_cons (pd_tup (pda_cons pd_int (pda_cons pd_int pda_nil))) pda_nil)))) (pds_one (pd_ret pd_bl)) pds_nil)))))))))) (pds_one (pd_ret pd_bl)))), hm, F.kp, F.binds fun _ _ _ _ _ _ us hl => match us, hl with | [_], _ => rfl⟩
theorem l_law (T : Txt K mg) : ∃ f fd, mg "law" = some (.ref f) ∧ (∀ (s : Shared) (v : Value), BindsTo s fd ⟨[v], []⟩ [("script", v)]) ∧ ∀ base : Heap, FnOk P w K mg base (L2.CX P w) 8 f fd ["script"] (spD ⟨K, mg⟩ m_law) := by
  obtain ⟨f, fd, F, hm⟩ := T.f_law
  refine ⟨f, fd, hm, ?_, fun base => ?_⟩
  · obtain ⟨oc, od, kV, doc, pm, an, cdv, ct, osl, rfl, lk, hcd⟩ := F.ex
    exact fun s v => .of_eq rfl
  have d__law_system : DefOk P w K mg base "_law_system" 7 m__law_system := d__law_system T
  have d_unknowns : DefOk P w K mg base "unknowns" 1 m_unknowns := d_unknowns T
  have d__law_names : DefOk P w K mg base "_law_names" 1 m__law_names := d__law_names T
  have d__law_grid : DefOk P w K mg base "_law_grid" 3 m__law_grid := d__law_grid T
  have d_is_point : DefOk P w K mg base "is_point" 5 m_is_point := d_is_point T
  have d__law_all : DefOk P w K mg base "_law_all" 5 m__law_all := d__law_all T
  have d_value : DefOk P w K mg base "value" 3 m_value := d_value T
  have d__law_at : DefOk P w K mg base "_law_at" 3 m__law_at := d__law_at T
  have d__law_add : DefOk P w K mg base "_law_add" 2 m__law_add := d__law_add T
  have z_len := T.z_len
  have z_max := T.z_max
  have z_min := T.z_min
  have z_range := T.z_range
  exact fnD F sc_law S_law m_law (fn1_len _) (fn1_body fun _ => rfl) (fun cdv A outer s H E B W hr tk hp => (pds_cons (pd_for hp rfl (pid_range1 z_range (pda_cons (pd_callB (call_min2 rfl) rd_min z_min (by decide +kernel) (pda_cons pd_int (pda_cons (pd_callB (call_max2 rfl) rd_max z_max (by decide +kernel) (pda_cons pd_int (pda_cons (pd_div (pd_callB call_len rd_len z_len (by decide +kernel) (pda_cons (pd_var 0) pda_nil)) pd_int) pda_nil))) pda_nil))) pda_nil)) (pgd_name 1 sc_law.nd) (pds_cons (pd_set 2 sc_law.nd (pd_call d__law_system (hr.mono (by decide)) tk (pda_cons (pd_var 0) (pda_cons (pd_mul pd_int (pd_var 1)) (pda_cons pd_int pda_nil))))) (pds_cons (pd_if (pt_cmp' (op_neD hr.units) rd_ne (nomark _) (pd_call d_unknowns (hr.mono (by decide)) tk (pda_cons (pd_var 2) pda_nil)) (pd_call d__law_names (hr.mono (by decide)) tk (pda_cons (pd_var 2) pda_nil))) (pds_one (pd_ret pd_bl)) pds_nil) (pds_one (pd_for hp rfl (pid_seq (pd_call d__law_grid (hr.mono (by decide)) tk (pda_cons (pd_var 0) (pda_cons (pd_add (pd_mul pd_int (pd_var 1)) pd_int) (pda_cons (pd_lst (pda_cons pd_str (pda_cons pd_str (pda_cons pd_str pda_nil)))) pda_nil))))) (pgd_name 3 sc_law.nd) (pds_one (pd_for hp rfl (pid_seq (pd_lst (pda_cons (pd_var 3) (pda_cons (pd_slice (pd_var 3) (pod_some pd_int) pod_none) (pda_cons (pd_slice (pd_var 3) pod_none (pod_some pd_int)) (pda_cons (pd_tup pda_nil) pda_nil)))))) (pgd_name 4 sc_law.nd) (pds_cons (pd_if (pt_cmp' (op_neD hr.units) rd_ne (nomark _) (pd_call d_is_point (hr.mono (by decide)) tk (pda_cons (pd_var 2) (pda_cons (pd_var 4) pda_nil))) (pd_call d__law_all (hr.mono (by decide)) tk (pda_cons (pd_var 2) (pda_cons (pd_var 4) pda_nil)))) (pds_one (pd_ret pd_bl)) pds_nil) (pds_one (pd_if (pt_cmp' (op_neD hr.units) rd_ne (nomark _) (pd_call d_value (hr.mono (by decide)) tk (pda_cons (pd_tup (pda_cons (pd_ix (pd_ix (pd_var 2) pd_int) pd_int) (pda_cons (pd_tup (pda_cons pd_int (pda_cons pd_int pda_nil))) pda_nil))) (pda_cons (pd_var 4) pda_nil))) (pd_call d__law_add (hr.mono (by decide)) tk (pda_cons (pd_call d__law_at (hr.mono (by decide)) tk (pda_cons (pd_ix (pd_ix (pd_var 2) pd_int) pd_int) (pda_cons (pd_var 4) pda_nil))) (pda_cons (pd_tup (pda_cons pd_int (pda_cons pd_int pda_nil))) pda_nil)))) (pds_one (pd_ret pd_bl)) pds_nil)))))))))) (pds_one (pd_ret pd_bl))))
/-- the law's promise -/
def spLaw (K : PySem.W.Frag) : Sp := fun vs H Q _ => ∃ (a : Addr) (ns : List Int), vs = [.ref a] ∧ SqL K H a (ns.map V.int) ∧ ns.length ≤ 63 ∧ ∀ H', Q (.bl true) H'
theorem o_law (T : Txt K mg) (hl : ∀ ns : List Int, ns.length ≤ 63 → B_law (.list (ns.map PyData.int)) = .ok (.bool true)) {fa : Addr} (hfa : mg "law" = some (.ref fa)) :
    ∃ fd : FuncData, (∀ (s : Shared) (v : Value), BindsTo s fd ⟨[v], []⟩ [("script", v)]) ∧ ∀ base : Heap, FnOk P w K mg base (L2.CX P w) 8 fa fd ["script"] (spLaw K) := by
  obtain ⟨f, fd, hm, hb, F⟩ := l_law (P := P) (w := w) T
  have e := hfa.symm.trans hm
  cases e
  refine ⟨fd, hb, fun base => (F base).imp fun vs H Q E h => ?_⟩
  obtain ⟨a, ns, rfl, hS, hn, q⟩ := h
  refine ⟨H, [.list (ns.map PyData.int)], Same.refl _, .cons (.lst hS (DqAll.ints ns)) .nil, ?_⟩
  have e : m_law [.list (ns.map PyData.int)] = .ok (.bool true) := hl ns hn
  rw [e]
  intro v G' H' _ dp
  cases dp
  exact q H'
end
theorem txt_mk {K : PySem.W.Frag} {h : Heap} {mg : Str → Option Value} (X : K.In h) (G : h.Ns mainGlobals mg)
    {p_number : Addr} {od_number an_number : Option Addr} {sl_number : Array (Option Value)} {oc_number kV_number dc_number pm_number cd_number ct_number : Value}
    (a_number : PySem.W.nsIn K mainGlobals "number" = some (some (.ref p_number))) (l_number : K.lookup p_number = some ⟨oc_number, od_number, .func (PySem.W.fnOf "number" "number" (defArgs s_number) (defBody s_number) (defScope s_number) .none kV_number dc_number pm_number an_number cd_number ct_number), sl_number⟩) (c_number : PySem.W.codeIn K cd_number "number" = true) (k_number : PySem.W.keepIn K (.ref p_number) = true)
    {p_plus : Addr} {od_plus an_plus : Option Addr} {sl_plus : Array (Option Value)} {oc_plus kV_plus dc_plus pm_plus cd_plus ct_plus : Value}
    (a_plus : PySem.W.nsIn K mainGlobals "plus" = some (some (.ref p_plus))) (l_plus : K.lookup p_plus = some ⟨oc_plus, od_plus, .func (PySem.W.fnOf "plus" "plus" (defArgs s_plus) (defBody s_plus) (defScope s_plus) .none kV_plus dc_plus pm_plus an_plus cd_plus ct_plus), sl_plus⟩) (c_plus : PySem.W.codeIn K cd_plus "plus" = true) (k_plus : PySem.W.keepIn K (.ref p_plus) = true)
    {p_times : Addr} {od_times an_times : Option Addr} {sl_times : Array (Option Value)} {oc_times kV_times dc_times pm_times cd_times ct_times : Value}
    (a_times : PySem.W.nsIn K mainGlobals "times" = some (some (.ref p_times))) (l_times : K.lookup p_times = some ⟨oc_times, od_times, .func (PySem.W.fnOf "times" "times" (defArgs s_times) (defBody s_times) (defScope s_times) .none kV_times dc_times pm_times an_times cd_times ct_times), sl_times⟩) (c_times : PySem.W.codeIn K cd_times "times" = true) (k_times : PySem.W.keepIn K (.ref p_times) = true)
    {p_compare : Addr} {od_compare an_compare : Option Addr} {sl_compare : Array (Option Value)} {oc_compare kV_compare dc_compare pm_compare cd_compare ct_compare : Value}
    (a_compare : PySem.W.nsIn K mainGlobals "compare" = some (some (.ref p_compare))) (l_compare : K.lookup p_compare = some ⟨oc_compare, od_compare, .func (PySem.W.fnOf "compare" "compare" (defArgs s_compare) (defBody s_compare) (defScope s_compare) .none kV_compare dc_compare pm_compare an_compare cd_compare ct_compare), sl_compare⟩) (c_compare : PySem.W.codeIn K cd_compare "compare" = true) (k_compare : PySem.W.keepIn K (.ref p_compare) = true)
    {p_unknowns : Addr} {od_unknowns an_unknowns : Option Addr} {sl_unknowns : Array (Option Value)} {oc_unknowns kV_unknowns dc_unknowns pm_unknowns cd_unknowns ct_unknowns : Value}
    (a_unknowns : PySem.W.nsIn K mainGlobals "unknowns" = some (some (.ref p_unknowns))) (l_unknowns : K.lookup p_unknowns = some ⟨oc_unknowns, od_unknowns, .func (PySem.W.fnOf "unknowns" "unknowns" (defArgs s_unknowns) (defBody s_unknowns) (defScope s_unknowns) .none kV_unknowns dc_unknowns pm_unknowns an_unknowns cd_unknowns ct_unknowns), sl_unknowns⟩) (c_unknowns : PySem.W.codeIn K cd_unknowns "unknowns" = true) (k_unknowns : PySem.W.keepIn K (.ref p_unknowns) = true)
    {p_value : Addr} {od_value an_value : Option Addr} {sl_value : Array (Option Value)} {oc_value kV_value dc_value pm_value cd_value ct_value : Value}
    (a_value : PySem.W.nsIn K mainGlobals "value" = some (some (.ref p_value))) (l_value : K.lookup p_value = some ⟨oc_value, od_value, .func (PySem.W.fnOf "value" "value" (defArgs s_value) (defBody s_value) (defScope s_value) .none kV_value dc_value pm_value an_value cd_value ct_value), sl_value⟩) (c_value : PySem.W.codeIn K cd_value "value" = true) (k_value : PySem.W.keepIn K (.ref p_value) = true)
    {p_holds : Addr} {od_holds an_holds : Option Addr} {sl_holds : Array (Option Value)} {oc_holds kV_holds dc_holds pm_holds cd_holds ct_holds : Value}
    (a_holds : PySem.W.nsIn K mainGlobals "holds" = some (some (.ref p_holds))) (l_holds : K.lookup p_holds = some ⟨oc_holds, od_holds, .func (PySem.W.fnOf "holds" "holds" (defArgs s_holds) (defBody s_holds) (defScope s_holds) .none kV_holds dc_holds pm_holds an_holds cd_holds ct_holds), sl_holds⟩) (c_holds : PySem.W.codeIn K cd_holds "holds" = true) (k_holds : PySem.W.keepIn K (.ref p_holds) = true)
    {p_is_point : Addr} {od_is_point an_is_point : Option Addr} {sl_is_point : Array (Option Value)} {oc_is_point kV_is_point dc_is_point pm_is_point cd_is_point ct_is_point : Value}
    (a_is_point : PySem.W.nsIn K mainGlobals "is_point" = some (some (.ref p_is_point))) (l_is_point : K.lookup p_is_point = some ⟨oc_is_point, od_is_point, .func (PySem.W.fnOf "is_point" "is_point" (defArgs s_is_point) (defBody s_is_point) (defScope s_is_point) .none kV_is_point dc_is_point pm_is_point an_is_point cd_is_point ct_is_point), sl_is_point⟩) (c_is_point : PySem.W.codeIn K cd_is_point "is_point" = true) (k_is_point : PySem.W.keepIn K (.ref p_is_point) = true)
    {p__law_cell : Addr} {od__law_cell an__law_cell : Option Addr} {sl__law_cell : Array (Option Value)} {oc__law_cell kV__law_cell dc__law_cell pm__law_cell cd__law_cell ct__law_cell : Value}
    (a__law_cell : PySem.W.nsIn K mainGlobals "_law_cell" = some (some (.ref p__law_cell))) (l__law_cell : K.lookup p__law_cell = some ⟨oc__law_cell, od__law_cell, .func (PySem.W.fnOf "_law_cell" "_law_cell" (defArgs s__law_cell) (defBody s__law_cell) (defScope s__law_cell) .none kV__law_cell dc__law_cell pm__law_cell an__law_cell cd__law_cell ct__law_cell), sl__law_cell⟩) (c__law_cell : PySem.W.codeIn K cd__law_cell "_law_cell" = true) (k__law_cell : PySem.W.keepIn K (.ref p__law_cell) = true)
    {p__law_draw : Addr} {od__law_draw an__law_draw : Option Addr} {sl__law_draw : Array (Option Value)} {oc__law_draw kV__law_draw dc__law_draw pm__law_draw cd__law_draw ct__law_draw : Value}
    (a__law_draw : PySem.W.nsIn K mainGlobals "_law_draw" = some (some (.ref p__law_draw))) (l__law_draw : K.lookup p__law_draw = some ⟨oc__law_draw, od__law_draw, .func (PySem.W.fnOf "_law_draw" "_law_draw" (defArgs s__law_draw) (defBody s__law_draw) (defScope s__law_draw) .none kV__law_draw dc__law_draw pm__law_draw an__law_draw cd__law_draw ct__law_draw), sl__law_draw⟩) (c__law_draw : PySem.W.codeIn K cd__law_draw "_law_draw" = true) (k__law_draw : PySem.W.keepIn K (.ref p__law_draw) = true)
    {p__law_f : Addr} {od__law_f an__law_f : Option Addr} {sl__law_f : Array (Option Value)} {oc__law_f kV__law_f dc__law_f pm__law_f cd__law_f ct__law_f : Value}
    (a__law_f : PySem.W.nsIn K mainGlobals "_law_f" = some (some (.ref p__law_f))) (l__law_f : K.lookup p__law_f = some ⟨oc__law_f, od__law_f, .func (PySem.W.fnOf "_law_f" "_law_f" (defArgs s__law_f) (defBody s__law_f) (defScope s__law_f) .none kV__law_f dc__law_f pm__law_f an__law_f cd__law_f ct__law_f), sl__law_f⟩) (c__law_f : PySem.W.codeIn K cd__law_f "_law_f" = true) (k__law_f : PySem.W.keepIn K (.ref p__law_f) = true)
    {p__law_add : Addr} {od__law_add an__law_add : Option Addr} {sl__law_add : Array (Option Value)} {oc__law_add kV__law_add dc__law_add pm__law_add cd__law_add ct__law_add : Value}
    (a__law_add : PySem.W.nsIn K mainGlobals "_law_add" = some (some (.ref p__law_add))) (l__law_add : K.lookup p__law_add = some ⟨oc__law_add, od__law_add, .func (PySem.W.fnOf "_law_add" "_law_add" (defArgs s__law_add) (defBody s__law_add) (defScope s__law_add) .none kV__law_add dc__law_add pm__law_add an__law_add cd__law_add ct__law_add), sl__law_add⟩) (c__law_add : PySem.W.codeIn K cd__law_add "_law_add" = true) (k__law_add : PySem.W.keepIn K (.ref p__law_add) = true)
    {p__law_sub : Addr} {od__law_sub an__law_sub : Option Addr} {sl__law_sub : Array (Option Value)} {oc__law_sub kV__law_sub dc__law_sub pm__law_sub cd__law_sub ct__law_sub : Value}
    (a__law_sub : PySem.W.nsIn K mainGlobals "_law_sub" = some (some (.ref p__law_sub))) (l__law_sub : K.lookup p__law_sub = some ⟨oc__law_sub, od__law_sub, .func (PySem.W.fnOf "_law_sub" "_law_sub" (defArgs s__law_sub) (defBody s__law_sub) (defScope s__law_sub) .none kV__law_sub dc__law_sub pm__law_sub an__law_sub cd__law_sub ct__law_sub), sl__law_sub⟩) (c__law_sub : PySem.W.codeIn K cd__law_sub "_law_sub" = true) (k__law_sub : PySem.W.keepIn K (.ref p__law_sub) = true)
    {p__law_mul : Addr} {od__law_mul an__law_mul : Option Addr} {sl__law_mul : Array (Option Value)} {oc__law_mul kV__law_mul dc__law_mul pm__law_mul cd__law_mul ct__law_mul : Value}
    (a__law_mul : PySem.W.nsIn K mainGlobals "_law_mul" = some (some (.ref p__law_mul))) (l__law_mul : K.lookup p__law_mul = some ⟨oc__law_mul, od__law_mul, .func (PySem.W.fnOf "_law_mul" "_law_mul" (defArgs s__law_mul) (defBody s__law_mul) (defScope s__law_mul) .none kV__law_mul dc__law_mul pm__law_mul an__law_mul cd__law_mul ct__law_mul), sl__law_mul⟩) (c__law_mul : PySem.W.codeIn K cd__law_mul "_law_mul" = true) (k__law_mul : PySem.W.keepIn K (.ref p__law_mul) = true)
    {p__law_div : Addr} {od__law_div an__law_div : Option Addr} {sl__law_div : Array (Option Value)} {oc__law_div kV__law_div dc__law_div pm__law_div cd__law_div ct__law_div : Value}
    (a__law_div : PySem.W.nsIn K mainGlobals "_law_div" = some (some (.ref p__law_div))) (l__law_div : K.lookup p__law_div = some ⟨oc__law_div, od__law_div, .func (PySem.W.fnOf "_law_div" "_law_div" (defArgs s__law_div) (defBody s__law_div) (defScope s__law_div) .none kV__law_div dc__law_div pm__law_div an__law_div cd__law_div ct__law_div), sl__law_div⟩) (c__law_div : PySem.W.codeIn K cd__law_div "_law_div" = true) (k__law_div : PySem.W.keepIn K (.ref p__law_div) = true)
    {p__law_less : Addr} {od__law_less an__law_less : Option Addr} {sl__law_less : Array (Option Value)} {oc__law_less kV__law_less dc__law_less pm__law_less cd__law_less ct__law_less : Value}
    (a__law_less : PySem.W.nsIn K mainGlobals "_law_less" = some (some (.ref p__law_less))) (l__law_less : K.lookup p__law_less = some ⟨oc__law_less, od__law_less, .func (PySem.W.fnOf "_law_less" "_law_less" (defArgs s__law_less) (defBody s__law_less) (defScope s__law_less) .none kV__law_less dc__law_less pm__law_less an__law_less cd__law_less ct__law_less), sl__law_less⟩) (c__law_less : PySem.W.codeIn K cd__law_less "_law_less" = true) (k__law_less : PySem.W.keepIn K (.ref p__law_less) = true)
    {p__law_scaled : Addr} {od__law_scaled an__law_scaled : Option Addr} {sl__law_scaled : Array (Option Value)} {oc__law_scaled kV__law_scaled dc__law_scaled pm__law_scaled cd__law_scaled ct__law_scaled : Value}
    (a__law_scaled : PySem.W.nsIn K mainGlobals "_law_scaled" = some (some (.ref p__law_scaled))) (l__law_scaled : K.lookup p__law_scaled = some ⟨oc__law_scaled, od__law_scaled, .func (PySem.W.fnOf "_law_scaled" "_law_scaled" (defArgs s__law_scaled) (defBody s__law_scaled) (defScope s__law_scaled) .none kV__law_scaled dc__law_scaled pm__law_scaled an__law_scaled cd__law_scaled ct__law_scaled), sl__law_scaled⟩) (c__law_scaled : PySem.W.codeIn K cd__law_scaled "_law_scaled" = true) (k__law_scaled : PySem.W.keepIn K (.ref p__law_scaled) = true)
    {p__law_factor : Addr} {od__law_factor an__law_factor : Option Addr} {sl__law_factor : Array (Option Value)} {oc__law_factor kV__law_factor dc__law_factor pm__law_factor cd__law_factor ct__law_factor : Value}
    (a__law_factor : PySem.W.nsIn K mainGlobals "_law_factor" = some (some (.ref p__law_factor))) (l__law_factor : K.lookup p__law_factor = some ⟨oc__law_factor, od__law_factor, .func (PySem.W.fnOf "_law_factor" "_law_factor" (defArgs s__law_factor) (defBody s__law_factor) (defScope s__law_factor) .none kV__law_factor dc__law_factor pm__law_factor an__law_factor cd__law_factor ct__law_factor), sl__law_factor⟩) (c__law_factor : PySem.W.codeIn K cd__law_factor "_law_factor" = true) (k__law_factor : PySem.W.keepIn K (.ref p__law_factor) = true)
    {p__law_normal : Addr} {od__law_normal an__law_normal : Option Addr} {sl__law_normal : Array (Option Value)} {oc__law_normal kV__law_normal dc__law_normal pm__law_normal cd__law_normal ct__law_normal : Value}
    (a__law_normal : PySem.W.nsIn K mainGlobals "_law_normal" = some (some (.ref p__law_normal))) (l__law_normal : K.lookup p__law_normal = some ⟨oc__law_normal, od__law_normal, .func (PySem.W.fnOf "_law_normal" "_law_normal" (defArgs s__law_normal) (defBody s__law_normal) (defScope s__law_normal) .none kV__law_normal dc__law_normal pm__law_normal an__law_normal cd__law_normal ct__law_normal), sl__law_normal⟩) (c__law_normal : PySem.W.codeIn K cd__law_normal "_law_normal" = true) (k__law_normal : PySem.W.keepIn K (.ref p__law_normal) = true)
    {p__law_parts : Addr} {od__law_parts an__law_parts : Option Addr} {sl__law_parts : Array (Option Value)} {oc__law_parts kV__law_parts dc__law_parts pm__law_parts cd__law_parts ct__law_parts : Value}
    (a__law_parts : PySem.W.nsIn K mainGlobals "_law_parts" = some (some (.ref p__law_parts))) (l__law_parts : K.lookup p__law_parts = some ⟨oc__law_parts, od__law_parts, .func (PySem.W.fnOf "_law_parts" "_law_parts" (defArgs s__law_parts) (defBody s__law_parts) (defScope s__law_parts) .none kV__law_parts dc__law_parts pm__law_parts an__law_parts cd__law_parts ct__law_parts), sl__law_parts⟩) (c__law_parts : PySem.W.codeIn K cd__law_parts "_law_parts" = true) (k__law_parts : PySem.W.keepIn K (.ref p__law_parts) = true)
    {p__law_row : Addr} {od__law_row an__law_row : Option Addr} {sl__law_row : Array (Option Value)} {oc__law_row kV__law_row dc__law_row pm__law_row cd__law_row ct__law_row : Value}
    (a__law_row : PySem.W.nsIn K mainGlobals "_law_row" = some (some (.ref p__law_row))) (l__law_row : K.lookup p__law_row = some ⟨oc__law_row, od__law_row, .func (PySem.W.fnOf "_law_row" "_law_row" (defArgs s__law_row) (defBody s__law_row) (defScope s__law_row) .none kV__law_row dc__law_row pm__law_row an__law_row cd__law_row ct__law_row), sl__law_row⟩) (c__law_row : PySem.W.codeIn K cd__law_row "_law_row" = true) (k__law_row : PySem.W.keepIn K (.ref p__law_row) = true)
    {p__law_at : Addr} {od__law_at an__law_at : Option Addr} {sl__law_at : Array (Option Value)} {oc__law_at kV__law_at dc__law_at pm__law_at cd__law_at ct__law_at : Value}
    (a__law_at : PySem.W.nsIn K mainGlobals "_law_at" = some (some (.ref p__law_at))) (l__law_at : K.lookup p__law_at = some ⟨oc__law_at, od__law_at, .func (PySem.W.fnOf "_law_at" "_law_at" (defArgs s__law_at) (defBody s__law_at) (defScope s__law_at) .none kV__law_at dc__law_at pm__law_at an__law_at cd__law_at ct__law_at), sl__law_at⟩) (c__law_at : PySem.W.codeIn K cd__law_at "_law_at" = true) (k__law_at : PySem.W.keepIn K (.ref p__law_at) = true)
    {p__law_true : Addr} {od__law_true an__law_true : Option Addr} {sl__law_true : Array (Option Value)} {oc__law_true kV__law_true dc__law_true pm__law_true cd__law_true ct__law_true : Value}
    (a__law_true : PySem.W.nsIn K mainGlobals "_law_true" = some (some (.ref p__law_true))) (l__law_true : K.lookup p__law_true = some ⟨oc__law_true, od__law_true, .func (PySem.W.fnOf "_law_true" "_law_true" (defArgs s__law_true) (defBody s__law_true) (defScope s__law_true) .none kV__law_true dc__law_true pm__law_true an__law_true cd__law_true ct__law_true), sl__law_true⟩) (c__law_true : PySem.W.codeIn K cd__law_true "_law_true" = true) (k__law_true : PySem.W.keepIn K (.ref p__law_true) = true)
    {p__law_all : Addr} {od__law_all an__law_all : Option Addr} {sl__law_all : Array (Option Value)} {oc__law_all kV__law_all dc__law_all pm__law_all cd__law_all ct__law_all : Value}
    (a__law_all : PySem.W.nsIn K mainGlobals "_law_all" = some (some (.ref p__law_all))) (l__law_all : K.lookup p__law_all = some ⟨oc__law_all, od__law_all, .func (PySem.W.fnOf "_law_all" "_law_all" (defArgs s__law_all) (defBody s__law_all) (defScope s__law_all) .none kV__law_all dc__law_all pm__law_all an__law_all cd__law_all ct__law_all), sl__law_all⟩) (c__law_all : PySem.W.codeIn K cd__law_all "_law_all" = true) (k__law_all : PySem.W.keepIn K (.ref p__law_all) = true)
    {p__law_names : Addr} {od__law_names an__law_names : Option Addr} {sl__law_names : Array (Option Value)} {oc__law_names kV__law_names dc__law_names pm__law_names cd__law_names ct__law_names : Value}
    (a__law_names : PySem.W.nsIn K mainGlobals "_law_names" = some (some (.ref p__law_names))) (l__law_names : K.lookup p__law_names = some ⟨oc__law_names, od__law_names, .func (PySem.W.fnOf "_law_names" "_law_names" (defArgs s__law_names) (defBody s__law_names) (defScope s__law_names) .none kV__law_names dc__law_names pm__law_names an__law_names cd__law_names ct__law_names), sl__law_names⟩) (c__law_names : PySem.W.codeIn K cd__law_names "_law_names" = true) (k__law_names : PySem.W.keepIn K (.ref p__law_names) = true)
    {p__law_pairs : Addr} {od__law_pairs an__law_pairs : Option Addr} {sl__law_pairs : Array (Option Value)} {oc__law_pairs kV__law_pairs dc__law_pairs pm__law_pairs cd__law_pairs ct__law_pairs : Value}
    (a__law_pairs : PySem.W.nsIn K mainGlobals "_law_pairs" = some (some (.ref p__law_pairs))) (l__law_pairs : K.lookup p__law_pairs = some ⟨oc__law_pairs, od__law_pairs, .func (PySem.W.fnOf "_law_pairs" "_law_pairs" (defArgs s__law_pairs) (defBody s__law_pairs) (defScope s__law_pairs) .none kV__law_pairs dc__law_pairs pm__law_pairs an__law_pairs cd__law_pairs ct__law_pairs), sl__law_pairs⟩) (c__law_pairs : PySem.W.codeIn K cd__law_pairs "_law_pairs" = true) (k__law_pairs : PySem.W.keepIn K (.ref p__law_pairs) = true)
    {p__law_anyrow : Addr} {od__law_anyrow an__law_anyrow : Option Addr} {sl__law_anyrow : Array (Option Value)} {oc__law_anyrow kV__law_anyrow dc__law_anyrow pm__law_anyrow cd__law_anyrow ct__law_anyrow : Value}
    (a__law_anyrow : PySem.W.nsIn K mainGlobals "_law_anyrow" = some (some (.ref p__law_anyrow))) (l__law_anyrow : K.lookup p__law_anyrow = some ⟨oc__law_anyrow, od__law_anyrow, .func (PySem.W.fnOf "_law_anyrow" "_law_anyrow" (defArgs s__law_anyrow) (defBody s__law_anyrow) (defScope s__law_anyrow) .none kV__law_anyrow dc__law_anyrow pm__law_anyrow an__law_anyrow cd__law_anyrow ct__law_anyrow), sl__law_anyrow⟩) (c__law_anyrow : PySem.W.codeIn K cd__law_anyrow "_law_anyrow" = true) (k__law_anyrow : PySem.W.keepIn K (.ref p__law_anyrow) = true)
    {p__law_system : Addr} {od__law_system an__law_system : Option Addr} {sl__law_system : Array (Option Value)} {oc__law_system kV__law_system dc__law_system pm__law_system cd__law_system ct__law_system : Value}
    (a__law_system : PySem.W.nsIn K mainGlobals "_law_system" = some (some (.ref p__law_system))) (l__law_system : K.lookup p__law_system = some ⟨oc__law_system, od__law_system, .func (PySem.W.fnOf "_law_system" "_law_system" (defArgs s__law_system) (defBody s__law_system) (defScope s__law_system) .none kV__law_system dc__law_system pm__law_system an__law_system cd__law_system ct__law_system), sl__law_system⟩) (c__law_system : PySem.W.codeIn K cd__law_system "_law_system" = true) (k__law_system : PySem.W.keepIn K (.ref p__law_system) = true)
    {p__law_grid : Addr} {od__law_grid an__law_grid : Option Addr} {sl__law_grid : Array (Option Value)} {oc__law_grid kV__law_grid dc__law_grid pm__law_grid cd__law_grid ct__law_grid : Value}
    (a__law_grid : PySem.W.nsIn K mainGlobals "_law_grid" = some (some (.ref p__law_grid))) (l__law_grid : K.lookup p__law_grid = some ⟨oc__law_grid, od__law_grid, .func (PySem.W.fnOf "_law_grid" "_law_grid" (defArgs s__law_grid) (defBody s__law_grid) (defScope s__law_grid) .none kV__law_grid dc__law_grid pm__law_grid an__law_grid cd__law_grid ct__law_grid), sl__law_grid⟩) (c__law_grid : PySem.W.codeIn K cd__law_grid "_law_grid" = true) (k__law_grid : PySem.W.keepIn K (.ref p__law_grid) = true)
    {p_law : Addr} {od_law an_law : Option Addr} {sl_law : Array (Option Value)} {oc_law kV_law dc_law pm_law cd_law ct_law : Value}
    (a_law : PySem.W.nsIn K mainGlobals "law" = some (some (.ref p_law))) (l_law : K.lookup p_law = some ⟨oc_law, od_law, .func (PySem.W.fnOf "law" "law" (defArgs s_law) (defBody s_law) (defScope s_law) .none kV_law dc_law pm_law an_law cd_law ct_law), sl_law⟩) (c_law : PySem.W.codeIn K cd_law "law" = true) (k_law : PySem.W.keepIn K (.ref p_law) = true)
    (z_all : PySem.W.nsIn K mainGlobals "all" = some none)
    (z_dict : PySem.W.nsIn K mainGlobals "dict" = some none)
    (z_len : PySem.W.nsIn K mainGlobals "len" = some none)
    (z_max : PySem.W.nsIn K mainGlobals "max" = some none)
    (z_min : PySem.W.nsIn K mainGlobals "min" = some none)
    (z_range : PySem.W.nsIn K mainGlobals "range" = some none)
    (z_sorted : PySem.W.nsIn K mainGlobals "sorted" = some none)
    (z_tuple : PySem.W.nsIn K mainGlobals "tuple" = some none)
    (z_gcd : PySem.W.nsIn K mainGlobals "gcd" = some (some (.builtin "math.gcd")))
    {C_NumberError : Addr} (a_NumberError : PySem.W.nsIn K mainGlobals "NumberError" = some (some (.ref C_NumberError))) (e_NumberError : PySem.W.excIn K C_NumberError [.type "ValueError", .type "Exception", .type "BaseException", .type "object"] "ValueError.__new__" = true) (k_NumberError : PySem.W.keepIn K (.ref C_NumberError) = true) (b_NumberError : PySem.W.subIn K (.ref C_NumberError) (.type "BaseException") = some true) (t_NumberError : PySem.W.typeIn K (.ref C_NumberError) = some (.type "type")) (i_NumberError : PySem.W.isClsIn K C_NumberError = true) (s_NumberError : PySem.W.subIn K (.ref C_NumberError) (.ref C_NumberError) = some true)
    {p_ZERO : Addr} {sl_ZERO : Array (Option Value)} {n_ZERO : Nat} {t_ZERO_0 t_ZERO_1 : Tok}
    (a_ZERO : PySem.W.nsIn K mainGlobals "ZERO" = some (some (.ref p_ZERO))) (l_ZERO : K.lookup p_ZERO = some ⟨.type "tuple", none, .seq #[.int 0 t_ZERO_0, .int 1 t_ZERO_1] n_ZERO, sl_ZERO⟩) : Txt K mg :=
  { f_number := ⟨_, _, fun_mk (st := s_number) l_number c_number k_number, PySem.W.mg_of X G a_number⟩,
    f_plus := ⟨_, _, fun_mk (st := s_plus) l_plus c_plus k_plus, PySem.W.mg_of X G a_plus⟩,
    f_times := ⟨_, _, fun_mk (st := s_times) l_times c_times k_times, PySem.W.mg_of X G a_times⟩,
    f_compare := ⟨_, _, fun_mk (st := s_compare) l_compare c_compare k_compare, PySem.W.mg_of X G a_compare⟩,
    f_unknowns := ⟨_, _, fun_mk (st := s_unknowns) l_unknowns c_unknowns k_unknowns, PySem.W.mg_of X G a_unknowns⟩,
    f_value := ⟨_, _, fun_mk (st := s_value) l_value c_value k_value, PySem.W.mg_of X G a_value⟩,
    f_holds := ⟨_, _, fun_mk (st := s_holds) l_holds c_holds k_holds, PySem.W.mg_of X G a_holds⟩,
    f_is_point := ⟨_, _, fun_mk (st := s_is_point) l_is_point c_is_point k_is_point, PySem.W.mg_of X G a_is_point⟩,
    f__law_cell := ⟨_, _, fun_mk (st := s__law_cell) l__law_cell c__law_cell k__law_cell, PySem.W.mg_of X G a__law_cell⟩,
    f__law_draw := ⟨_, _, fun_mk (st := s__law_draw) l__law_draw c__law_draw k__law_draw, PySem.W.mg_of X G a__law_draw⟩,
    f__law_f := ⟨_, _, fun_mk (st := s__law_f) l__law_f c__law_f k__law_f, PySem.W.mg_of X G a__law_f⟩,
    f__law_add := ⟨_, _, fun_mk (st := s__law_add) l__law_add c__law_add k__law_add, PySem.W.mg_of X G a__law_add⟩,
    f__law_sub := ⟨_, _, fun_mk (st := s__law_sub) l__law_sub c__law_sub k__law_sub, PySem.W.mg_of X G a__law_sub⟩,
    f__law_mul := ⟨_, _, fun_mk (st := s__law_mul) l__law_mul c__law_mul k__law_mul, PySem.W.mg_of X G a__law_mul⟩,
    f__law_div := ⟨_, _, fun_mk (st := s__law_div) l__law_div c__law_div k__law_div, PySem.W.mg_of X G a__law_div⟩,
    f__law_less := ⟨_, _, fun_mk (st := s__law_less) l__law_less c__law_less k__law_less, PySem.W.mg_of X G a__law_less⟩,
    f__law_scaled := ⟨_, _, fun_mk (st := s__law_scaled) l__law_scaled c__law_scaled k__law_scaled, PySem.W.mg_of X G a__law_scaled⟩,
    f__law_factor := ⟨_, _, fun_mk (st := s__law_factor) l__law_factor c__law_factor k__law_factor, PySem.W.mg_of X G a__law_factor⟩,
    f__law_normal := ⟨_, _, fun_mk (st := s__law_normal) l__law_normal c__law_normal k__law_normal, PySem.W.mg_of X G a__law_normal⟩,
    f__law_parts := ⟨_, _, fun_mk (st := s__law_parts) l__law_parts c__law_parts k__law_parts, PySem.W.mg_of X G a__law_parts⟩,
    f__law_row := ⟨_, _, fun_mk (st := s__law_row) l__law_row c__law_row k__law_row, PySem.W.mg_of X G a__law_row⟩,
    f__law_at := ⟨_, _, fun_mk (st := s__law_at) l__law_at c__law_at k__law_at, PySem.W.mg_of X G a__law_at⟩,
    f__law_true := ⟨_, _, fun_mk (st := s__law_true) l__law_true c__law_true k__law_true, PySem.W.mg_of X G a__law_true⟩,
    f__law_all := ⟨_, _, fun_mk (st := s__law_all) l__law_all c__law_all k__law_all, PySem.W.mg_of X G a__law_all⟩,
    f__law_names := ⟨_, _, fun_mk (st := s__law_names) l__law_names c__law_names k__law_names, PySem.W.mg_of X G a__law_names⟩,
    f__law_pairs := ⟨_, _, fun_mk (st := s__law_pairs) l__law_pairs c__law_pairs k__law_pairs, PySem.W.mg_of X G a__law_pairs⟩,
    f__law_anyrow := ⟨_, _, fun_mk (st := s__law_anyrow) l__law_anyrow c__law_anyrow k__law_anyrow, PySem.W.mg_of X G a__law_anyrow⟩,
    f__law_system := ⟨_, _, fun_mk (st := s__law_system) l__law_system c__law_system k__law_system, PySem.W.mg_of X G a__law_system⟩,
    f__law_grid := ⟨_, _, fun_mk (st := s__law_grid) l__law_grid c__law_grid k__law_grid, PySem.W.mg_of X G a__law_grid⟩,
    f_law := ⟨_, _, fun_mk (st := s_law) l_law c_law k_law, PySem.W.mg_of X G a_law⟩,
    z_all := PySem.W.mg_none_of X G z_all,
    z_dict := PySem.W.mg_none_of X G z_dict,
    z_len := PySem.W.mg_none_of X G z_len,
    z_max := PySem.W.mg_none_of X G z_max,
    z_min := PySem.W.mg_none_of X G z_min,
    z_range := PySem.W.mg_none_of X G z_range,
    z_sorted := PySem.W.mg_none_of X G z_sorted,
    z_tuple := PySem.W.mg_none_of X G z_tuple,
    z_gcd := PySem.W.mg_of X G z_gcd,
    x_NumberError := ⟨_, ⟨PySem.W.mg_of X G a_NumberError, e_NumberError, k_NumberError, b_NumberError, t_NumberError, i_NumberError, s_NumberError⟩⟩,
    c_ZERO := ⟨.ref p_ZERO, .ref p_ZERO, PySem.W.mg_of X G a_ZERO, rfl, fun G => .tup (.inr ⟨_, _, _, rfl, l_ZERO, rfl, rfl, by show 2 ≤ sizeLine; decide, (.cons (show RelV (V.int 0) (Value.int 0 t_ZERO_0) from ⟨_, rfl⟩) (.cons (show RelV (V.int 1) (Value.int 1 t_ZERO_1) from ⟨_, rfl⟩) .nil))⟩) (.cons (.int _) (.cons (.int _) .nil))⟩ }
theorem all_mk {P : Program} {w : World} {K : PySem.W.Frag} {h : Heap} {mg : Str → Option Value} {fa : Addr} (X : K.In h) (G : h.Ns mainGlobals mg) (hfa : mg "law" = some (.ref fa)) (hl : ∀ ns : List Int, ns.length ≤ 63 → B_law (.list (ns.map PyData.int)) = .ok (.bool true))
    {p_number : Addr} {od_number an_number : Option Addr} {sl_number : Array (Option Value)} {oc_number kV_number dc_number pm_number cd_number ct_number : Value}
    (a_number : PySem.W.nsIn K mainGlobals "number" = some (some (.ref p_number))) (l_number : K.lookup p_number = some ⟨oc_number, od_number, .func (PySem.W.fnOf "number" "number" (defArgs s_number) (defBody s_number) (defScope s_number) .none kV_number dc_number pm_number an_number cd_number ct_number), sl_number⟩) (c_number : PySem.W.codeIn K cd_number "number" = true) (k_number : PySem.W.keepIn K (.ref p_number) = true)
    {p_plus : Addr} {od_plus an_plus : Option Addr} {sl_plus : Array (Option Value)} {oc_plus kV_plus dc_plus pm_plus cd_plus ct_plus : Value}
    (a_plus : PySem.W.nsIn K mainGlobals "plus" = some (some (.ref p_plus))) (l_plus : K.lookup p_plus = some ⟨oc_plus, od_plus, .func (PySem.W.fnOf "plus" "plus" (defArgs s_plus) (defBody s_plus) (defScope s_plus) .none kV_plus dc_plus pm_plus an_plus cd_plus ct_plus), sl_plus⟩) (c_plus : PySem.W.codeIn K cd_plus "plus" = true) (k_plus : PySem.W.keepIn K (.ref p_plus) = true)
    {p_times : Addr} {od_times an_times : Option Addr} {sl_times : Array (Option Value)} {oc_times kV_times dc_times pm_times cd_times ct_times : Value}
    (a_times : PySem.W.nsIn K mainGlobals "times" = some (some (.ref p_times))) (l_times : K.lookup p_times = some ⟨oc_times, od_times, .func (PySem.W.fnOf "times" "times" (defArgs s_times) (defBody s_times) (defScope s_times) .none kV_times dc_times pm_times an_times cd_times ct_times), sl_times⟩) (c_times : PySem.W.codeIn K cd_times "times" = true) (k_times : PySem.W.keepIn K (.ref p_times) = true)
    {p_compare : Addr} {od_compare an_compare : Option Addr} {sl_compare : Array (Option Value)} {oc_compare kV_compare dc_compare pm_compare cd_compare ct_compare : Value}
    (a_compare : PySem.W.nsIn K mainGlobals "compare" = some (some (.ref p_compare))) (l_compare : K.lookup p_compare = some ⟨oc_compare, od_compare, .func (PySem.W.fnOf "compare" "compare" (defArgs s_compare) (defBody s_compare) (defScope s_compare) .none kV_compare dc_compare pm_compare an_compare cd_compare ct_compare), sl_compare⟩) (c_compare : PySem.W.codeIn K cd_compare "compare" = true) (k_compare : PySem.W.keepIn K (.ref p_compare) = true)
    {p_unknowns : Addr} {od_unknowns an_unknowns : Option Addr} {sl_unknowns : Array (Option Value)} {oc_unknowns kV_unknowns dc_unknowns pm_unknowns cd_unknowns ct_unknowns : Value}
    (a_unknowns : PySem.W.nsIn K mainGlobals "unknowns" = some (some (.ref p_unknowns))) (l_unknowns : K.lookup p_unknowns = some ⟨oc_unknowns, od_unknowns, .func (PySem.W.fnOf "unknowns" "unknowns" (defArgs s_unknowns) (defBody s_unknowns) (defScope s_unknowns) .none kV_unknowns dc_unknowns pm_unknowns an_unknowns cd_unknowns ct_unknowns), sl_unknowns⟩) (c_unknowns : PySem.W.codeIn K cd_unknowns "unknowns" = true) (k_unknowns : PySem.W.keepIn K (.ref p_unknowns) = true)
    {p_value : Addr} {od_value an_value : Option Addr} {sl_value : Array (Option Value)} {oc_value kV_value dc_value pm_value cd_value ct_value : Value}
    (a_value : PySem.W.nsIn K mainGlobals "value" = some (some (.ref p_value))) (l_value : K.lookup p_value = some ⟨oc_value, od_value, .func (PySem.W.fnOf "value" "value" (defArgs s_value) (defBody s_value) (defScope s_value) .none kV_value dc_value pm_value an_value cd_value ct_value), sl_value⟩) (c_value : PySem.W.codeIn K cd_value "value" = true) (k_value : PySem.W.keepIn K (.ref p_value) = true)
    {p_holds : Addr} {od_holds an_holds : Option Addr} {sl_holds : Array (Option Value)} {oc_holds kV_holds dc_holds pm_holds cd_holds ct_holds : Value}
    (a_holds : PySem.W.nsIn K mainGlobals "holds" = some (some (.ref p_holds))) (l_holds : K.lookup p_holds = some ⟨oc_holds, od_holds, .func (PySem.W.fnOf "holds" "holds" (defArgs s_holds) (defBody s_holds) (defScope s_holds) .none kV_holds dc_holds pm_holds an_holds cd_holds ct_holds), sl_holds⟩) (c_holds : PySem.W.codeIn K cd_holds "holds" = true) (k_holds : PySem.W.keepIn K (.ref p_holds) = true)
    {p_is_point : Addr} {od_is_point an_is_point : Option Addr} {sl_is_point : Array (Option Value)} {oc_is_point kV_is_point dc_is_point pm_is_point cd_is_point ct_is_point : Value}
    (a_is_point : PySem.W.nsIn K mainGlobals "is_point" = some (some (.ref p_is_point))) (l_is_point : K.lookup p_is_point = some ⟨oc_is_point, od_is_point, .func (PySem.W.fnOf "is_point" "is_point" (defArgs s_is_point) (defBody s_is_point) (defScope s_is_point) .none kV_is_point dc_is_point pm_is_point an_is_point cd_is_point ct_is_point), sl_is_point⟩) (c_is_point : PySem.W.codeIn K cd_is_point "is_point" = true) (k_is_point : PySem.W.keepIn K (.ref p_is_point) = true)
    {p__law_cell : Addr} {od__law_cell an__law_cell : Option Addr} {sl__law_cell : Array (Option Value)} {oc__law_cell kV__law_cell dc__law_cell pm__law_cell cd__law_cell ct__law_cell : Value}
    (a__law_cell : PySem.W.nsIn K mainGlobals "_law_cell" = some (some (.ref p__law_cell))) (l__law_cell : K.lookup p__law_cell = some ⟨oc__law_cell, od__law_cell, .func (PySem.W.fnOf "_law_cell" "_law_cell" (defArgs s__law_cell) (defBody s__law_cell) (defScope s__law_cell) .none kV__law_cell dc__law_cell pm__law_cell an__law_cell cd__law_cell ct__law_cell), sl__law_cell⟩) (c__law_cell : PySem.W.codeIn K cd__law_cell "_law_cell" = true) (k__law_cell : PySem.W.keepIn K (.ref p__law_cell) = true)
    {p__law_draw : Addr} {od__law_draw an__law_draw : Option Addr} {sl__law_draw : Array (Option Value)} {oc__law_draw kV__law_draw dc__law_draw pm__law_draw cd__law_draw ct__law_draw : Value}
    (a__law_draw : PySem.W.nsIn K mainGlobals "_law_draw" = some (some (.ref p__law_draw))) (l__law_draw : K.lookup p__law_draw = some ⟨oc__law_draw, od__law_draw, .func (PySem.W.fnOf "_law_draw" "_law_draw" (defArgs s__law_draw) (defBody s__law_draw) (defScope s__law_draw) .none kV__law_draw dc__law_draw pm__law_draw an__law_draw cd__law_draw ct__law_draw), sl__law_draw⟩) (c__law_draw : PySem.W.codeIn K cd__law_draw "_law_draw" = true) (k__law_draw : PySem.W.keepIn K (.ref p__law_draw) = true)
    {p__law_f : Addr} {od__law_f an__law_f : Option Addr} {sl__law_f : Array (Option Value)} {oc__law_f kV__law_f dc__law_f pm__law_f cd__law_f ct__law_f : Value}
    (a__law_f : PySem.W.nsIn K mainGlobals "_law_f" = some (some (.ref p__law_f))) (l__law_f : K.lookup p__law_f = some ⟨oc__law_f, od__law_f, .func (PySem.W.fnOf "_law_f" "_law_f" (defArgs s__law_f) (defBody s__law_f) (defScope s__law_f) .none kV__law_f dc__law_f pm__law_f an__law_f cd__law_f ct__law_f), sl__law_f⟩) (c__law_f : PySem.W.codeIn K cd__law_f "_law_f" = true) (k__law_f : PySem.W.keepIn K (.ref p__law_f) = true)
    {p__law_add : Addr} {od__law_add an__law_add : Option Addr} {sl__law_add : Array (Option Value)} {oc__law_add kV__law_add dc__law_add pm__law_add cd__law_add ct__law_add : Value}
    (a__law_add : PySem.W.nsIn K mainGlobals "_law_add" = some (some (.ref p__law_add))) (l__law_add : K.lookup p__law_add = some ⟨oc__law_add, od__law_add, .func (PySem.W.fnOf "_law_add" "_law_add" (defArgs s__law_add) (defBody s__law_add) (defScope s__law_add) .none kV__law_add dc__law_add pm__law_add an__law_add cd__law_add ct__law_add), sl__law_add⟩) (c__law_add : PySem.W.codeIn K cd__law_add "_law_add" = true) (k__law_add : PySem.W.keepIn K (.ref p__law_add) = true)
    {p__law_sub : Addr} {od__law_sub an__law_sub : Option Addr} {sl__law_sub : Array (Option Value)} {oc__law_sub kV__law_sub dc__law_sub pm__law_sub cd__law_sub ct__law_sub : Value}
    (a__law_sub : PySem.W.nsIn K mainGlobals "_law_sub" = some (some (.ref p__law_sub))) (l__law_sub : K.lookup p__law_sub = some ⟨oc__law_sub, od__law_sub, .func (PySem.W.fnOf "_law_sub" "_law_sub" (defArgs s__law_sub) (defBody s__law_sub) (defScope s__law_sub) .none kV__law_sub dc__law_sub pm__law_sub an__law_sub cd__law_sub ct__law_sub), sl__law_sub⟩) (c__law_sub : PySem.W.codeIn K cd__law_sub "_law_sub" = true) (k__law_sub : PySem.W.keepIn K (.ref p__law_sub) = true)
    {p__law_mul : Addr} {od__law_mul an__law_mul : Option Addr} {sl__law_mul : Array (Option Value)} {oc__law_mul kV__law_mul dc__law_mul pm__law_mul cd__law_mul ct__law_mul : Value}
    (a__law_mul : PySem.W.nsIn K mainGlobals "_law_mul" = some (some (.ref p__law_mul))) (l__law_mul : K.lookup p__law_mul = some ⟨oc__law_mul, od__law_mul, .func (PySem.W.fnOf "_law_mul" "_law_mul" (defArgs s__law_mul) (defBody s__law_mul) (defScope s__law_mul) .none kV__law_mul dc__law_mul pm__law_mul an__law_mul cd__law_mul ct__law_mul), sl__law_mul⟩) (c__law_mul : PySem.W.codeIn K cd__law_mul "_law_mul" = true) (k__law_mul : PySem.W.keepIn K (.ref p__law_mul) = true)
    {p__law_div : Addr} {od__law_div an__law_div : Option Addr} {sl__law_div : Array (Option Value)} {oc__law_div kV__law_div dc__law_div pm__law_div cd__law_div ct__law_div : Value}
    (a__law_div : PySem.W.nsIn K mainGlobals "_law_div" = some (some (.ref p__law_div))) (l__law_div : K.lookup p__law_div = some ⟨oc__law_div, od__law_div, .func (PySem.W.fnOf "_law_div" "_law_div" (defArgs s__law_div) (defBody s__law_div) (defScope s__law_div) .none kV__law_div dc__law_div pm__law_div an__law_div cd__law_div ct__law_div), sl__law_div⟩) (c__law_div : PySem.W.codeIn K cd__law_div "_law_div" = true) (k__law_div : PySem.W.keepIn K (.ref p__law_div) = true)
    {p__law_less : Addr} {od__law_less an__law_less : Option Addr} {sl__law_less : Array (Option Value)} {oc__law_less kV__law_less dc__law_less pm__law_less cd__law_less ct__law_less : Value}
    (a__law_less : PySem.W.nsIn K mainGlobals "_law_less" = some (some (.ref p__law_less))) (l__law_less : K.lookup p__law_less = some ⟨oc__law_less, od__law_less, .func (PySem.W.fnOf "_law_less" "_law_less" (defArgs s__law_less) (defBody s__law_less) (defScope s__law_less) .none kV__law_less dc__law_less pm__law_less an__law_less cd__law_less ct__law_less), sl__law_less⟩) (c__law_less : PySem.W.codeIn K cd__law_less "_law_less" = true) (k__law_less : PySem.W.keepIn K (.ref p__law_less) = true)
    {p__law_scaled : Addr} {od__law_scaled an__law_scaled : Option Addr} {sl__law_scaled : Array (Option Value)} {oc__law_scaled kV__law_scaled dc__law_scaled pm__law_scaled cd__law_scaled ct__law_scaled : Value}
    (a__law_scaled : PySem.W.nsIn K mainGlobals "_law_scaled" = some (some (.ref p__law_scaled))) (l__law_scaled : K.lookup p__law_scaled = some ⟨oc__law_scaled, od__law_scaled, .func (PySem.W.fnOf "_law_scaled" "_law_scaled" (defArgs s__law_scaled) (defBody s__law_scaled) (defScope s__law_scaled) .none kV__law_scaled dc__law_scaled pm__law_scaled an__law_scaled cd__law_scaled ct__law_scaled), sl__law_scaled⟩) (c__law_scaled : PySem.W.codeIn K cd__law_scaled "_law_scaled" = true) (k__law_scaled : PySem.W.keepIn K (.ref p__law_scaled) = true)
    {p__law_factor : Addr} {od__law_factor an__law_factor : Option Addr} {sl__law_factor : Array (Option Value)} {oc__law_factor kV__law_factor dc__law_factor pm__law_factor cd__law_factor ct__law_factor : Value}
    (a__law_factor : PySem.W.nsIn K mainGlobals "_law_factor" = some (some (.ref p__law_factor))) (l__law_factor : K.lookup p__law_factor = some ⟨oc__law_factor, od__law_factor, .func (PySem.W.fnOf "_law_factor" "_law_factor" (defArgs s__law_factor) (defBody s__law_factor) (defScope s__law_factor) .none kV__law_factor dc__law_factor pm__law_factor an__law_factor cd__law_factor ct__law_factor), sl__law_factor⟩) (c__law_factor : PySem.W.codeIn K cd__law_factor "_law_factor" = true) (k__law_factor : PySem.W.keepIn K (.ref p__law_factor) = true)
    {p__law_normal : Addr} {od__law_normal an__law_normal : Option Addr} {sl__law_normal : Array (Option Value)} {oc__law_normal kV__law_normal dc__law_normal pm__law_normal cd__law_normal ct__law_normal : Value}
    (a__law_normal : PySem.W.nsIn K mainGlobals "_law_normal" = some (some (.ref p__law_normal))) (l__law_normal : K.lookup p__law_normal = some ⟨oc__law_normal, od__law_normal, .func (PySem.W.fnOf "_law_normal" "_law_normal" (defArgs s__law_normal) (defBody s__law_normal) (defScope s__law_normal) .none kV__law_normal dc__law_normal pm__law_normal an__law_normal cd__law_normal ct__law_normal), sl__law_normal⟩) (c__law_normal : PySem.W.codeIn K cd__law_normal "_law_normal" = true) (k__law_normal : PySem.W.keepIn K (.ref p__law_normal) = true)
    {p__law_parts : Addr} {od__law_parts an__law_parts : Option Addr} {sl__law_parts : Array (Option Value)} {oc__law_parts kV__law_parts dc__law_parts pm__law_parts cd__law_parts ct__law_parts : Value}
    (a__law_parts : PySem.W.nsIn K mainGlobals "_law_parts" = some (some (.ref p__law_parts))) (l__law_parts : K.lookup p__law_parts = some ⟨oc__law_parts, od__law_parts, .func (PySem.W.fnOf "_law_parts" "_law_parts" (defArgs s__law_parts) (defBody s__law_parts) (defScope s__law_parts) .none kV__law_parts dc__law_parts pm__law_parts an__law_parts cd__law_parts ct__law_parts), sl__law_parts⟩) (c__law_parts : PySem.W.codeIn K cd__law_parts "_law_parts" = true) (k__law_parts : PySem.W.keepIn K (.ref p__law_parts) = true)
    {p__law_row : Addr} {od__law_row an__law_row : Option Addr} {sl__law_row : Array (Option Value)} {oc__law_row kV__law_row dc__law_row pm__law_row cd__law_row ct__law_row : Value}
    (a__law_row : PySem.W.nsIn K mainGlobals "_law_row" = some (some (.ref p__law_row))) (l__law_row : K.lookup p__law_row = some ⟨oc__law_row, od__law_row, .func (PySem.W.fnOf "_law_row" "_law_row" (defArgs s__law_row) (defBody s__law_row) (defScope s__law_row) .none kV__law_row dc__law_row pm__law_row an__law_row cd__law_row ct__law_row), sl__law_row⟩) (c__law_row : PySem.W.codeIn K cd__law_row "_law_row" = true) (k__law_row : PySem.W.keepIn K (.ref p__law_row) = true)
    {p__law_at : Addr} {od__law_at an__law_at : Option Addr} {sl__law_at : Array (Option Value)} {oc__law_at kV__law_at dc__law_at pm__law_at cd__law_at ct__law_at : Value}
    (a__law_at : PySem.W.nsIn K mainGlobals "_law_at" = some (some (.ref p__law_at))) (l__law_at : K.lookup p__law_at = some ⟨oc__law_at, od__law_at, .func (PySem.W.fnOf "_law_at" "_law_at" (defArgs s__law_at) (defBody s__law_at) (defScope s__law_at) .none kV__law_at dc__law_at pm__law_at an__law_at cd__law_at ct__law_at), sl__law_at⟩) (c__law_at : PySem.W.codeIn K cd__law_at "_law_at" = true) (k__law_at : PySem.W.keepIn K (.ref p__law_at) = true)
    {p__law_true : Addr} {od__law_true an__law_true : Option Addr} {sl__law_true : Array (Option Value)} {oc__law_true kV__law_true dc__law_true pm__law_true cd__law_true ct__law_true : Value}
    (a__law_true : PySem.W.nsIn K mainGlobals "_law_true" = some (some (.ref p__law_true))) (l__law_true : K.lookup p__law_true = some ⟨oc__law_true, od__law_true, .func (PySem.W.fnOf "_law_true" "_law_true" (defArgs s__law_true) (defBody s__law_true) (defScope s__law_true) .none kV__law_true dc__law_true pm__law_true an__law_true cd__law_true ct__law_true), sl__law_true⟩) (c__law_true : PySem.W.codeIn K cd__law_true "_law_true" = true) (k__law_true : PySem.W.keepIn K (.ref p__law_true) = true)
    {p__law_all : Addr} {od__law_all an__law_all : Option Addr} {sl__law_all : Array (Option Value)} {oc__law_all kV__law_all dc__law_all pm__law_all cd__law_all ct__law_all : Value}
    (a__law_all : PySem.W.nsIn K mainGlobals "_law_all" = some (some (.ref p__law_all))) (l__law_all : K.lookup p__law_all = some ⟨oc__law_all, od__law_all, .func (PySem.W.fnOf "_law_all" "_law_all" (defArgs s__law_all) (defBody s__law_all) (defScope s__law_all) .none kV__law_all dc__law_all pm__law_all an__law_all cd__law_all ct__law_all), sl__law_all⟩) (c__law_all : PySem.W.codeIn K cd__law_all "_law_all" = true) (k__law_all : PySem.W.keepIn K (.ref p__law_all) = true)
    {p__law_names : Addr} {od__law_names an__law_names : Option Addr} {sl__law_names : Array (Option Value)} {oc__law_names kV__law_names dc__law_names pm__law_names cd__law_names ct__law_names : Value}
    (a__law_names : PySem.W.nsIn K mainGlobals "_law_names" = some (some (.ref p__law_names))) (l__law_names : K.lookup p__law_names = some ⟨oc__law_names, od__law_names, .func (PySem.W.fnOf "_law_names" "_law_names" (defArgs s__law_names) (defBody s__law_names) (defScope s__law_names) .none kV__law_names dc__law_names pm__law_names an__law_names cd__law_names ct__law_names), sl__law_names⟩) (c__law_names : PySem.W.codeIn K cd__law_names "_law_names" = true) (k__law_names : PySem.W.keepIn K (.ref p__law_names) = true)
    {p__law_pairs : Addr} {od__law_pairs an__law_pairs : Option Addr} {sl__law_pairs : Array (Option Value)} {oc__law_pairs kV__law_pairs dc__law_pairs pm__law_pairs cd__law_pairs ct__law_pairs : Value}
    (a__law_pairs : PySem.W.nsIn K mainGlobals "_law_pairs" = some (some (.ref p__law_pairs))) (l__law_pairs : K.lookup p__law_pairs = some ⟨oc__law_pairs, od__law_pairs, .func (PySem.W.fnOf "_law_pairs" "_law_pairs" (defArgs s__law_pairs) (defBody s__law_pairs) (defScope s__law_pairs) .none kV__law_pairs dc__law_pairs pm__law_pairs an__law_pairs cd__law_pairs ct__law_pairs), sl__law_pairs⟩) (c__law_pairs : PySem.W.codeIn K cd__law_pairs "_law_pairs" = true) (k__law_pairs : PySem.W.keepIn K (.ref p__law_pairs) = true)
    {p__law_anyrow : Addr} {od__law_anyrow an__law_anyrow : Option Addr} {sl__law_anyrow : Array (Option Value)} {oc__law_anyrow kV__law_anyrow dc__law_anyrow pm__law_anyrow cd__law_anyrow ct__law_anyrow : Value}
    (a__law_anyrow : PySem.W.nsIn K mainGlobals "_law_anyrow" = some (some (.ref p__law_anyrow))) (l__law_anyrow : K.lookup p__law_anyrow = some ⟨oc__law_anyrow, od__law_anyrow, .func (PySem.W.fnOf "_law_anyrow" "_law_anyrow" (defArgs s__law_anyrow) (defBody s__law_anyrow) (defScope s__law_anyrow) .none kV__law_anyrow dc__law_anyrow pm__law_anyrow an__law_anyrow cd__law_anyrow ct__law_anyrow), sl__law_anyrow⟩) (c__law_anyrow : PySem.W.codeIn K cd__law_anyrow "_law_anyrow" = true) (k__law_anyrow : PySem.W.keepIn K (.ref p__law_anyrow) = true)
    {p__law_system : Addr} {od__law_system an__law_system : Option Addr} {sl__law_system : Array (Option Value)} {oc__law_system kV__law_system dc__law_system pm__law_system cd__law_system ct__law_system : Value}
    (a__law_system : PySem.W.nsIn K mainGlobals "_law_system" = some (some (.ref p__law_system))) (l__law_system : K.lookup p__law_system = some ⟨oc__law_system, od__law_system, .func (PySem.W.fnOf "_law_system" "_law_system" (defArgs s__law_system) (defBody s__law_system) (defScope s__law_system) .none kV__law_system dc__law_system pm__law_system an__law_system cd__law_system ct__law_system), sl__law_system⟩) (c__law_system : PySem.W.codeIn K cd__law_system "_law_system" = true) (k__law_system : PySem.W.keepIn K (.ref p__law_system) = true)
    {p__law_grid : Addr} {od__law_grid an__law_grid : Option Addr} {sl__law_grid : Array (Option Value)} {oc__law_grid kV__law_grid dc__law_grid pm__law_grid cd__law_grid ct__law_grid : Value}
    (a__law_grid : PySem.W.nsIn K mainGlobals "_law_grid" = some (some (.ref p__law_grid))) (l__law_grid : K.lookup p__law_grid = some ⟨oc__law_grid, od__law_grid, .func (PySem.W.fnOf "_law_grid" "_law_grid" (defArgs s__law_grid) (defBody s__law_grid) (defScope s__law_grid) .none kV__law_grid dc__law_grid pm__law_grid an__law_grid cd__law_grid ct__law_grid), sl__law_grid⟩) (c__law_grid : PySem.W.codeIn K cd__law_grid "_law_grid" = true) (k__law_grid : PySem.W.keepIn K (.ref p__law_grid) = true)
    {p_law : Addr} {od_law an_law : Option Addr} {sl_law : Array (Option Value)} {oc_law kV_law dc_law pm_law cd_law ct_law : Value}
    (a_law : PySem.W.nsIn K mainGlobals "law" = some (some (.ref p_law))) (l_law : K.lookup p_law = some ⟨oc_law, od_law, .func (PySem.W.fnOf "law" "law" (defArgs s_law) (defBody s_law) (defScope s_law) .none kV_law dc_law pm_law an_law cd_law ct_law), sl_law⟩) (c_law : PySem.W.codeIn K cd_law "law" = true) (k_law : PySem.W.keepIn K (.ref p_law) = true)
    (z_all : PySem.W.nsIn K mainGlobals "all" = some none)
    (z_dict : PySem.W.nsIn K mainGlobals "dict" = some none)
    (z_len : PySem.W.nsIn K mainGlobals "len" = some none)
    (z_max : PySem.W.nsIn K mainGlobals "max" = some none)
    (z_min : PySem.W.nsIn K mainGlobals "min" = some none)
    (z_range : PySem.W.nsIn K mainGlobals "range" = some none)
    (z_sorted : PySem.W.nsIn K mainGlobals "sorted" = some none)
    (z_tuple : PySem.W.nsIn K mainGlobals "tuple" = some none)
    (z_gcd : PySem.W.nsIn K mainGlobals "gcd" = some (some (.builtin "math.gcd")))
    {C_NumberError : Addr} (a_NumberError : PySem.W.nsIn K mainGlobals "NumberError" = some (some (.ref C_NumberError))) (e_NumberError : PySem.W.excIn K C_NumberError [.type "ValueError", .type "Exception", .type "BaseException", .type "object"] "ValueError.__new__" = true) (k_NumberError : PySem.W.keepIn K (.ref C_NumberError) = true) (b_NumberError : PySem.W.subIn K (.ref C_NumberError) (.type "BaseException") = some true) (t_NumberError : PySem.W.typeIn K (.ref C_NumberError) = some (.type "type")) (i_NumberError : PySem.W.isClsIn K C_NumberError = true) (s_NumberError : PySem.W.subIn K (.ref C_NumberError) (.ref C_NumberError) = some true)
    {p_ZERO : Addr} {sl_ZERO : Array (Option Value)} {n_ZERO : Nat} {t_ZERO_0 t_ZERO_1 : Tok}
    (a_ZERO : PySem.W.nsIn K mainGlobals "ZERO" = some (some (.ref p_ZERO))) (l_ZERO : K.lookup p_ZERO = some ⟨.type "tuple", none, .seq #[.int 0 t_ZERO_0, .int 1 t_ZERO_1] n_ZERO, sl_ZERO⟩) :
    ∃ fd : FuncData, (∀ (s : Shared) (v : Value), BindsTo s fd ⟨[v], []⟩ [("script", v)]) ∧ ∀ base : Heap, K.In base → base.Ns mainGlobals mg → FnOk P w K mg base (L2.CX P w) 8 fa fd ["script"] (spLaw K) := by
  obtain ⟨fd, hb, F⟩ := o_law (P := P) (w := w) (txt_mk X G a_number l_number c_number k_number a_plus l_plus c_plus k_plus a_times l_times c_times k_times a_compare l_compare c_compare k_compare a_unknowns l_unknowns c_unknowns k_unknowns a_value l_value c_value k_value a_holds l_holds c_holds k_holds a_is_point l_is_point c_is_point k_is_point a__law_cell l__law_cell c__law_cell k__law_cell a__law_draw l__law_draw c__law_draw k__law_draw a__law_f l__law_f c__law_f k__law_f a__law_add l__law_add c__law_add k__law_add a__law_sub l__law_sub c__law_sub k__law_sub a__law_mul l__law_mul c__law_mul k__law_mul a__law_div l__law_div c__law_div k__law_div a__law_less l__law_less c__law_less k__law_less a__law_scaled l__law_scaled c__law_scaled k__law_scaled a__law_factor l__law_factor c__law_factor k__law_factor a__law_normal l__law_normal c__law_normal k__law_normal a__law_parts l__law_parts c__law_parts k__law_parts a__law_row l__law_row c__law_row k__law_row a__law_at l__law_at c__law_at k__law_at a__law_true l__law_true c__law_true k__law_true a__law_all l__law_all c__law_all k__law_all a__law_names l__law_names c__law_names k__law_names a__law_pairs l__law_pairs c__law_pairs k__law_pairs a__law_anyrow l__law_anyrow c__law_anyrow k__law_anyrow a__law_system l__law_system c__law_system k__law_system a__law_grid l__law_grid c__law_grid k__law_grid a_law l_law c_law k_law z_all z_dict z_len z_max z_min z_range z_sorted z_tuple z_gcd a_NumberError e_NumberError k_NumberError b_NumberError t_NumberError i_NumberError s_NumberError a_ZERO l_ZERO) hl hfa
  exact ⟨fd, hb, fun base _ _ => F base⟩
end G_k06

namespace G_k06
open PySem PySem.Spec PyProof.Rows L2 DL
/-- the names of rows, each once -/
def nmP (ps : List Pt) (acc : List Str) : List Str := ps.foldl (fun acc p => insT p.1 acc) acc
def nmR (rows : List Rw) (acc : List Str) : List Str := rows.foldl (fun acc r => nmP r.1 acc) acc
def NA (acc : List Str) : Prop := acc.Nodup ∧ ∀ x ∈ acc, x ∈ (["x", "b1", "total"] : List Str)
theorem NA.len {acc : List Str} (h : NA acc) : acc.length ≤ 3 := len_of_nd ["x", "b1", "total"] acc h.1 h.2
theorem NA.ins {acc : List Str} {x : Str} (h : NA acc) (hx : Nam x) : NA (insT x acc) := by
  refine ⟨insT_nd h.1, fun y hy => ?_⟩
  unfold insT at hy
  split at hy
  · exact h.2 y hy
  · rcases List.mem_cons.mp hy with rfl | hy
    · rcases hx with rfl | rfl | rfl <;> simp
    · exact h.2 y hy
theorem NA.nmP : ∀ (ps : List Pt) {acc : List Str}, NA acc → (∀ p ∈ ps, Nam p.1) → NA (nmP ps acc)
  | [], _, h, _ => h
  | p :: ps, _, h, hp => NA.nmP ps (h.ins (hp p List.mem_cons_self)) fun q hq => hp q (List.mem_cons_of_mem _ hq)
def St (e : Ent) : Prop := roE (frzE e) = e
theorem adds_names {e0 e1 : PyData} : ∀ (ps : List Pt) (acc : List Str) (e2 e3 : Ent), St e2 → St e3 → NA acc → (∀ p ∈ ps, Nam p.1) →
    ∃ e2' e3', addsL (tupT 2 (consTs (nameT 3) (consTs (nameT 2) nilTs))) (varF 3) (ps.map pD) [.d e0, .d e1, e2, e3] acc = some (nmP ps acc, [.d e0, .d e1, e2', e3']) ∧ St e2' ∧ St e3'
  | [], acc, e2, e3, h2, h3, _, _ => ⟨e2, e3, rfl, h2, h3⟩
  | p :: ps, acc, e2, e3, h2, h3, ha, hp => by
    obtain ⟨e2', e3', z, s2, s3⟩ := adds_names (e0 := e0) (e1 := e1) ps (insT p.1 acc) (.d (N p.2)) (.d (.str p.1)) rfl rfl (ha.ins (hp p List.mem_cons_self)) fun q hq => hp q (List.mem_cons_of_mem _ hq)
    refine ⟨e2', e3', ?_, s2, s3⟩
    have l3 : acc.length < 63 := by have := ha.len; omega
    rw [List.map_cons]
    unfold addsL
    simp [l3]
    exact z
theorem set_names {e0 : PyData} : ∀ (rows : List Rw) (acc : List Str) (e1 e2 e3 : Ent), St e1 → St e2 → St e3 → NA acc → (∀ r ∈ rows, ∀ p ∈ r.1, Nam p.1) →
    setL (tupT 3 (consTs (nameT 1) (consTs (nameT 2) (consTs (nameT 2) nilTs)))) (itemsQ (varF 1)) (tupT 2 (consTs (nameT 3) (consTs (nameT 2) nilTs))) (varF 3) (rows.map rD) [.d e0, e1, e2, e3] acc = some (nmR rows acc) ∧ NA (nmR rows acc)
  | [], acc, e1, e2, e3, _, _, _, ha, _ => ⟨rfl, ha⟩
  | r :: rows, acc, e1, e2, e3, h1, h2, h3, ha, hp => by
    have hr := hp r List.mem_cons_self
    obtain ⟨e2', e3', z, s2, s3⟩ := adds_names (e0 := e0) (e1 := psD r.1) r.1 acc (.d (N r.2.2)) e3 rfl h3 ha hr
    have q := set_names (e0 := e0) rows (nmP r.1 acc) (.d (psD r.1)) e2' e3' rfl s2 s3 (NA.nmP r.1 ha hr) fun x hx => hp x (List.mem_cons_of_mem _ hx)
    refine ⟨?_, q.2⟩
    have h3' : roE (frzE e3) = e3 := h3
    rw [List.map_cons]
    unfold setL
    simp [h3', z]
    exact q.1
theorem pg_unknowns {rows : List Rw} (h : ∀ r ∈ rows, ∀ p ∈ r.1, Nam p.1) : B_unknowns (.list (rows.map rD)) = .ok (.list ((sortS (nmR rows [])).map PyData.str)) := by
  have z := (set_names (e0 := .list (rows.map rD)) rows [] .un .un .un rfl rfl rfl ⟨.nil, fun _ h => by cases h⟩ h).1
  simp [B_unknowns, S_unknowns, sortSetF, z]
theorem sortS_perm_eq {xs ys : List Str} (p : xs.Perm ys) : sortS xs = sortS ys := sorted_unique ((sortS_perm xs).trans (p.trans (sortS_perm ys).symm)) (sortS_sorted xs) (sortS_sorted ys)
/-! the law's names: the other way round -/
def insL (acc : List Str) (x : Str) : List Str := if x ∈ acc then acc else acc ++ [x]
def nmL (ps : List Pt) (acc : List Str) : List Str := ps.foldl (fun acc p => insL acc p.1) acc
def nmRL (rows : List Rw) (acc : List Str) : List Str := rows.foldl (fun acc r => nmL r.1 acc) acc
theorem ins_perm {acc acc2 : List Str} (p : acc.Perm acc2) (x : Str) : (insL acc x).Perm (insT x acc2) := by
  unfold insL insT
  by_cases h : x ∈ acc
  · rw [if_pos h, if_pos (p.mem_iff.mp h)]; exact p
  · rw [if_neg h, if_neg (fun z => h (p.mem_iff.mpr z))]
    exact (List.perm_append_singleton x acc).trans (p.cons x)
theorem nmL_perm : ∀ (ps : List Pt) {acc acc2 : List Str}, acc.Perm acc2 → (nmL ps acc).Perm (nmP ps acc2)
  | [], _, _, p => p
  | q :: ps, _, _, p => nmL_perm ps (ins_perm p q.1)
theorem nmRL_perm : ∀ (rows : List Rw) {acc acc2 : List Str}, acc.Perm acc2 → (nmRL rows acc).Perm (nmR rows acc2)
  | [], _, _, p => p
  | r :: rows, _, _, p => nmRL_perm rows (nmL_perm r.1 p)
def NB (acc : List Str) : Prop := (∀ x ∈ acc, Nam x) ∧ acc.Nodup
theorem NB.len {acc : List Str} (h : NB acc) : acc.length ≤ 3 := len_of_nd ["x", "b1", "total"] acc h.2 fun x hx => by rcases h.1 x hx with rfl | rfl | rfl <;> simp
theorem NB.ins {acc : List Str} {x : Str} (h : NB acc) (hx : Nam x) : NB (insL acc x) := by
  unfold insL
  by_cases hm : x ∈ acc
  · rw [if_pos hm]; exact h
  · rw [if_neg hm]
    refine ⟨fun y hy => ?_, ?_⟩
    · rcases List.mem_append.mp hy with hy | hy
      · exact h.1 y hy
      · rw [List.mem_singleton.mp hy]; exact hx
    · exact (List.perm_append_singleton x acc).nodup_iff.mpr (List.nodup_cons.mpr ⟨hm, h.2⟩)
theorem NB.nmL : ∀ (ps : List Pt) {acc : List Str}, NB acc → (∀ p ∈ ps, Nam p.1) → NB (nmL ps acc)
  | [], _, h, _ => h
  | p :: ps, _, h, hp => NB.nmL ps (h.ins (hp p List.mem_cons_self)) fun q hq => hp q (List.mem_cons_of_mem _ hq)
theorem strs_shaped {acc : List Str} (h : ∀ x ∈ acc, PySem.PyData.strOk x = true) : SeqAt.shaped (.list (acc.map PyData.str)) = true := by
  have h1 : PyData.canLayAll0 (acc.map PyData.str) = true := canAll fun x hx => by simp [PyData.canLay0, h x hx]
  have h2 : PyData.depthAll (acc.map PyData.str) ≤ 0 := depAll fun x _ => by simp [PyData.depth]
  simp only [SeqAt.shaped, PyData.canLay0, PyData.depth, h1, Bool.true_and, decide_eq_true_eq]
  exact decide_eq_true (by omega)
theorem any_str {acc : List Str} {x : Str} : ((acc.map PyData.str).any fun z => PyData.eqv z (.str x)) = decide (x ∈ acc) := by
  induction acc with
  | nil => rfl
  | cons a r ih =>
    rw [List.map_cons, List.any_cons, ih]
    by_cases h : a = x
    · subst h; simp [PyData.eqv]
    · have h' : ¬ x = a := fun z => h z.symm
      simp [PyData.eqv, h, h']
theorem strsOf_map : ∀ acc : List Str, strsOf (acc.map PyData.str) = some acc
  | [] => rfl
  | x :: r => by
    rw [List.map_cons]
    simp [strsOf, strsOf_map r]
theorem names_loop1 {e0 e2 : Ent} : ∀ (ps : List Pt) (acc : List Str) (e3 e4 : Ent), NB acc → (∀ p ∈ ps, Nam p.1) →
    ∃ e3' e4', loopS (tupT 2 (consTs (nameT 3) (consTs (nameT 4) nilTs))) L__law_names_1 (ps.map pD) [e0, .own (acc.map PyData.str), e2, e3, e4] = .nx [e0, .own ((nmL ps acc).map PyData.str), e2, e3', e4']
  | [], acc, e3, e4, _, _ => ⟨e3, e4, rfl⟩
  | p :: ps, acc, e3, e4, ha, hp => by
    have hn := hp p List.mem_cons_self
    obtain ⟨e3', e4', z⟩ := names_loop1 (e0 := e0) (e2 := e2) ps (insL acc p.1) (.d (.str p.1)) (.d (N p.2)) (ha.ins hn) fun q hq => hp q (List.mem_cons_of_mem _ hq)
    refine ⟨e3', e4', ?_⟩
    have s1 : SeqAt.shaped (.str p.1) = true := str_shaped hn.ok
    have s2 := strs_shaped fun x hx => (ha.1 x hx).ok
    have hl : acc.length < 16777216 := by have := ha.len; omega
    rw [List.map_cons, loopS_cons (ρ1 := [e0, .own (acc.map PyData.str), e2, .d (.str p.1), .d (N p.2)]) (by simp)]
    by_cases hm : p.1 ∈ acc
    · have ei : insL acc p.1 = acc := if_pos hm
      rw [ei] at z
      have zz : nmL (p :: ps) acc = nmL ps acc := by show nmL ps (insL acc p.1) = _; rw [ei]
      rw [zz]
      simp [L__law_names_1, s1, s2, -List.any_map, any_str, hm]
      exact z
    · have ei : insL acc p.1 = acc ++ [p.1] := if_neg hm
      rw [ei] at z
      have zz : nmL (p :: ps) acc = nmL ps (acc ++ [p.1]) := by show nmL ps (insL acc p.1) = _; rw [ei]
      rw [zz]
      simp [L__law_names_1, s1, s2, -List.any_map, any_str, hm, hl]
      rw [show (acc ++ [p.1]).map PyData.str = acc.map PyData.str ++ [.str p.1] by simp] at z
      exact z
theorem names_loop2 {e0 : Ent} : ∀ (rows : List Rw) (acc : List Str) (e2 e3 e4 : Ent), NB acc → (∀ r ∈ rows, ∀ p ∈ r.1, Nam p.1) →
    ∃ e2' e3' e4', loopS (nameT 2) L__law_names_2 (rows.map rD) [e0, .own (acc.map PyData.str), e2, e3, e4] = .nx [e0, .own ((nmRL rows acc).map PyData.str), e2', e3', e4'] ∧ NB (nmRL rows acc)
  | [], acc, e2, e3, e4, ha, _ => ⟨e2, e3, e4, rfl, ha⟩
  | r :: rows, acc, e2, e3, e4, ha, hp => by
    have hr := hp r List.mem_cons_self
    obtain ⟨e3a, e4a, z1⟩ := names_loop1 (e0 := e0) (e2 := .d (rD r)) r.1 acc e3 e4 ha hr
    obtain ⟨e2', e3', e4', z2, z3⟩ := names_loop2 (e0 := e0) rows (nmL r.1 acc) (.d (rD r)) e3a e4a (NB.nmL r.1 ha hr) fun x hx => hp x (List.mem_cons_of_mem _ hx)
    refine ⟨e2', e3', e4', ?_, z3⟩
    rw [List.map_cons, loopS_cons (ρ1 := [e0, .own (acc.map PyData.str), .d (rD r), e3, e4]) (by simp)]
    simp [L__law_names_2, z1]
    exact z2
theorem lh_names {rows : List Rw} (h : ∀ r ∈ rows, ∀ p ∈ r.1, Nam p.1) : B__law_names (.list (rows.map rD)) = .ok (.list ((sortS (nmR rows [])).map PyData.str)) := by
  obtain ⟨e2, e3, e4, z, nb⟩ := names_loop2 (e0 := .d (.list (rows.map rD))) rows [] .un .un .un ⟨fun _ h => (by cases h), .nil⟩ h
  have e : sortS (nmRL rows []) = sortS (nmR rows []) := sortS_perm_eq (nmRL_perm rows (.refl _))
  have z' : loopS (nameT 2) L__law_names_2 (rows.map rD) [.d (.list (rows.map rD)), .own [], .un, .un, .un] = _ := z
  have bs : bSorted (.list ((nmRL rows []).map PyData.str)) = some (.list ((sortS (nmR rows [])).map PyData.str)) := by
    unfold bSorted
    dsimp only
    rw [strsOf_map]
    dsimp only
    rw [if_pos (by have := nb.len; omega), e]
  simp [B__law_names, S__law_names, z', bs]
/-! where rows hold -/
def P5 (pt : List Pt) : Prop := ∀ p ∈ pt, Sz 5 p.2
theorem good_len3 {r : Rw} (h : Good r) : r.1.length ≤ 3 := h.good.len
theorem true_ok {r : Rw} {pt : List Pt} (hpt : P5 pt) (G : GoodR r) : LH.B_true (rD r) (psD pt) = .ok (.bool (holdsP pt r)) ∧ PG.B_holds (rD r) (psD pt) = .ok (.bool (holdsP pt r)) := by
  have l3 : r.1.length ≤ 3 := G.len
  have b : 1 + (150 + (5 + 1) + 1) * r.1.length ≤ 3900 := by
    have : (150 + (5 + 1) + 1) * r.1.length ≤ (150 + (5 + 1) + 1) * 3 := Nat.mul_le_mul_left _ l3
    omega
  exact ⟨lh_true hpt G.sz G.low.bd G.sg (by decide) (by decide) b, pg_holds hpt G.sz G.sg (by decide) (by decide) b⟩
theorem all_ok {pt : List Pt} (hpt : P5 pt) (rows : List Rw) (hg : ∀ r ∈ rows, GoodR r) : B__law_all (.list (rows.map rD)) (psD pt) = .ok (.bool (rows.all (holdsP pt))) := by
  have main : ∀ (rs : List Rw) (e2 : Ent), (∀ r ∈ rs, GoodR r) → (rs.all (holdsP pt) = true → ∃ e2', loopS (nameT 2) L__law_all_1 (rs.map rD) [.d (.list (rows.map rD)), .d (psD pt), e2] = .nx [.d (.list (rows.map rD)), .d (psD pt), e2']) ∧ (rs.all (holdsP pt) = false → loopS (nameT 2) L__law_all_1 (rs.map rD) [.d (.list (rows.map rD)), .d (psD pt), e2] = .rt (.bool false)) := by
    intro rs
    induction rs with
    | nil => intro e2 _; exact ⟨fun _ => ⟨e2, rfl⟩, fun h => by cases h⟩
    | cons r rs ih =>
      intro e2 hr
      have e : m__law_true [rD r, psD pt] = .ok (.bool (holdsP pt r)) := (true_ok hpt (hr r List.mem_cons_self)).1
      rw [List.map_cons, loopS_name (by simp)]
      cases hh : holdsP pt r with
      | false =>
        rw [hh] at e
        refine ⟨fun h => by simp [hh] at h, fun _ => by simp [L__law_all_1, e]⟩
      | true =>
        rw [hh] at e
        obtain ⟨i1, i2⟩ := ih (.d (rD r)) fun x hx => hr x (List.mem_cons_of_mem _ hx)
        have ea : (r :: rs).all (holdsP pt) = rs.all (holdsP pt) := by simp [hh]
        rw [ea]
        have st : L__law_all_1 ([Ent.d (.list (rows.map rD)), .d (psD pt), e2].set 2 (.d (rD r))) = .nx [.d (.list (rows.map rD)), .d (psD pt), .d (rD r)] := by simp [L__law_all_1, e]
        rw [st]
        exact ⟨i1, i2⟩
  obtain ⟨h1, h2⟩ := main rows .un hg
  cases hh : rows.all (holdsP pt) with
  | true =>
    obtain ⟨e2', z⟩ := h1 hh
    simp [B__law_all, S__law_all, z]
  | false => simp [B__law_all, S__law_all, h2 hh]
theorem boolsD_map (bs : List Bool) : boolsD (bs.map PyData.bool) = some bs := by
  induction bs with
  | nil => rfl
  | cons b r ih => rw [List.map_cons]; simp [boolsD, ih]
theorem point_ok {pt : List Pt} (hpt : P5 pt) (rows : List Rw) (hl : rows.length ≤ 100) (hg : ∀ r ∈ rows, GoodR r) : B_is_point (.list (rows.map rD)) (psD pt) = .ok (.bool (rows.all (holdsP pt))) := by
  have c : compL (nameT 2) yesT (callF m_holds (consA (varF 2) (consA (varF 1) nilA))) [.d (.list (rows.map rD)), .d (psD pt), .un] (rows.map rD) [] = some (rows.map fun r => PyData.bool (holdsP pt r)) := by
    refine compL_map rD (fun r => PyData.bool (holdsP pt r)) rows (fun r hr => ?_) (by omega)
    have e : m_holds [rD r, psD pt] = .ok (.bool (holdsP pt r)) := (true_ok hpt (hg r hr)).2
    simp [e]
  have e : bAll (.list (rows.map fun r => PyData.bool (holdsP pt r))) = some (.bool (rows.all (holdsP pt))) := by
    have q : (rows.map fun r => PyData.bool (holdsP pt r)) = (rows.map (holdsP pt)).map PyData.bool := by rw [List.map_map]; rfl
    rw [q]
    show (boolsD _).map _ = _
    rw [boolsD_map]
    simp
  simp [B_is_point, S_is_point, c, e]
theorem val_eq {pt ps : List Pt} (hpt : P5 pt) (hp : ∀ p ∈ ps, Sz 150 p.2) (hl : ps.length ≤ 3) : B_value (.tuple [psD ps, N (3, 2)]) (psD pt) = .ok (N (qadd (atM (look pt) ps (0, 1)) (3, 2))) ∧
    B__law_at (psD ps) (psD pt) = .ok (N (atM (look pt) ps (0, 1))) ∧ B__law_add (N (atM (look pt) ps (0, 1))) (N (3, 2)) = .ok (N (qadd (atM (look pt) ps (0, 1)) (3, 2))) := by
  have b : (150 + (5 + 1) + 1) * ps.length ≤ (150 + (5 + 1) + 1) * 3 := Nat.mul_le_mul_left _ hl
  have s32 : Sz 2 (3, 2) := ⟨by decide, by unfold Bt; decide, by unfold Bt; decide⟩
  have fp : ∀ x, 0 < (look pt x).2 := fun x => (look_sz hpt x).pos
  have pp : ∀ p ∈ ps, 0 < p.2.2 := fun p h => (hp p h).pos
  have z := at_sz (look_sz hpt) ps (n := 150) (k := 1) (0, 1) hp sz01
  have e : atM (look pt) ps (3, 2) = qadd (atM (look pt) ps (0, 1)) (3, 2) := by
    refine rv_ext (at_low _ fp ps _ pp ⟨by decide, by decide⟩) (low_nrm (Int.mul_ne_zero (by have := z.pos; omega) (by decide))) ?_
    rw [rv_add (by decide) (by have := z.pos; omega), rv_at fp ps _ pp (by decide), rv_at fp ps _ pp (by decide), rv01]
    grind
  refine ⟨?_, lh_at hpt hp (by decide) (by decide) (by omega), lh_add (z.mono (by omega)) (s32.mono (by decide))⟩
  rw [← e]
  exact pg_value hpt hp (by decide) (by decide) s32 (by omega)
theorem law_true (ns : List Int) (hn : ns.length ≤ 63) : B_law (.list (ns.map PyData.int)) = .ok (.bool true) := by
  obtain ⟨m, hm, e1⟩ := rng_law 12 2 (by decide) (by decide) (ns.map PyData.int) (by simpa using hn) [.un, .un, .un, .un]
  unfold B_law S_law
  rw [seqS_apc, forS_apc, e1]
  refine loop_then (fun k ρ => ∃ x1 x2 x3 x4, ρ = [.d (iL ns), x1, x2, x3, x4]) _ ?_ ⟨_, _, _, _, rfl⟩ ?_
  rotate_left 1
  · rintro ρ ⟨x1, x2, x3, x4, rfl⟩
    simp
  rintro k d ρ hd ⟨x1, x2, x3, x4, rfl⟩
  obtain ⟨rfl, hk⟩ := rangeL_get hd
  obtain ⟨rows, er, gr, l0, l1, _⟩ := lh_system ns (2 * k) (by omega) 4 (by decide)
  obtain ⟨pts, eg, gg, lg⟩ := lh_grid ns (2 * k + 1) (by omega)
  have nam : ∀ r ∈ rows, ∀ p ∈ r.1, Nam p.1 := fun r h => (gr r h).names
  have c0 : ((2 * k : Nat) : Int) = 2 * (k : Int) := by omega
  have c1 : ((2 * k + 1 : Nat) : Int) = 2 * (k : Int) + 1 := by omega
  rw [c0] at er; rw [c1] at eg
  have er' : m__law_system [.list (ns.map PyData.int), .int (2 * (k : Int)), .int 4] = .ok (.list (rows.map rD)) := er
  have eg' : m__law_grid [.list (ns.map PyData.int), .int (2 * (k : Int) + 1), .list [.str "b1", .str "total", .str "x"]] = .ok (.list (pts.map psD)) := eg
  have u1 : m_unknowns [.list (rows.map rD)] = .ok (.list ((sortS (nmR rows [])).map PyData.str)) := pg_unknowns nam
  have u2 : m__law_names [.list (rows.map rD)] = .ok (.list ((sortS (nmR rows [])).map PyData.str)) := lh_names nam
  have na := (set_names (e0 := .none) rows [] .un .un .un rfl rfl rfl ⟨.nil, fun _ h => by cases h⟩ nam).2
  have un := dNe_self (strs_shaped (acc := sortS (nmR rows [])) fun x hx => by
    have := na.2 x ((sortS_perm _).mem_iff.mp hx)
    simp at this
    exact Nam.ok (by rcases this with h | h | h <;> simp [Nam, h]))
  have sk : Sm (k : Int) := Bt.sm (n := 31) (by unfold Bt; omega) (by decide)
  have s2 : Sm 2 := Bt.sm (n := 31) (by unfold Bt; decide) (by decide)
  have l1' : rows.length ≤ 4 := by omega
  obtain ⟨r0, rs, rfl⟩ : ∃ r0 rs, rows = r0 :: rs := by
    cases rows with
    | nil => simp at l0
    | cons a b => exact ⟨a, b, rfl⟩
  have G : ∀ r ∈ r0 :: rs, GoodR r := fun r h => (gr r h).good
  have g0 := G r0 List.mem_cons_self
  -- one point
  have one : ∀ (pt : List Pt), P5 pt → ∀ x3 : Ent, L_law_1 [.d (iL ns), .d (.int (k : Int)), .d (.list (rD r0 :: rs.map rD)), x3, .d (psD pt)] = .nx [.d (iL ns), .d (.int (k : Int)), .d (.list (rD r0 :: rs.map rD)), x3, .d (psD pt)] := fun pt hpt x3 => by
    have a1 : m_is_point [.list ((r0 :: rs).map rD), psD pt] = .ok (.bool ((r0 :: rs).all (holdsP pt))) := point_ok hpt _ (by omega) G
    have a2 : m__law_all [.list ((r0 :: rs).map rD), psD pt] = .ok (.bool ((r0 :: rs).all (holdsP pt))) := all_ok hpt _ G
    obtain ⟨v1, v2, v3⟩ := val_eq hpt g0.sz.ps g0.len
    have v1' : m_value [.tuple [psD r0.1, .tuple [.int 3, .int 2]], psD pt] = .ok (N (qadd (atM (look pt) r0.1 (0, 1)) (3, 2))) := v1
    have v2' : m__law_at [psD r0.1, psD pt] = .ok (N (atM (look pt) r0.1 (0, 1))) := v2
    have v3' : m__law_add [N (atM (look pt) r0.1 (0, 1)), .tuple [.int 3, .int 2]] = .ok (N (qadd (atM (look pt) r0.1 (0, 1)) (3, 2))) := v3
    have ne := dNe_self (N_shaped (qadd (atM (look pt) r0.1 (0, 1)) (3, 2)))
    rw [List.map_cons] at a1 a2
    generalize (r0 :: rs).all (holdsP pt) = bb at a1 a2
    simp only [N] at v1' v2' v3' ne
    simp [L_law_1, a1, a2, v1', v2', v3', ne]
  have step : ∀ pt ∈ pts, ∀ ρ, (∃ x3 x4, ρ = [.d (iL ns), .d (.int (k : Int)), .d (.list ((r0 :: rs).map rD)), x3, x4]) → ∃ ρ1 ρ2, nameT 3 (psD pt) ρ = some ρ1 ∧ L_law_2 ρ1 = .nx ρ2 ∧ ∃ x3 x4, ρ2 = [.d (iL ns), .d (.int (k : Int)), .d (.list ((r0 :: rs).map rD)), x3, x4] := by
    rintro pt hpt _ ⟨x3, x4, rfl⟩
    obtain ⟨g5, gn⟩ := gg pt hpt
    have p1 : P5 (pt.drop 1) := fun p h => g5 p (List.mem_of_mem_drop h)
    have p2 : P5 (pt.take 1) := fun p h => g5 p (List.mem_of_mem_take h)
    have p0 : P5 [] := fun _ h => by cases h
    have l3 : pt.length = 3 := by have := congrArg List.length gn; simpa using this
    obtain ⟨a, b, c, rfl⟩ : ∃ a b c, pt = [a, b, c] := by
      match pt, l3 with
      | [a, b, c], _ => exact ⟨a, b, c, rfl⟩
    have d1 : dCut (psD [a, b, c]) (some 1) none = some (psD [b, c]) := rfl
    have d2 : dCut (psD [a, b, c]) none (some 1) = some (psD [a]) := rfl
    have o1 := one [a, b, c] g5 (.d (psD [a, b, c]))
    have o2 := one [b, c] p1 (.d (psD [a, b, c]))
    have o3 := one [a] p2 (.d (psD [a, b, c]))
    have o4 := one [] p0 (.d (psD [a, b, c]))
    have pn : psD [] = .tuple [] := rfl
    rw [pn] at o4
    refine ⟨[.d (iL ns), .d (.int (k : Int)), .d (.list ((r0 :: rs).map rD)), .d (psD [a, b, c]), x4], [.d (iL ns), .d (.int (k : Int)), .d (.list ((r0 :: rs).map rD)), .d (psD [a, b, c]), .d (.tuple [])], by simp, ?_, _, _, rfl⟩
    simp [L_law_2, cutF_apc, noP_apc, someP_apc, d1, d2, loopS_name, o1, o2, o3, o4]
  have LL := loopS_each (T := nameT 3) (S1 := L_law_2) (fun ρ => ∃ x3 x4, ρ = [.d (iL ns), .d (.int (k : Int)), .d (.list ((r0 :: rs).map rD)), x3, x4]) psD pts step [.d (iL ns), .d (.int (k : Int)), .d (.list ((r0 :: rs).map rD)), x3, x4] ⟨x3, x4, rfl⟩
  obtain ⟨ρ', eL, x3', x4', rfl⟩ := LL
  refine ⟨[.d (iL ns), .d (.int (k : Int)), x2, x3, x4], [.d (iL ns), .d (.int (k : Int)), .d (.list ((r0 :: rs).map rD)), x3', x4'], by simp, ?_, _, _, _, _, rfl⟩
  rw [List.map_cons] at er' u1 u2 eL ⊢
  simp [L_law_3, dMul_ok, sk, s2, er', eg', u1, u2, un, eL]
end G_k06


open PySem PySem.W PyProof.Rows
set_option maxRecDepth 100000 in
set_option maxHeartbeats 0 in
theorem PySem.Challenge.cw_linpapers_k06_values_and_points_holds : PySem.Challenge.rw_linpapers_k06_values_and_points.Holds := by
  w_on; o_law; k_head; (case hw => w_witness2)
  k_fill
  refine L2.walk_of (l := PySem.Challenge.rw_linpapers_k06_values_and_points) (n := 63) (k := 8) (x := "script") (CX := fun w => L2.CX PySem.Challenge.rw_linpapers_k06_values_and_points.prog w) (sp := fun w => G_k06.spLaw _) rfl (by decide) rfl ⟨rfl, by decide, by decide⟩ (fun w h Y => PySem.W.kIn_of Y) ?F (fun _ _ a ns hl _ hS => ⟨a, ns, rfl, hS, hl, fun _ => rfl⟩) (fun _ _ _ _ _ h => by obtain ⟨_, _, _, _, _, _, _, _, _, _, _, _, z⟩ := h; exact z)
  case F =>
    intro w mg fa h KX G hmg
    refine' G_k06.all_mk KX G hmg G_k06.law_true ?a_number ?l_number ?c_number ?k_number ?a_plus ?l_plus ?c_plus ?k_plus ?a_times ?l_times ?c_times ?k_times ?a_compare ?l_compare ?c_compare ?k_compare ?a_unknowns ?l_unknowns ?c_unknowns ?k_unknowns ?a_value ?l_value ?c_value ?k_value ?a_holds ?l_holds ?c_holds ?k_holds ?a_is_point ?l_is_point ?c_is_point ?k_is_point ?a__law_cell ?l__law_cell ?c__law_cell ?k__law_cell ?a__law_draw ?l__law_draw ?c__law_draw ?k__law_draw ?a__law_f ?l__law_f ?c__law_f ?k__law_f ?a__law_add ?l__law_add ?c__law_add ?k__law_add ?a__law_sub ?l__law_sub ?c__law_sub ?k__law_sub ?a__law_mul ?l__law_mul ?c__law_mul ?k__law_mul ?a__law_div ?l__law_div ?c__law_div ?k__law_div ?a__law_less ?l__law_less ?c__law_less ?k__law_less ?a__law_scaled ?l__law_scaled ?c__law_scaled ?k__law_scaled ?a__law_factor ?l__law_factor ?c__law_factor ?k__law_factor ?a__law_normal ?l__law_normal ?c__law_normal ?k__law_normal ?a__law_parts ?l__law_parts ?c__law_parts ?k__law_parts ?a__law_row ?l__law_row ?c__law_row ?k__law_row ?a__law_at ?l__law_at ?c__law_at ?k__law_at ?a__law_true ?l__law_true ?c__law_true ?k__law_true ?a__law_all ?l__law_all ?c__law_all ?k__law_all ?a__law_names ?l__law_names ?c__law_names ?k__law_names ?a__law_pairs ?l__law_pairs ?c__law_pairs ?k__law_pairs ?a__law_anyrow ?l__law_anyrow ?c__law_anyrow ?k__law_anyrow ?a__law_system ?l__law_system ?c__law_system ?k__law_system ?a__law_grid ?l__law_grid ?c__law_grid ?k__law_grid ?a_law ?l_law ?c_law ?k_law ?z_all ?z_dict ?z_len ?z_max ?z_min ?z_range ?z_sorted ?z_tuple ?z_gcd ?a_NumberError ?e_NumberError ?k_NumberError ?b_NumberError ?t_NumberError ?i_NumberError ?s_NumberError ?a_ZERO ?l_ZERO
    (case a_number => k_is)
    (case l_number => k_is)
    (case c_number => k_is)
    (case k_number => k_is)
    (case a_plus => k_is)
    (case l_plus => k_is)
    (case c_plus => k_is)
    (case k_plus => k_is)
    (case a_times => k_is)
    (case l_times => k_is)
    (case c_times => k_is)
    (case k_times => k_is)
    (case a_compare => k_is)
    (case l_compare => k_is)
    (case c_compare => k_is)
    (case k_compare => k_is)
    (case a_unknowns => k_is)
    (case l_unknowns => k_is)
    (case c_unknowns => k_is)
    (case k_unknowns => k_is)
    (case a_value => k_is)
    (case l_value => k_is)
    (case c_value => k_is)
    (case k_value => k_is)
    (case a_holds => k_is)
    (case l_holds => k_is)
    (case c_holds => k_is)
    (case k_holds => k_is)
    (case a_is_point => k_is)
    (case l_is_point => k_is)
    (case c_is_point => k_is)
    (case k_is_point => k_is)
    (case a__law_cell => k_is)
    (case l__law_cell => k_is)
    (case c__law_cell => k_is)
    (case k__law_cell => k_is)
    (case a__law_draw => k_is)
    (case l__law_draw => k_is)
    (case c__law_draw => k_is)
    (case k__law_draw => k_is)
    (case a__law_f => k_is)
    (case l__law_f => k_is)
    (case c__law_f => k_is)
    (case k__law_f => k_is)
    (case a__law_add => k_is)
    (case l__law_add => k_is)
    (case c__law_add => k_is)
    (case k__law_add => k_is)
    (case a__law_sub => k_is)
    (case l__law_sub => k_is)
    (case c__law_sub => k_is)
    (case k__law_sub => k_is)
    (case a__law_mul => k_is)
    (case l__law_mul => k_is)
    (case c__law_mul => k_is)
    (case k__law_mul => k_is)
    (case a__law_div => k_is)
    (case l__law_div => k_is)
    (case c__law_div => k_is)
    (case k__law_div => k_is)
    (case a__law_less => k_is)
    (case l__law_less => k_is)
    (case c__law_less => k_is)
    (case k__law_less => k_is)
    (case a__law_scaled => k_is)
    (case l__law_scaled => k_is)
    (case c__law_scaled => k_is)
    (case k__law_scaled => k_is)
    (case a__law_factor => k_is)
    (case l__law_factor => k_is)
    (case c__law_factor => k_is)
    (case k__law_factor => k_is)
    (case a__law_normal => k_is)
    (case l__law_normal => k_is)
    (case c__law_normal => k_is)
    (case k__law_normal => k_is)
    (case a__law_parts => k_is)
    (case l__law_parts => k_is)
    (case c__law_parts => k_is)
    (case k__law_parts => k_is)
    (case a__law_row => k_is)
    (case l__law_row => k_is)
    (case c__law_row => k_is)
    (case k__law_row => k_is)
    (case a__law_at => k_is)
    (case l__law_at => k_is)
    (case c__law_at => k_is)
    (case k__law_at => k_is)
    (case a__law_true => k_is)
    (case l__law_true => k_is)
    (case c__law_true => k_is)
    (case k__law_true => k_is)
    (case a__law_all => k_is)
    (case l__law_all => k_is)
    (case c__law_all => k_is)
    (case k__law_all => k_is)
    (case a__law_names => k_is)
    (case l__law_names => k_is)
    (case c__law_names => k_is)
    (case k__law_names => k_is)
    (case a__law_pairs => k_is)
    (case l__law_pairs => k_is)
    (case c__law_pairs => k_is)
    (case k__law_pairs => k_is)
    (case a__law_anyrow => k_is)
    (case l__law_anyrow => k_is)
    (case c__law_anyrow => k_is)
    (case k__law_anyrow => k_is)
    (case a__law_system => k_is)
    (case l__law_system => k_is)
    (case c__law_system => k_is)
    (case k__law_system => k_is)
    (case a__law_grid => k_is)
    (case l__law_grid => k_is)
    (case c__law_grid => k_is)
    (case k__law_grid => k_is)
    (case a_law => k_is)
    (case l_law => k_is)
    (case c_law => k_is)
    (case k_law => k_is)
    (case z_all => k_is)
    (case z_dict => k_is)
    (case z_len => k_is)
    (case z_max => k_is)
    (case z_min => k_is)
    (case z_range => k_is)
    (case z_sorted => k_is)
    (case z_tuple => k_is)
    (case z_gcd => k_is)
    (case a_NumberError => k_is)
    (case e_NumberError => first | k_is | k_exc)
    (case k_NumberError => k_is)
    (case b_NumberError => k_is)
    (case t_NumberError => k_is)
    (case i_NumberError => k_is)
    (case s_NumberError => first | rfl | k_is)
    (case a_ZERO => k_is)
    (case l_ZERO => k_is)

