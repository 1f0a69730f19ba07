import PyProof.Rows.All
import Wide.All
import OpenK.AllK
import Wide.FinOn
import HandS.ForMost
import HandS.ForExc
import HandS.Wide
import HandS.Gcd
import HandS.Deep
import HandS.Rev
import KE.KeyNested
import HandS.Text
import HandS.Style
import HandS.TupAny
import HandS.Iter
import HandS.More
import HandS.IsInst
import KE.KDictPairs
import HandS.Flow
import HandS.FStr
import HandS.StrMore
import HandS.SetTxt0
import HandS.SetBool
import KE.KDictCopyH
import HandS.Zip
import HandS.RevRange
import KE.SortCalls
import PyProof.TupleOfSeq
import HandS.Conv
import PySem.Challenge.RW_linpapers_k46_truth_of_formulas
set_option Elab.async false
set_option linter.all false
set_option maxRecDepth 100000
set_option maxHeartbeats 4000000
namespace L2
open PySem PySem.Spec PyProof.Rows
def SqN (K : PySem.W.Frag) (H : Hp) (a : Addr) (xs : List V) : Prop :=
  (∃ o : Obj, o.dict = none ∧ H a = some (.frz o (.tup xs))) ∨
    ∃ (o : Obj) (its : Array Value) (n : Nat), o.dict = none ∧ K.lookup a = some o ∧ o.cls = .type "tuple" ∧ o.data = .seq its n ∧ its.size ≤ sizeLine ∧ Vals xs its.toList
theorem SqN.t {K : PySem.W.Frag} {H : Hp} {a : Addr} {xs : List V} (h : SqN K H a xs) : SqT K H a xs := by
  rcases h with ⟨o, _, h⟩ | ⟨o, its, n, _, h⟩
  · exact .inl (.inr ⟨o, h⟩)
  · exact .inr ⟨o, its, n, h⟩
theorem SqN.of {K : PySem.W.Frag} {H : Hp} {a : Addr} {xs : List V} {o : Obj} (hd : o.dict = none) (h : H a = some (.frz o (.tup xs))) : SqN K H a xs := .inl ⟨o, hd, h⟩
theorem SqN.same {K : PySem.W.Frag} {H H' : Hp} {a : Addr} {xs : List V} (e : Same H H') (h : SqN K H a xs) : SqN K H' a xs := by
  rcases h with ⟨o, hd, h⟩ | h
  · exact .inl ⟨o, hd, e _ _ h⟩
  · exact .inr h
mutual
inductive Dq (K : PySem.W.Frag) (H : Hp) : V → PyData → Prop
  | non : Dq K H .non .none
  | bl (b : Bool) : Dq K H (.bl b) (.bool b)
  | int (i : Int) : Dq K H (.int i) (.int i)
  | str (x : Str) : Dq K H (.str x) (.str x)
  | lst {a : Addr} {xs : List V} {ds : List PyData} : SqL K H a xs → DqAll K H xs ds → Dq K H (.ref a) (.list ds)
  | tup {a : Addr} {xs : List V} {ds : List PyData} : SqN K H a xs → DqAll K H xs ds → Dq K H (.ref a) (.tuple ds)
inductive DqAll (K : PySem.W.Frag) (H : Hp) : List V → List PyData → Prop
  | nil : DqAll K H [] []
  | cons {v : V} {vs : List V} {d : PyData} {ds : List PyData} : Dq K H v d → DqAll K H vs ds → DqAll K H (v :: vs) (d :: ds)
end
mutual
theorem Dq.p {K : PySem.W.Frag} {H : Hp} : ∀ {d : PyData} {v : V}, Dq K H v d → Dp K H v d
  | .none, _, h => by cases h; exact .non
  | .bool b, _, h => by cases h; exact .bl b
  | .int i, _, h => by cases h; exact .int i
  | .str x, _, h => by cases h; exact .str x
  | .list ds, _, h => by
    cases h with
    | lst hs ha => exact .lst hs ha.p
  | .tuple ds, _, h => by
    cases h with
    | tup hs ha => exact .tup hs.t ha.p
  | .dict _, _, h => by cases h
theorem DqAll.p {K : PySem.W.Frag} {H : Hp} : ∀ {ds : List PyData} {vs : List V}, DqAll K H vs ds → DpAll K H vs ds
  | [], _, h => by cases h; exact .nil
  | d :: ds, _, h => by
    cases h with
    | cons h1 h2 => exact .cons h1.p h2.p
end
end L2
namespace DL
open PySem PySem.Spec PyProof.Rows L2
inductive Ent where
  | un
  | d (x : PyData)
  | own (xs : List PyData)
    | dct (kvs : List (Key × PyData))
  | rdd (kvs : List (Key × PyData))
    | ndc (kvs : List (NestedKey × Int))
abbrev Rho := List Ent
structure Exn where
  nm : Str
  fs : List (Str × PyData)
inductive Res (α : Type) where
  | ok (a : α) (ρ : Rho)
  | ex (e : Exn) (ρ : Rho)
  | bad
def Res.bind {α β : Type} : Res α → (α → Rho → Res β) → Res β
  | .ok a ρ, f => f a ρ
  | .ex e ρ, _ => .ex e ρ
  | .bad, _ => .bad
inductive Out where
  | nx (ρ : Rho)
  | rt (d : PyData)
  | bk (ρ : Rho)
  | ct (ρ : Rho)
  | ex (e : Exn) (ρ : Rho)
  | bad
def Out.bind : Out → (Rho → Out) → Out
  | .nx ρ, f => f ρ
  | o, _ => o
def Res.out {α : Type} : Res α → (α → Rho → Out) → Out
  | .ok a ρ, f => f a ρ
  | .ex e ρ, _ => .ex e ρ
  | .bad, _ => .bad
inductive FR where
  | ok (d : PyData)
  | ex (e : Exn)
  | bad
abbrev Fn := List PyData → FR
structure KM where
  K : PySem.W.Frag
  mg : Str → Option Value
  w : World
abbrev km (X : L2.Cx) : KM := ⟨X.K, X.mg, X.w⟩
theorem seqT_same {K : PySem.W.Frag} {H H' : Hp} {a : Addr} {xs : List V} (e : Same H H') (h : SqN K H a xs) : SqT K H' a xs := (h.same e).t
mutual
theorem dp_same {K : PySem.W.Frag} {H H' : Hp} (e : Same H H') : ∀ (d : PyData) (v : V), Dq K H v d → Dq K H' v d
  | .none, _, h => by cases h; exact .non
  | .bool b, _, h => by cases h; exact .bl b
  | .int i, _, h => by cases h; exact .int i
  | .str x, _, h => by cases h; exact .str x
  | .list ds, _, h => by
    cases h with
    | lst hs ha => exact .lst (e.seq hs) (dpAll_same e ds _ ha)
  | .tuple ds, _, h => by
    cases h with
    | tup hs ha => exact .tup (hs.same e) (dpAll_same e ds _ ha)
  | .dict _, _, h => by cases h
theorem dpAll_same {K : PySem.W.Frag} {H H' : Hp} (e : Same H H') : ∀ (ds : List PyData) (vs : List V), DqAll K H vs ds → DqAll K H' vs ds
  | [], _, h => by cases h; exact .nil
  | d :: ds, _, h => by
    cases h with
    | cons h1 h2 => exact .cons (dp_same e d _ h1) (dpAll_same e ds _ h2)
end
end DL
namespace L2
open PySem PySem.Spec PyProof.Rows
theorem DqAll.len {K : PySem.W.Frag} {H : Hp} : ∀ {ds : List PyData} {vs : List V}, DqAll K H vs ds → vs.length = ds.length
  | [], _, h => by cases h; rfl
  | d :: ds, _, h => by
    cases h with
    | cons h1 h2 => simp [DqAll.len h2]
theorem DqAll.get {K : PySem.W.Frag} {H : Hp} : ∀ {ds : List PyData} {vs : List V} {i : Nat} {d : PyData}, DqAll K H vs ds → ds[i]? = some d → ∃ v, vs[i]? = some v ∧ Dq K H v d
  | [], _, _, _, _, e => by simp at e
  | d :: ds, _, 0, _, h, e => by
    cases h with
    | cons h1 h2 => simp at e; subst e; exact ⟨_, rfl, h1⟩
  | d :: ds, _, i + 1, _, h, e => by
    cases h with
    | cons h1 h2 => exact DqAll.get (i := i) h2 (by simpa using e)
theorem DqAll.append {K : PySem.W.Frag} {H : Hp} : ∀ {ds es : List PyData} {vs us : List V}, DqAll K H vs ds → DqAll K H us es → DqAll K H (vs ++ us) (ds ++ es)
  | [], _, _, _, h, q => by cases h; exact q
  | d :: ds, _, _, _, h, q => by
    cases h with
    | cons h1 h2 => exact .cons h1 (DqAll.append h2 q)
theorem DqAll.drop {K : PySem.W.Frag} {H : Hp} : ∀ {ds : List PyData} {vs : List V} (n : Nat), DqAll K H vs ds → DqAll K H (vs.drop n) (ds.drop n)
  | _, _, 0, h => h
  | [], _, _ + 1, h => by cases h; exact .nil
  | d :: ds, _, n + 1, h => by
    cases h with
    | cons h1 h2 => exact DqAll.drop n h2
theorem DqAll.take {K : PySem.W.Frag} {H : Hp} : ∀ {ds : List PyData} {vs : List V} (n : Nat), DqAll K H vs ds → DqAll K H (vs.take n) (ds.take n)
  | _, _, 0, h => .nil
  | [], _, _ + 1, h => by cases h; exact .nil
  | d :: ds, _, n + 1, h => by
    cases h with
    | cons h1 h2 => exact .cons h1 (DqAll.take n h2)
theorem DqAll.set {K : PySem.W.Frag} {H : Hp} {v : V} {d : PyData} (q : Dq K H v d) : ∀ {ds : List PyData} {vs : List V} (n : Nat), DqAll K H vs ds → DqAll K H (vs.set n v) (ds.set n d)
  | [], _, _, h => by cases h; exact .nil
  | _ :: ds, _, 0, h => by
    cases h with
    | cons h1 h2 => exact .cons q h2
  | _ :: ds, _, n + 1, h => by
    cases h with
    | cons h1 h2 => exact .cons h1 (DqAll.set q n h2)
abbrev DK (K : PySem.W.Frag) (H : Hp) : List (Key × V) → List (Key × PyData) → Prop := Paired fun p q => p.1 = q.1 ∧ Dq K H p.2 q.2
theorem DqAll.ints {K : PySem.W.Frag} {H : Hp} : ∀ ns : List Int, DqAll K H (ns.map V.int) (ns.map PyData.int)
  | [] => .nil
  | n :: ns => .cons (.int n) (DqAll.ints ns)
end L2
namespace DL
open PySem PySem.Spec PyProof.Rows L2
structure Ext (G H G' H' : Hp) : Prop where
  g : Same G G'
  h : Same H H'
  gh : Same G' H'
  cap : ∀ b, H b ≠ none → G b = none → G' b = none
theorem Ext.refl {G H : Hp} (gh : Same G H) : Ext G H G H := ⟨Same.refl _, Same.refl _, gh, fun _ _ h => h⟩
theorem Ext.trans {G H G1 H1 G2 H2 : Hp} (a : Ext G H G1 H1) (b : Ext G1 H1 G2 H2) : Ext G H G2 H2 :=
  ⟨a.g.trans b.g, a.h.trans b.h, b.gh, fun x h1 h2 => b.cap x (fun z => h1 (a.h.free z)) (a.cap x h1 h2)⟩
theorem dk_same {K : PySem.W.Frag} {H H' : Hp} (e : Same H H') : ∀ {vs : List (Key × V)} {kvs : List (Key × PyData)}, DK K H vs kvs → DK K H' vs kvs
  | _, _, .nil => .nil
  | _, _, .cons h t => .cons ⟨h.1, dp_same e _ _ h.2⟩ (dk_same e t)
theorem upd_same_of {H : Hp} {p : Addr} {o : HO} (h : H p = none) : Same H (upd H p o) := fun b x e => by
  rw [upd_ne (ne_of_none e h)]
  exact e
theorem Ext.new {G H : Hp} {p : Addr} {o : HO} (gh : Same G H) (hp : H p = none) : Ext G H (upd G p o) (upd H p o) := by
  refine ⟨upd_same_of (gh.free hp), upd_same_of hp, fun b x e => ?_, fun b h1 h2 => ?_⟩
  · by_cases hb : b = p
    · subst hb; rw [upd_same] at e ⊢; exact e
    · rw [upd_ne hb] at e ⊢; exact gh _ _ e
  · rw [upd_ne (fun z => h1 (by rw [z]; exact hp))]; exact h2
theorem Ext.newOwn {G H : Hp} {p : Addr} {o : HO} (gh : Same G H) (hp : H p = none) : Ext G H G (upd H p o) :=
  ⟨Same.refl _, upd_same_of hp, gh.trans (upd_same_of hp), fun _ _ h => h⟩
structure Bx where
  G : Hp
  H : Hp
def NdO (w : World) (a : Addr) (xs : List (NestedKey × Addr × Value)) : HO := .ext fun h => (a == sysModules) = false ∧ ∃ o es ep, h.get? a = some o ∧ o.ExactDict ∧ o.data = .dict es ep ∧ es.toList = xs.map fun x => (⟨x.1.hash w, .ref x.2.1, x.2.2⟩ : DictEntry)
structure NdE (K : PySem.W.Frag) (G : Hp) (x : NestedKey × Addr × Value) (p : NestedKey × Int) : Prop where
  key : x.1 = p.1
  dat : Dq K G (.ref x.2.1) x.1.data
  dep : x.1.depth ≤ 8
  int : ∃ t, x.2.2 = .int p.2 t
structure NDK (K : PySem.W.Frag) (G : Hp) (xs : List (NestedKey × Addr × Value)) (kvs : List (NestedKey × Int)) : Prop where
  all : Paired (NdE K G) xs kvs
  nd : (kvs.map (·.1)).Nodup
  len : kvs.length ≤ 1000000
theorem ndk_same {K : PySem.W.Frag} {G G' : Hp} (e : Same G G') {xs : List (NestedKey × Addr × Value)} {kvs : List (NestedKey × Int)} (h : NDK K G xs kvs) : NDK K G' xs kvs := by
  refine ⟨?_, h.nd, h.len⟩
  have q := h.all
  clear h
  induction q with
  | nil => exact .nil
  | cons h t ih => exact .cons ⟨h.key, dp_same e _ _ h.dat, h.dep, h.int⟩ ih
inductive EntOk (m : KM) (B : Bx) (G H : Hp) : Option (Option V) → Ent → Prop
  | un {o : Option (Option V)} : EntOk m B G H o .un
  | d {v : V} {x : PyData} : Dq m.K G v x → EntOk m B G H (some (some v)) (.d x)
  | own {a : Addr} {vs : List V} {xs : List PyData} : H a = some (.lst vs) → G a = none → B.H a = none → DqAll m.K G vs xs → EntOk m B G H (some (some (.ref a))) (.own xs)
  | dct {a : Addr} {vs : List (Key × V)} {kvs : List (Key × PyData)} : H a = some (.dK vs) → G a = none → B.H a = none → DK m.K G vs kvs → EntOk m B G H (some (some (.ref a))) (.dct kvs)
  | rdd {a : Addr} {vs : List (Key × V)} {kvs : List (Key × PyData)} : H a = some (.dK vs) → DK m.K G vs kvs → EntOk m B G H (some (some (.ref a))) (.rdd kvs)
  | ndc {a : Addr} {xs : List (NestedKey × Addr × Value)} {kvs : List (NestedKey × Int)} : H a = some (NdO m.w a xs) → G a = none → B.H a = none → NDK m.K G xs kvs → EntOk m B G H (some (some (.ref a))) (.ndc kvs)
def dE : Ent → Bool
  | .dct _ => true
  | .rdd _ => true
  | _ => false
def DisD (σ : L2.St) (ρ : Rho) : Prop := ∀ (i j : Nat) (a : Addr) (kvs : List (Key × PyData)) (f : Ent), ρ[i]? = some (.dct kvs) → ρ[j]? = some f → dE f = true → σ[i]? = some (some (.ref a)) → σ[j]? = some (some (.ref a)) → i = j
theorem DisD.set0 {σ σ' : L2.St} {ρ : Rho} {i : Nat} {e0 : Ent} (h : DisD σ ρ) (h0 : dE e0 = false) (hs : ∀ j, j ≠ i → σ'[j]? = σ[j]?) : DisD σ' (ρ.set i e0) := by
  have ne : ∀ (j : Nat) (f : Ent), (ρ.set i e0)[j]? = some f → dE f = true → j ≠ i := fun j f hj hf z => by
    subst z
    rw [List.getElem?_set] at hj
    split at hj
    · split at hj
      · cases hj; rw [h0] at hf; cases hf
      · cases hj
    · rename_i z; exact z rfl
  intro j k a kvs f hj hk hf s1 s2
  have n1 := ne j _ hj rfl
  have n2 := ne k f hk hf
  rw [List.getElem?_set_ne (fun z => n1 z.symm)] at hj
  rw [List.getElem?_set_ne (fun z => n2 z.symm)] at hk
  rw [hs j n1] at s1
  rw [hs k n2] at s2
  exact h j k a kvs f hj hk hf s1 s2
structure DEnv (m : KM) (B : Bx) (G H : Hp) (σ : L2.St) (ρ : Rho) : Prop where
  base : Ext B.G B.H G H
  len : ρ.length = σ.length
  ent : ∀ (i : Nat) (e : Ent), ρ[i]? = some e → EntOk m B G H σ[i]? e
  dis : ∀ (i j : Nat) (a : Addr) (xs ys : List PyData), ρ[i]? = some (.own xs) → ρ[j]? = some (.own ys) → σ[i]? = some (some (.ref a)) → σ[j]? = some (some (.ref a)) → i = j
  disD : DisD σ ρ
section
variable {m : KM} {B : Bx} {G H G' H' : Hp} {σ : L2.St} {ρ : Rho}
theorem EntOk.ext {o : Option (Option V)} {e : Ent} (q : EntOk m B G H o e) (x : Ext G H G' H') : EntOk m B G' H' o e := by
  cases q with
  | un => exact .un
  | d h => exact .d (dp_same x.g _ _ h)
  | own h1 h2 h3 h4 => exact .own (x.h _ _ h1) (x.cap _ (by rw [h1]; exact fun z => nomatch z) h2) h3 (dpAll_same x.g _ _ h4)
  | dct h1 h2 h3 h4 => exact .dct (x.h _ _ h1) (x.cap _ (by rw [h1]; exact fun z => nomatch z) h2) h3 (dk_same x.g h4)
  | rdd h1 h4 => exact .rdd (x.h _ _ h1) (dk_same x.g h4)
  | ndc h1 h2 h3 h4 => exact .ndc (x.h _ _ h1) (x.cap _ (by rw [h1]; exact fun z => nomatch z) h2) h3 (ndk_same x.g h4)
theorem DEnv.ext (E : DEnv m B G H σ ρ) (x : Ext G H G' H') : DEnv m B G' H' σ ρ :=
  ⟨E.base.trans x, E.len, fun i e h => (E.ent i e h).ext x, E.dis, E.disD⟩
theorem DEnv.freeze (E : DEnv m B G H σ ρ) {i : Nat} {xs : List PyData} (h : ρ[i]? = some (.own xs)) :
    ∃ a vs, σ[i]? = some (some (.ref a)) ∧ H a = some (.lst vs) ∧ G a = none ∧ DqAll m.K G vs xs ∧ Same G (upd G a (.lst vs)) ∧ Dq m.K (upd G a (.lst vs)) (.ref a) (.list xs) ∧ DEnv m B (upd G a (.lst vs)) H σ (ρ.set i (.d (.list xs))) := by
  have q := E.ent i _ h
  generalize hs : σ[i]? = o at q
  cases q with
  | own h1 h2 h3 h4 =>
    rename_i a vs
    have sg : Same G (upd G a (.lst vs)) := upd_same_of h2
    have dp : Dq m.K (upd G a (.lst vs)) (.ref a) (.list xs) := .lst (SqL.of upd_same) (dpAll_same sg _ _ h4)
    have hi : i < ρ.length := (List.getElem?_eq_some_iff.mp h).1
    refine ⟨a, vs, rfl, h1, h2, h4, sg, dp, ⟨⟨E.base.g.trans sg, E.base.h, fun b x e => ?_, fun b n1 n2 => ?_⟩, by simpa using E.len, fun j e hj => ?_, fun j k b ys zs hj hk s1 s2 => ?_, E.disD.set0 rfl fun _ _ => rfl⟩⟩
    · by_cases hb : b = a
      · subst hb; rw [upd_same] at e; cases e; exact h1
      · rw [upd_ne hb] at e; exact E.base.gh _ _ e
    · rw [upd_ne (fun z => n1 (by rw [z]; exact h3))]; exact E.base.cap b n1 n2
    · by_cases hji : j = i
      · subst hji
        rw [List.getElem?_set_self hi] at hj
        cases hj
        rw [hs]
        exact .d dp
      · rw [List.getElem?_set_ne (fun z => hji z.symm)] at hj
        have q := E.ent j e hj
        generalize hs2 : σ[j]? = o2 at q
        cases q with
        | un => exact .un
        | d z => exact .d (dp_same sg _ _ z)
        | own z1 z2 z3 z4 =>
          rename_i b us ys
          refine .own z1 ?_ z3 (dpAll_same sg _ _ z4)
          rw [upd_ne (fun (z : b = a) => hji (E.dis j i a ys xs hj h (by rw [hs2, z]) hs))]
          exact z2
        | dct z1 z2 z3 z4 =>
          rename_i b us ys
          refine .dct z1 ?_ z3 (dk_same sg z4)
          rw [upd_ne (fun (z : b = a) => by rw [z, h1] at z1; cases z1)]
          exact z2
        | rdd z1 z4 => exact .rdd z1 (dk_same sg z4)
        | ndc z1 z2 z3 z4 =>
          refine .ndc z1 ?_ z3 (ndk_same sg z4)
          rw [upd_ne (fun z => by rw [z, h1] at z1; cases z1)]
          exact z2
    · have hji : j ≠ i := fun z => by subst z; rw [List.getElem?_set_self hi] at hj; cases hj
      have hki : k ≠ i := fun z => by subst z; rw [List.getElem?_set_self hi] at hk; cases hk
      rw [List.getElem?_set_ne (fun z => hji z.symm)] at hj
      rw [List.getElem?_set_ne (fun z => hki z.symm)] at hk
      exact E.dis j k b ys zs hj hk s1 s2
theorem DEnv.put (E : DEnv m B G H σ ρ) {i : Nat} {v : V} {x : PyData} (hi : i < ρ.length) (dp : Dq m.K G v x) : DEnv m B G H (σ.set i (some v)) (ρ.set i (.d x)) := by
  have his : i < σ.length := by rw [← E.len]; exact hi
  refine ⟨E.base, by simpa using E.len, fun j e hj => ?_, fun j k b ys zs hj hk s1 s2 => ?_, E.disD.set0 rfl fun j hj => List.getElem?_set_ne fun z => hj z.symm⟩
  · by_cases hji : j = i
    · subst hji
      rw [List.getElem?_set_self hi] at hj
      cases hj
      rw [List.getElem?_set_self his]
      exact .d dp
    · rw [List.getElem?_set_ne (fun z => hji z.symm)] at hj ⊢
      exact E.ent j e hj
  · have hji : j ≠ i := fun z => by subst z; rw [List.getElem?_set_self hi] at hj; cases hj
    have hki : k ≠ i := fun z => by subst z; rw [List.getElem?_set_self hi] at hk; cases hk
    rw [List.getElem?_set_ne (fun z => hji z.symm)] at hj s1
    rw [List.getElem?_set_ne (fun z => hki z.symm)] at hk s2
    exact E.dis j k b ys zs hj hk s1 s2
theorem DEnv.putOwn (E : DEnv m B G H σ ρ) {i : Nat} {p : Addr} {vs : List V} {xs : List PyData} (hi : i < ρ.length) (hp : H p = none) (dp : DqAll m.K G vs xs) :
    DEnv m B G (upd H p (.lst vs)) (σ.set i (some (.ref p))) (ρ.set i (.own xs)) := by
  have his : i < σ.length := by rw [← E.len]; exact hi
  have x : Ext G H G (upd H p (.lst vs)) := Ext.newOwn E.base.gh hp
  refine ⟨E.base.trans x, by simpa using E.len, fun j e hj => ?_, fun j k b ys zs hj hk s1 s2 => ?_, E.disD.set0 rfl fun j hj => List.getElem?_set_ne fun z => hj z.symm⟩
  · by_cases hji : j = i
    · subst hji
      rw [List.getElem?_set_self hi] at hj
      cases hj
      rw [List.getElem?_set_self his]
      exact .own upd_same (E.base.gh.free hp) (E.base.h.free hp) dp
    · rw [List.getElem?_set_ne (fun z => hji z.symm)] at hj ⊢
      exact (E.ent j e hj).ext x
  · have ne : ∀ (j : Nat) (ys : List PyData), ρ[j]? = some (.own ys) → ∀ b : Addr, σ[j]? = some (some (.ref b)) → b ≠ p := fun j ys hj b hb z => by
      have q := E.ent j _ hj
      rw [hb] at q
      cases q with
      | own h1 _ _ _ => rw [z, hp] at h1; cases h1
    by_cases hji : j = i
    · subst hji
      by_cases hki : k = j
      · exact hki.symm
      · rw [List.getElem?_set_self his] at s1
        cases s1
        rw [List.getElem?_set_ne (fun z => hki z.symm)] at hk s2
        exact absurd rfl (ne k zs hk _ s2)
    · rw [List.getElem?_set_ne (fun z => hji z.symm)] at hj s1
      by_cases hki : k = i
      · subst hki
        rw [List.getElem?_set_self his] at s2
        cases s2
        exact absurd rfl (ne j ys hj _ s1)
      · rw [List.getElem?_set_ne (fun z => hki z.symm)] at hk s2
        exact E.dis j k b ys zs hj hk s1 s2
theorem DEnv.change (E : DEnv m B G H σ ρ) {i : Nat} {a : Addr} {vs : List V} {xs ys : List PyData} (h : ρ[i]? = some (.own xs)) (hs : σ[i]? = some (some (.ref a))) (dp : DqAll m.K G vs ys) :
    DEnv m B G (upd H a (.lst vs)) σ (ρ.set i (.own ys)) := by
  have q := E.ent i _ h
  rw [hs] at q
  have hi : i < ρ.length := (List.getElem?_eq_some_iff.mp h).1
  cases q with
  | own h1 h2 h3 h4 =>
    refine ⟨⟨E.base.g, fun b x e => ?_, fun b x e => ?_, E.base.cap⟩, by simpa using E.len, fun j e hj => ?_, fun j k b us zs hj hk s1 s2 => ?_, E.disD.set0 rfl fun _ _ => rfl⟩
    · rw [upd_ne (ne_of_none e h3)]; exact E.base.h _ _ e
    · rw [upd_ne (ne_of_none e h2)]; exact E.base.gh _ _ e
    · by_cases hji : j = i
      · subst hji
        rw [List.getElem?_set_self hi] at hj
        cases hj
        rw [hs]
        exact .own upd_same h2 h3 dp
      · rw [List.getElem?_set_ne (fun z => hji z.symm)] at hj
        have q := E.ent j e hj
        generalize hs2 : σ[j]? = o2 at q
        cases q with
        | un => exact .un
        | d z => exact .d z
        | own z1 z2 z3 z4 =>
          rename_i b us zs
          refine .own ?_ z2 z3 z4
          rw [upd_ne (fun (z : b = a) => hji (E.dis j i a zs xs hj h (by rw [hs2, z]) hs))]
          exact z1
        | dct z1 z2 z3 z4 =>
          refine .dct ?_ z2 z3 z4
          rw [upd_ne (ne_of z1 h1 fun z => nomatch z)]
          exact z1
        | rdd z1 z4 =>
          refine .rdd ?_ z4
          rw [upd_ne (ne_of z1 h1 fun z => nomatch z)]
          exact z1
        | ndc z1 z2 z3 z4 =>
          refine .ndc ?_ z2 z3 z4
          rw [upd_ne (ne_of z1 h1 fun z => nomatch z)]
          exact z1
    · have cv : ∀ (k : Nat) (zs : List PyData), (ρ.set i (.own ys))[k]? = some (.own zs) → ∃ zs', ρ[k]? = some (.own zs') := fun k zs hk => by
        by_cases hki : k = i
        · subst hki; exact ⟨xs, h⟩
        · rw [List.getElem?_set_ne (fun z => hki z.symm)] at hk; exact ⟨zs, hk⟩
      obtain ⟨_, h1'⟩ := cv j us hj
      obtain ⟨_, h2'⟩ := cv k zs hk
      exact E.dis j k b _ _ h1' h2' s1 s2
theorem DEnv.putDct (E : DEnv m B G H σ ρ) {i : Nat} {p : Addr} {vs : List (Key × V)} {kvs : List (Key × PyData)} (hi : i < ρ.length) (hp : H p = none) (dp : DK m.K G vs kvs) :
    DEnv m B G (upd H p (.dK vs)) (σ.set i (some (.ref p))) (ρ.set i (.dct kvs)) := by
  have his : i < σ.length := by rw [← E.len]; exact hi
  have x : Ext G H G (upd H p (.dK vs)) := Ext.newOwn E.base.gh hp
  have ne : ∀ (j : Nat) (f : Ent), ρ[j]? = some f → dE f = true → ∀ b : Addr, σ[j]? = some (some (.ref b)) → b ≠ p := fun j f hj hf b hb z => by
    have q := E.ent j _ hj
    rw [hb] at q
    cases q with
    | dct h1 _ _ _ => rw [z, hp] at h1; cases h1
    | rdd h1 _ => rw [z, hp] at h1; cases h1
    | _ => cases hf
  refine ⟨E.base.trans x, by simpa using E.len, fun j e hj => ?_, fun j k b ys zs hj hk s1 s2 => ?_, fun j k b ks f hj hk hf s1 s2 => ?_⟩
  · by_cases hji : j = i
    · subst hji
      rw [List.getElem?_set_self hi] at hj
      cases hj
      rw [List.getElem?_set_self his]
      exact .dct upd_same (E.base.gh.free hp) (E.base.h.free hp) dp
    · rw [List.getElem?_set_ne (fun z => hji z.symm)] at hj ⊢
      exact (E.ent j e hj).ext x
  · have hji : j ≠ i := fun z => by subst z; rw [List.getElem?_set_self hi] at hj; cases hj
    have hki : k ≠ i := fun z => by subst z; rw [List.getElem?_set_self hi] at hk; cases hk
    rw [List.getElem?_set_ne (fun z => hji z.symm)] at hj s1
    rw [List.getElem?_set_ne (fun z => hki z.symm)] at hk s2
    exact E.dis j k b ys zs hj hk s1 s2
  · by_cases hji : j = i
    · by_cases hki : k = i
      · rw [hji, hki]
      · rw [hji, List.getElem?_set_self his] at s1
        cases s1
        rw [List.getElem?_set_ne (fun z => hki z.symm)] at hk s2
        exact absurd rfl (ne k f hk hf _ s2)
    · rw [List.getElem?_set_ne (fun z => hji z.symm)] at hj s1
      by_cases hki : k = i
      · rw [hki, List.getElem?_set_self his] at s2
        cases s2
        exact absurd rfl (ne j _ hj rfl _ s1)
      · rw [List.getElem?_set_ne (fun z => hki z.symm)] at hk s2
        exact E.disD j k b ks f hj hk hf s1 s2
theorem DEnv.changeD (E : DEnv m B G H σ ρ) {i : Nat} {a : Addr} {vs : List (Key × V)} {xs ys : List (Key × PyData)} (h : ρ[i]? = some (.dct xs)) (hs : σ[i]? = some (some (.ref a))) (dp : DK m.K G vs ys) :
    DEnv m B G (upd H a (.dK vs)) σ (ρ.set i (.dct ys)) := by
  have q := E.ent i _ h
  rw [hs] at q
  have hi : i < ρ.length := (List.getElem?_eq_some_iff.mp h).1
  cases q with
  | dct h1 h2 h3 h4 =>
    have cv : ∀ (k : Nat) (f : Ent), (ρ.set i (.dct ys))[k]? = some f → dE f = true → ∃ f', ρ[k]? = some f' ∧ dE f' = true := fun k f hk hf => by
      by_cases hki : k = i
      · subst hki; exact ⟨_, h, rfl⟩
      · rw [List.getElem?_set_ne (fun z => hki z.symm)] at hk; exact ⟨f, hk, hf⟩
    refine ⟨⟨E.base.g, fun b x e => ?_, fun b x e => ?_, E.base.cap⟩, by simpa using E.len, fun j e hj => ?_, fun j k b us zs hj hk s1 s2 => ?_, fun j k b ks f hj hk hf s1 s2 => ?_⟩
    · rw [upd_ne (ne_of_none e h3)]; exact E.base.h _ _ e
    · rw [upd_ne (ne_of_none e h2)]; exact E.base.gh _ _ e
    · by_cases hji : j = i
      · subst hji
        rw [List.getElem?_set_self hi] at hj
        cases hj
        rw [hs]
        exact .dct upd_same h2 h3 dp
      · rw [List.getElem?_set_ne (fun z => hji z.symm)] at hj
        have q := E.ent j e hj
        generalize hs2 : σ[j]? = o2 at q
        cases q with
        | un => exact .un
        | d z => exact .d z
        | own z1 z2 z3 z4 =>
          refine .own ?_ z2 z3 z4
          rw [upd_ne (ne_of z1 h1 fun z => nomatch z)]
          exact z1
        | dct z1 z2 z3 z4 =>
          rename_i b us zs
          refine .dct ?_ z2 z3 z4
          rw [upd_ne (fun (z : b = a) => hji (E.disD i j a xs _ h hj rfl hs (by rw [hs2, z])).symm)]
          exact z1
        | rdd z1 z4 =>
          rename_i b us zs
          refine .rdd ?_ z4
          rw [upd_ne (fun (z : b = a) => hji (E.disD i j a xs _ h hj rfl hs (by rw [hs2, z])).symm)]
          exact z1
        | ndc z1 z2 z3 z4 =>
          refine .ndc ?_ z2 z3 z4
          rw [upd_ne (ne_of z1 h1 fun z => nomatch z)]
          exact z1
    · have hji : j ≠ i := fun z => by subst z; rw [List.getElem?_set_self hi] at hj; cases hj
      have hki : k ≠ i := fun z => by subst z; rw [List.getElem?_set_self hi] at hk; cases hk
      rw [List.getElem?_set_ne (fun z => hji z.symm)] at hj
      rw [List.getElem?_set_ne (fun z => hki z.symm)] at hk
      exact E.dis j k b us zs hj hk s1 s2
    · obtain ⟨f1, hk', hf'⟩ := cv k f hk hf
      by_cases hji : j = i
      · subst hji
        exact E.disD j k b xs f1 h hk' hf' s1 s2
      · rw [List.getElem?_set_ne (fun z => hji z.symm)] at hj
        exact E.disD j k b ks f1 hj hk' hf' s1 s2
theorem DEnv.drop (E : DEnv m B G H σ ρ) {i : Nat} {o : Option V} (hi : i < ρ.length) : DEnv m B G H (σ.set i o) (ρ.set i .un) := by
  have his : i < σ.length := by rw [← E.len]; exact hi
  refine ⟨E.base, by simpa using E.len, fun j e hj => ?_, fun j k b ys zs hj hk s1 s2 => ?_, E.disD.set0 rfl fun j hj => List.getElem?_set_ne fun z => hj z.symm⟩
  · by_cases hji : j = i
    · subst hji
      rw [List.getElem?_set_self hi] at hj
      cases hj
      exact .un
    · rw [List.getElem?_set_ne (fun z => hji z.symm)] at hj ⊢
      exact E.ent j e hj
  · have hji : j ≠ i := fun z => by subst z; rw [List.getElem?_set_self hi] at hj; cases hj
    have hki : k ≠ i := fun z => by subst z; rw [List.getElem?_set_self hi] at hk; cases hk
    rw [List.getElem?_set_ne (fun z => hji z.symm)] at hj s1
    rw [List.getElem?_set_ne (fun z => hki z.symm)] at hk s2
    exact E.dis j k b ys zs hj hk s1 s2
end
def ExOk (m : KM) (G' H' : Hp) (e : Exn) (cls : Value) (d : Option Addr) : Prop :=
  (∃ C, m.mg e.nm = some (.ref C) ∧ cls = .ref C) ∧ ((e.fs = [] ∧ d = none) ∨ ∃ a fs, d = some a ∧ H' a = some (.xd fs) ∧ G' a = none ∧ ∀ f x, e.fs.lookup f = some x → ∃ v, fs.lookup f = some v ∧ Dq m.K G' v x)
def Sat {α : Type} (m : KM) (B : Bx) (W : WX) (G0 : Hp) (σ : L2.St) : Res α → (α → Rho → Prop) → Prop
  | .ok a ρ, P => P a ρ
  | .ex e ρ, _ => ∀ cls dd G' H', DEnv m B G' H' σ ρ → Same G0 G' → ExOk m G' H' e cls dd → W cls dd σ H'
  | .bad, _ => False
theorem Sat.imp {α : Type} {m : KM} {B : Bx} {W : WX} {G0 : Hp} {σ : L2.St} {r : Res α} {P Q : α → Rho → Prop} (h : Sat m B W G0 σ r P) (i : ∀ a ρ, P a ρ → Q a ρ) : Sat m B W G0 σ r Q := by
  cases r with
  | ok a ρ => exact i _ _ h
  | ex e ρ => exact h
  | bad => exact h
theorem Sat.up {α : Type} {m : KM} {B : Bx} {W : WX} {G0 G1 : Hp} {σ : L2.St} {r : Res α} {P : α → Rho → Prop} (h : Sat m B W G0 σ r P) (g : Same G0 G1) : Sat m B W G1 σ r P := by
  cases r with
  | ok a ρ => exact h
  | ex e ρ => exact fun cls dd G H E s => h cls dd G H E (g.trans s)
  | bad => exact h
theorem Sat.bind {α β : Type} {m : KM} {B : Bx} {W : WX} {G0 : Hp} {σ : L2.St} {r : Res α} {f : α → Rho → Res β} {P : β → Rho → Prop} (h : Sat m B W G0 σ (r.bind f) P) : Sat m B W G0 σ r fun a ρ => Sat m B W G0 σ (f a ρ) P := by
  cases r with
  | ok a ρ => exact h
  | ex e ρ => exact h
  | bad => exact h
def tD (m : KM) (B : Bx) (W : WX) (F : Rho → Res PyData) : TE := fun σ H Q => ∃ G ρ, DEnv m B G H σ ρ ∧ Sat m B W G σ (F ρ) fun d ρ' => ∀ v G' H', DEnv m B G' H' σ ρ' → Same G G' → Dq m.K G' v d → Q v H'
def tDT (m : KM) (B : Bx) (W : WX) (F : Rho → Res Bool) : TT := fun σ H Q => ∃ G ρ, DEnv m B G H σ ρ ∧ Sat m B W G σ (F ρ) fun b ρ' => ∀ G' H', DEnv m B G' H' σ ρ' → Same G G' → Q b H'
def tDA (m : KM) (B : Bx) (W : WX) (F : Rho → Res (List PyData)) : TA := fun σ H Q => ∃ G ρ, DEnv m B G H σ ρ ∧ Sat m B W G σ (F ρ) fun ds ρ' => ∀ vs G' H', DEnv m B G' H' σ ρ' → Same G G' → DqAll m.K G' vs ds → Q vs H'
def SatS (m : KM) (B : Bx) (W : WX) (G0 : Hp) (D : Ends) : Out → Prop
  | .nx ρ => ∀ σ G H, DEnv m B G H σ ρ → Same G0 G → D.nx σ H
  | .rt d => ∀ v G H, Ext B.G B.H G H → Dq m.K G v d → D.rt v H
  | .bk ρ => ∀ σ G H, DEnv m B G H σ ρ → Same G0 G → D.bk σ H
  | .ct ρ => ∀ σ G H, DEnv m B G H σ ρ → Same G0 G → D.ct σ H
  | .ex e ρ => ∀ cls dd σ G H, DEnv m B G H σ ρ → Same G0 G → ExOk m G H e cls dd → W cls dd σ H
  | .bad => False
def tDS (m : KM) (B : Bx) (W : WX) (S : Rho → Out) : TS := fun D σ H => ∃ G ρ, DEnv m B G H σ ρ ∧ SatS m B W G D (S ρ)
theorem SatS.up {m : KM} {B : Bx} {W : WX} {G0 G1 : Hp} {D : Ends} {o : Out} (h : SatS m B W G0 D o) (g : Same G0 G1) : SatS m B W G1 D o := by
  cases o with
  | nx ρ => exact fun σ G H E s => h σ G H E (g.trans s)
  | rt d => exact h
  | bk ρ => exact fun σ G H E s => h σ G H E (g.trans s)
  | ct ρ => exact fun σ G H E s => h σ G H E (g.trans s)
  | ex e ρ => exact fun cls dd σ G H E s => h cls dd σ G H E (g.trans s)
  | bad => exact h
theorem _root_.L2.PE.of {X : L2.Cx} {e : Expr} {t t' : TE} (h : PE X e t) (i : ∀ σ H Q, t' σ H Q → t σ H Q) : PE X e t' := ⟨fun pins s σ H Q I q => h.run pins s σ H Q I (i _ _ _ q)⟩
theorem _root_.L2.PT.of {X : L2.Cx} {e : Expr} {t t' : TT} (h : PT X e t) (i : ∀ σ H Q, t' σ H Q → t σ H Q) : PT X e t' := ⟨fun pins s σ H Q I q => h.run pins s σ H Q I (i _ _ _ q)⟩
theorem _root_.L2.PA.of {X : L2.Cx} {e : List Expr} {t t' : TA} (h : PA X e t) (i : ∀ σ H Q, t' σ H Q → t σ H Q) : PA X e t' := ⟨fun pos pins s σ H Q I q => h.run pos pins s σ H Q I (i _ _ _ q)⟩
theorem _root_.L2.PS.of {X : L2.Cx} {e : Stmt} {t t' : TS} (h : PS X e t) (i : ∀ D σ H, t' D σ H → t D σ H) : PS X e t' := ⟨fun pins s σ H D I q => h.run pins s σ H D I (i _ _ _ q)⟩
theorem _root_.L2.PSs.of {X : L2.Cx} {e : List Stmt} {t t' : TS} (h : PSs X e t) (i : ∀ D σ H, t' D σ H → t D σ H) : PSs X e t' := ⟨fun pins s σ H D I q => h.run pins s σ H D I (i _ _ _ q)⟩
end DL
namespace DL
open PySem PySem.Spec PyProof.Rows L2
def optR {α : Type} : Option α → Rho → Res α
  | some a, ρ => .ok a ρ
  | none, _ => .bad
def varF (i : Nat) : Rho → Res PyData := fun ρ => match ρ[i]? with
  | some (.d x) => .ok x ρ
  | some (.own xs) => .ok (.list xs) (ρ.set i (.d (.list xs)))
  | _ => .bad
def cF (d : PyData) : Rho → Res PyData := fun ρ => .ok d ρ
def binF (g : PyData → PyData → Option PyData) (F1 F2 : Rho → Res PyData) : Rho → Res PyData := fun ρ => (F1 ρ).bind fun d ρ => (F2 ρ).bind fun e ρ => optR (g d e) ρ
def unF (g : PyData → Option PyData) (F : Rho → Res PyData) : Rho → Res PyData := fun ρ => (F ρ).bind fun d ρ => optR (g d) ρ
def isB : PyData → Option Bool
  | .bool b => some b
  | _ => none
def testF (F : Rho → Res PyData) : Rho → Res Bool := fun ρ => (F ρ).bind fun d ρ => optR (isB d) ρ
def andT (F1 F2 : Rho → Res Bool) : Rho → Res Bool := fun ρ => (F1 ρ).bind fun b ρ => if b = true then F2 ρ else .ok false ρ
def orT (F1 F2 : Rho → Res Bool) : Rho → Res Bool := fun ρ => (F1 ρ).bind fun b ρ => if b = true then .ok true ρ else F2 ρ
def notT (F : Rho → Res Bool) : Rho → Res Bool := fun ρ => (F ρ).bind fun b ρ => .ok (!b) ρ
def andV (F1 F2 : Rho → Res PyData) : Rho → Res PyData := fun ρ => (testF F1 ρ).bind fun b ρ => if b = true then F2 ρ else .ok (.bool false) ρ
def orV (F1 F2 : Rho → Res PyData) : Rho → Res PyData := fun ρ => (testF F1 ρ).bind fun b ρ => if b = true then .ok (.bool true) ρ else F2 ρ
def notV (F : Rho → Res PyData) : Rho → Res PyData := fun ρ => (testF F ρ).bind fun b ρ => .ok (.bool (!b)) ρ
def ifF {α : Type} (T : Rho → Res Bool) (F1 F2 : Rho → Res α) : Rho → Res α := fun ρ => (T ρ).bind fun b ρ => if b = true then F1 ρ else F2 ρ
def nilA : Rho → Res (List PyData) := fun ρ => .ok [] ρ
def consA (F : Rho → Res PyData) (A : Rho → Res (List PyData)) : Rho → Res (List PyData) := fun ρ => (F ρ).bind fun d ρ => (A ρ).bind fun ds ρ => .ok (d :: ds) ρ
def tupF (A : Rho → Res (List PyData)) : Rho → Res PyData := fun ρ => (A ρ).bind fun ds ρ => if ds.length ≤ sizeLine then .ok (.tuple ds) ρ else .bad
def lstF (A : Rho → Res (List PyData)) : Rho → Res PyData := fun ρ => (A ρ).bind fun ds ρ => if ds.length ≤ sizeLine then .ok (.list ds) ρ else .bad
def appF (f : List PyData → Option PyData) (A : Rho → Res (List PyData)) : Rho → Res PyData := fun ρ => (A ρ).bind fun ds ρ => optR (f ds) ρ
def callF (f : Fn) (A : Rho → Res (List PyData)) : Rho → Res PyData := fun ρ => (A ρ).bind fun ds ρ => match f ds with
  | .ok d => .ok d ρ
  | .ex e => .ex e ρ
  | .bad => .bad
def dAdd : PyData → PyData → Option PyData
  | .int i, .int j => some (.int (i + j))
  | .str x, .str y => if x.length + y.length ≤ sizeLine then some (.str (x ++ y)) else none
  | .tuple xs, .tuple ys => if xs.length + ys.length ≤ sizeLine then some (.tuple (xs ++ ys)) else none
  | .list xs, .list ys => if xs.length + ys.length ≤ sizeLine then some (.list (xs ++ ys)) else none
  | _, _ => none
def dSub : PyData → PyData → Option PyData
  | .int i, .int j => some (.int (i - j))
  | _, _ => none
noncomputable def iteC {α : Type} (c : Prop) (a b : α) : α := @ite α c (Classical.propDecidable c) a b
theorem iteC_pos {α : Type} {c : Prop} {a b : α} (h : c) : iteC c a b = a := by unfold iteC; exact if_pos h
theorem iteC_neg {α : Type} {c : Prop} {a b : α} (h : ¬ c) : iteC c a b = b := by unfold iteC; exact if_neg h
theorem of_iteC {α : Type} {c : Prop} {a z : α} (h : iteC c (some a) none = some z) : c ∧ a = z := by
  by_cases hc : c
  · rw [iteC_pos hc] at h; exact ⟨hc, Option.some.inj h⟩
  · rw [iteC_neg hc] at h; cases h
noncomputable def dMul : PyData → PyData → Option PyData
  | .int i, .int j => iteC (i.natAbs.log2 + j.natAbs.log2 < 1000000) (some (.int (i * j))) none
  | _, _ => none
noncomputable def dDiv : PyData → PyData → Option PyData
  | .int i, .int j => iteC (j ≠ 0 ∧ j.natAbs.log2 < 9000) (some (.int (i.fdiv j))) none
  | _, _ => none
def dMod : PyData → PyData → Option PyData
  | .int i, .int j => if j ≠ 0 then some (.int (i.fmod j)) else none
  | _, _ => none
noncomputable def dPow : PyData → PyData → Option PyData
  | .int i, .int j => iteC (0 ≤ j ∧ j ≤ 1000000 ∧ i.natAbs < 2 ^ 64) (some (.int (i ^ j.toNat))) none
  | _, _ => none
def dNeg : PyData → Option PyData
  | .int i => some (.int (-i))
  | _ => none
def dLt : PyData → PyData → Option PyData
  | .int i, .int j => some (.bool (decide (i < j)))
  | .str i, .str j => some (.bool (decide (i.cps.toList < j.cps.toList)))
  | _, _ => none
def dLe : PyData → PyData → Option PyData
  | .int i, .int j => some (.bool (decide (i ≤ j)))
  | _, _ => none
def dGt : PyData → PyData → Option PyData
  | .int i, .int j => some (.bool (decide (j < i)))
  | _, _ => none
def dGe : PyData → PyData → Option PyData
  | .int i, .int j => some (.bool (decide (j ≤ i)))
  | _, _ => none
def dEq (d e : PyData) : Option PyData := if SeqAt.shaped d = true ∧ SeqAt.shaped e = true then some (.bool (PyData.eqv d e)) else none
def dNe (d e : PyData) : Option PyData := if SeqAt.shaped d = true ∧ SeqAt.shaped e = true then some (.bool (!PyData.eqv d e)) else none
def isNone : PyData → Bool
  | .none => true
  | _ => false
def dIsN (d : PyData) : Option PyData := some (.bool (isNone d))
def dNotN (d : PyData) : Option PyData := some (.bool (!isNone d))
def dIx : PyData → PyData → Option PyData
  | .list xs, .int i => atI xs i
  | .tuple xs, .int i => atI xs i
  | .str z, .int i => if z.length ≤ sizeLine then (atI z.cps.toList i).map fun c => .str ⟨#[c]⟩ else none
  | _, _ => none
def dRev : PyData → Option PyData
  | .list xs => some (.list xs.reverse)
  | _ => none
section
variable {X : L2.Cx} {B : Bx} {W : WX}
def RD (K : PySem.W.Frag) (r : R2) (g : PyData → PyData → Option PyData) : Prop :=
  ∀ (G H : Hp) (x y : V) (d e z : PyData) (Q : VK), Same G H → Dq K G x d → Dq K G y e → g d e = some z → (∀ v G' H', Ext G H G' H' → Dq K G' v z → Q v H') → r x y H Q
def RD1 (K : PySem.W.Frag) (r : V → Hp → VK → Prop) (g : PyData → Option PyData) : Prop :=
  ∀ (G H : Hp) (x : V) (d z : PyData) (Q : VK), Same G H → Dq K G x d → g d = some z → (∀ v G' H', Ext G H G' H' → Dq K G' v z → Q v H') → r x H Q
def RDs (K : PySem.W.Frag) (r : List V → Hp → VK → Prop) (g : List PyData → Option PyData) : Prop :=
  ∀ (G H : Hp) (xs : List V) (ds : List PyData) (z : PyData) (Q : VK), Same G H → DqAll K G xs ds → g ds = some z → (∀ v G' H', Ext G H G' H' → Dq K G' v z → Q v H') → r xs H Q
theorem sat_opt {α : Type} {m : KM} {G0 : Hp} {σ : L2.St} {o : Option α} {ρ : Rho} {P : α → Rho → Prop} (h : Sat m B W G0 σ (optR o ρ) P) : ∃ a, o = some a ∧ P a ρ := by
  cases o with
  | none => exact h.elim
  | some a => exact ⟨a, rfl, h⟩
theorem t_bin {r : R2} {g : PyData → PyData → Option PyData} (hr : RD X.K r g) {F1 F2 : Rho → Res PyData} : ∀ σ H Q, tD (km X) B W (binF g F1 F2) σ H Q → tOp r (tD (km X) B W F1) (tD (km X) B W F2) σ H Q := by
  rintro σ H Q ⟨G, ρ, E, S⟩
  refine ⟨G, ρ, E, (Sat.bind S).imp fun d ρ1 s1 v G1 H1 E1 g1 dp1 => ⟨G1, ρ1, E1, ((Sat.bind s1).up g1).imp fun e ρ2 s2 u G2 H2 E2 g2 dp2 => ?_⟩⟩
  obtain ⟨z, hz, q⟩ := sat_opt s2
  exact hr G2 H2 v u d e z Q E2.base.gh (dp_same g2 _ _ dp1) dp2 hz fun x G3 H3 ext dp3 => q x G3 H3 (E2.ext ext) (g1.trans (g2.trans ext.g)) dp3
theorem t_un {r : V → Hp → VK → Prop} {g : PyData → Option PyData} (hr : RD1 X.K r g) {F : Rho → Res PyData} : ∀ σ H Q, tD (km X) B W (unF g F) σ H Q → tUn r (tD (km X) B W F) σ H Q := by
  rintro σ H Q ⟨G, ρ, E, S⟩
  refine ⟨G, ρ, E, (Sat.bind S).imp fun d ρ1 s1 v G1 H1 E1 g1 dp1 => ?_⟩
  obtain ⟨z, hz, q⟩ := sat_opt s1
  exact hr G1 H1 v d z Q E1.base.gh dp1 hz fun x G3 H3 ext dp3 => q x G3 H3 (E1.ext ext) (g1.trans ext.g) dp3
theorem t_app {r : List V → Hp → VK → Prop} {g : List PyData → Option PyData} (hr : RDs X.K r g) {A : Rho → Res (List PyData)} : ∀ σ H Q, tD (km X) B W (appF g A) σ H Q → tCB r (tDA (km X) B W A) σ H Q := by
  rintro σ H Q ⟨G, ρ, E, S⟩
  refine ⟨G, ρ, E, (Sat.bind S).imp fun ds ρ1 s1 vs G1 H1 E1 g1 dp1 => ?_⟩
  obtain ⟨z, hz, q⟩ := sat_opt s1
  exact hr G1 H1 vs ds z Q E1.base.gh dp1 hz fun x G3 H3 ext dp3 => q x G3 H3 (E1.ext ext) (g1.trans ext.g) dp3
theorem t_test {F : Rho → Res PyData} : ∀ σ H Q, tDT (km X) B W (testF F) σ H Q → tD (km X) B W F σ H fun x H' => ∃ k, x = .bl k ∧ Q k H' := by
  rintro σ H Q ⟨G, ρ, E, S⟩
  refine ⟨G, ρ, E, (Sat.bind S).imp fun d ρ1 s1 v G1 H1 E1 g1 dp1 => ?_⟩
  obtain ⟨b, hb, q⟩ := sat_opt s1
  cases d <;> first | (cases hb; done) | skip
  cases hb
  cases dp1
  exact ⟨_, rfl, q _ _ E1 g1⟩
variable {a b : Expr} {pos : Pos} {F1 F2 : Rho → Res PyData}
theorem pd_var (i : Nat) {x : Str} {pos : Pos} (hN : X.N[i]? = some x := by rfl) (hv : Vis X.env.scope x := by first | exact Or.inl rfl | exact Or.inr (Or.inl rfl) | exact Or.inr (Or.inr rfl)) (hd : (x == ("__debug__" : Str)) = false := by decide)
    (hcd : (x == ("__classdict__" : Str)) = false := by decide) : PE X (.Name x pos) (tD (km X) B W (varF i)) := by
  refine (pe_var hN hv hd hcd).of ?_
  rintro σ H Q ⟨G, ρ, E, S⟩
  unfold varF at S
  cases e : ρ[i]? with
  | none => rw [e] at S; exact S.elim
  | some z =>
    rw [e] at S
    cases z with
    | un => exact S.elim
    | d x =>
      have q := E.ent i _ e
      generalize hs : σ[i]? = o at q
      cases q with
      | d dp => exact ⟨_, hs, S _ G H E (Same.refl _) dp⟩
    | dct _ => exact S.elim
    | rdd _ => exact S.elim
    | ndc _ => exact S.elim
    | own xs =>
      obtain ⟨p, vs, h1, h2, h3, h4, h5, h6, h7⟩ := E.freeze e
      exact ⟨_, h1, S _ _ H h7 h5 h6⟩
theorem t_c {v : V} {d : PyData} (h : ∀ G : Hp, Dq X.K G v d) : ∀ σ H Q, tD (km X) B W (cF d) σ H Q → tC v σ H Q := by
  rintro σ H Q ⟨G, ρ, E, S⟩
  exact S v G H E (Same.refl _) (h G)
theorem pd_int {i j pos} : PE X (.Constant (.int i) j pos) (tD (km X) B W (cF (.int i))) := pe_int.of (t_c fun _ => .int i)
theorem pd_bl {b j pos} : PE X (.Constant (.bool b) j pos) (tD (km X) B W (cF (.bool b))) := pe_bl.of (t_c fun _ => .bl b)
theorem pd_str {x j pos} : PE X (.Constant (.str x) j pos) (tD (km X) B W (cF (.str x))) := pe_str.of (t_c fun _ => .str x)
theorem pd_op {op : Operator} {r : R2} {g : PyData → PyData → Option PyData} (ho : OpR X (binaryOp op) r) (hr : RD X.K r g) (ha : PE X a (tD (km X) B W F1)) (hb : PE X b (tD (km X) B W F2)) : PE X (.BinOp a op b pos) (tD (km X) B W (binF g F1 F2)) :=
  (pe_op ho ha hb).of (t_bin hr)
theorem of_if {α : Type} {c : Prop} [Decidable c] {a z : α} (h : (if c then some a else none) = some z) : c ∧ a = z := by
  by_cases hc : c
  · rw [if_pos hc] at h; exact ⟨hc, Option.some.inj h⟩
  · rw [if_neg hc] at h; cases h
def rCatS (K : PySem.W.Frag) : R2 := fun x y H Q => ∃ l b xs zs, x = .ref l ∧ y = .ref b ∧ SqL K H l xs ∧ SqL K H b zs ∧ xs.length + zs.length ≤ sizeLine ∧ ∀ p, H p = none → Q (.ref p) (upd H p (.lst (xs ++ zs)))
theorem op_catS : OpR X (binaryOp .Add) (rCatS X.K) := by
  intro pins s σ H x y v u Q I rx ry h
  obtain ⟨l, b, xs, zs, rfl, rfl, hH, hB, hz, q⟩ := h
  cases rx
  cases ry
  obtain ⟨its, r, ⟨⟨cls, dd, data, sl⟩, n, ho, hc, hd, hs⟩, z1⟩ := I.list hH
  obtain ⟨its2, r2, ⟨⟨cls2, dd2, data2, sl2⟩, n2, ho2, hc2, hd2, hs2⟩, z2⟩ := I.list hB
  simp only at hc hd hs hc2 hd2 hs2
  subst hc hd hs hc2 hd2 hs2
  have l1 := r.length
  have l2 := r2.length
  refine concat_meets ⟨_, ho, rfl⟩ ⟨_, ho2, rfl⟩ noFill_list_add seq_list_add PySem.F.slot_list_add PySem.F.entry_list_add (PySem.F.args_list_add_2 _ _) (list_addW l b its.toArray its2.toArray n n2 none none sl sl2 (by simp only [List.size_toArray]; omega)) ⟨ho, ho2, ?_⟩
  have ea : its.toArray ++ its2.toArray = (its ++ its2).toArray := by simp
  rw [ea]
  exact ⟨.ref _, _, I.lnew (t' := s.toks) (r.append r2) (by rw [List.length_append]; omega), rfl, q _ I.fresh⟩
def rCatN (K : PySem.W.Frag) : R2 := fun x y H Q => ∃ a b xs ys, x = .ref a ∧ y = .ref b ∧ SqT K H a xs ∧ SqT K H b ys ∧ xs.length + ys.length ≤ sizeLine ∧
  (xs = [] → Q (.ref b) H) ∧ (xs ≠ [] → ys = [] → Q (.ref a) H) ∧ (xs ≠ [] → ys ≠ [] → ∀ (p : Addr) (o : Obj), H p = none → o.dict = none → Q (.ref p) (upd H p (.frz o (.tup (xs ++ ys)))))
theorem op_catN : OpR X (binaryOp .Add) (rCatN X.K) := by
  intro pins s σ H x y v u Q I rx ry h
  obtain ⟨a, b, xs, ys, rfl, rfl, ha, hb, hz, q0, q1, q2⟩ := h
  by_cases hx : xs = []
  · exact op_catA pins s σ H _ _ v u Q I rx ry ⟨a, b, xs, ys, rfl, rfl, ha, hb, hz, q0, q1, fun z => absurd hx z⟩
  · by_cases hy : ys = []
    · exact op_catA pins s σ H _ _ v u Q I rx ry ⟨a, b, xs, ys, rfl, rfl, ha, hb, hz, q0, q1, fun _ z => absurd hy z⟩
    · cases rx
      cases ry
      obtain ⟨its, r1, p1, _⟩ := I.tuple ha
      obtain ⟨its2, r2, p2, _⟩ := I.tuple hb
      refine HT.cat_tup p1 p2 (fun z => hx (r1.nil_iff.mp z)) (fun z => absurd (r2.nil_iff.mp z) hy) (fun z => ?_) (by rw [← r1.length, ← r2.length]; exact hz)
      exact ⟨.ref s.heap.objs.size, _, I.laid (t' := s.toks) (o := .frz _ (.tup (xs ++ ys))) (fun b ob q => Heap.get?_push_of_some _ q) (Nat.le_refl _) ⟨Heap.get?_push_size _ rfl, by rw [List.length_append]; exact hz, _, r1.append r2, IsTup.new _ _⟩, rfl, q2 hx hy _ _ (I.hok.fresh (Nat.le_refl _)) rfl⟩
theorem pd_add (ha : PE X a (tD (km X) B W F1)) (hb : PE X b (tD (km X) B W F2)) : PE X (.BinOp a .Add b pos) (tD (km X) B W (binF dAdd F1 F2)) := by
  refine pd_op (op_add.or (op_add_str.or (op_catN.or op_catS))) ?_ ha hb
  intro G H x y d e z Q gh hx hy hz q
  cases d <;> cases e <;> first | (cases hz; done) | skip
  · cases hx; cases hy; cases hz
    exact .inl ⟨_, _, rfl, rfl, q _ _ _ (Ext.refl gh) (.int _)⟩
  · cases hx; cases hy
    obtain ⟨hl, rfl⟩ := of_if hz
    exact .inr (.inl ⟨_, _, rfl, rfl, hl, q _ _ _ (Ext.refl gh) (.str _)⟩)
  · rename_i xs ys
    obtain ⟨hl, rfl⟩ := of_if hz
    cases hx with
    | lst h1 h2 =>
      cases hy with
      | lst h3 h4 =>
        have l1 := h2.len
        have l2 := h4.len
        exact .inr (.inr (.inr ⟨_, _, _, _, rfl, rfl, gh.seq h1, gh.seq h3, by omega, fun p hp => q _ _ _ (Ext.new gh hp) (.lst (SqL.of upd_same) (dpAll_same (Ext.new gh hp).g _ _ (h2.append h4)))⟩))
  · rename_i xs ys
    obtain ⟨hl, rfl⟩ := of_if hz
    cases hx with
    | tup h1 h2 =>
      cases hy with
      | tup h3 h4 =>
        have l1 := h2.len
        have l2 := h4.len
        refine .inr (.inr (.inl ⟨_, _, _, _, rfl, rfl, seqT_same gh h1, seqT_same gh h3, by omega, fun e => ?_, fun _ e => ?_, fun _ _ p o hp ho => ?_⟩))
        · subst e
          cases h2
          exact q _ _ _ (Ext.refl gh) (.tup h3 h4)
        · subst e
          cases h4
          rw [List.append_nil] at q
          exact q _ _ _ (Ext.refl gh) (.tup h1 h2)
        · exact q _ _ _ (Ext.new gh hp) (.tup (SqN.of ho upd_same) (dpAll_same (Ext.new gh hp).g _ _ (h2.append h4)))
theorem pd_sub (ha : PE X a (tD (km X) B W F1)) (hb : PE X b (tD (km X) B W F2)) : PE X (.BinOp a .Sub b pos) (tD (km X) B W (binF dSub F1 F2)) := by
  refine pd_op op_sub ?_ ha hb
  intro G H x y d e z Q gh hx hy hz q
  cases d <;> cases e <;> first | (cases hz; done) | skip
  cases hx; cases hy; cases hz
  exact ⟨_, _, rfl, rfl, q _ _ _ (Ext.refl gh) (.int _)⟩
theorem pd_mul (ha : PE X a (tD (km X) B W F1)) (hb : PE X b (tD (km X) B W F2)) : PE X (.BinOp a .Mult b pos) (tD (km X) B W (binF dMul F1 F2)) := by
  refine pd_op op_mulW ?_ ha hb
  intro G H x y d e z Q gh hx hy hz q
  cases d <;> cases e <;> first | (cases hz; done) | skip
  cases hx; cases hy
  obtain ⟨hl, rfl⟩ := of_iteC hz
  exact ⟨_, _, rfl, rfl, hl, q _ _ _ (Ext.refl gh) (.int _)⟩
def CDivD (_ j : Int) : Prop := j ≠ 0 ∧ j.natAbs.log2 < 9000
theorem op_fdivD : OpR X (binaryOp .FloorDiv) (rI CDivD fun i j => .int (i.fdiv j)) := opI fun i j _ _ _ _ _ hc q => floordiv_int hc.1 q (.inl (PyProof.noPylong_of_log2 hc.2))
theorem pd_div (ha : PE X a (tD (km X) B W F1)) (hb : PE X b (tD (km X) B W F2)) : PE X (.BinOp a .FloorDiv b pos) (tD (km X) B W (binF dDiv F1 F2)) := by
  refine pd_op op_fdivD ?_ ha hb
  intro G H x y d e z Q gh hx hy hz q
  cases d <;> cases e <;> first | (cases hz; done) | skip
  cases hx; cases hy
  obtain ⟨hl, rfl⟩ := of_iteC hz
  exact ⟨_, _, rfl, rfl, hl, q _ _ _ (Ext.refl gh) (.int _)⟩
theorem pd_mod (ha : PE X a (tD (km X) B W F1)) (hb : PE X b (tD (km X) B W F2)) : PE X (.BinOp a .Mod b pos) (tD (km X) B W (binF dMod F1 F2)) := by
  refine pd_op op_modN ?_ ha hb
  intro G H x y d e z Q gh hx hy hz q
  cases d <;> cases e <;> first | (cases hz; done) | skip
  cases hx; cases hy
  obtain ⟨hl, rfl⟩ := of_if hz
  exact ⟨_, _, rfl, rfl, hl, q _ _ _ (Ext.refl gh) (.int _)⟩
theorem pd_pow (ha : PE X a (tD (km X) B W F1)) (hb : PE X b (tD (km X) B W F2)) : PE X (.BinOp a .Pow b pos) (tD (km X) B W (binF dPow F1 F2)) := by
  refine pd_op op_pow ?_ ha hb
  intro G H x y d e z Q gh hx hy hz q
  cases d <;> cases e <;> first | (cases hz; done) | skip
  cases hx; cases hy
  obtain ⟨hl, rfl⟩ := of_iteC hz
  exact ⟨_, _, rfl, rfl, hl, q _ _ _ (Ext.refl gh) (.int _)⟩
theorem pd_neg (ha : PE X a (tD (km X) B W F1)) : PE X (.UnaryOp .USub a pos) (tD (km X) B W (unF dNeg F1)) := by
  refine (pe_un un_neg ha).of (t_un ?_)
  intro G H x d z Q gh hx hz q
  cases d <;> first | (cases hz; done) | skip
  cases hx; cases hz
  exact ⟨_, rfl, q _ _ _ (Ext.refl gh) (.int _)⟩
theorem pd_cmp {op : CmpOp} {r : R2} {g : PyData → PyData → Option PyData} (ho : OpR X (compareOp op) r) (hr : RD X.K r g) (hm : behindInMarks op b = false) (ha : PE X a (tD (km X) B W F1)) (hb : PE X b (tD (km X) B W F2)) : PE X (.Compare a [op] [b] pos) (tD (km X) B W (binF g F1 F2)) :=
  (pe_cmpR ho ha hb hm).of (t_bin hr)
theorem pt_cmp' {op : CmpOp} {r : R2} {g : PyData → PyData → Option PyData} (ho : OpR X (compareOp op) r) (hr : RD X.K r g) (hm : behindInMarks op b = false) (ha : PE X a (tD (km X) B W F1)) (hb : PE X b (tD (km X) B W F2)) : PT X (.Compare a [op] [b] pos) (tDT (km X) B W (testF (binF g F1 F2))) :=
  (pt_cmpR ho ha hb hm).of fun σ H Q h => t_bin hr σ H _ (t_test σ H Q h)
theorem rd_lt : RD X.K (fun x y H Q => rI0 (fun i j => .bl (decide (i < j))) x y H Q ∨ ∃ i j, x = .str i ∧ y = .str j ∧ Q (.bl (decide (i.cps.toList < j.cps.toList))) H) dLt := by
  intro G H x y d e z Q gh hx hy hz q
  cases d <;> cases e <;> first | (cases hz; done) | skip
  · cases hx; cases hy; cases hz
    exact .inl ⟨_, _, rfl, rfl, q _ _ _ (Ext.refl gh) (.bl _)⟩
  · cases hx; cases hy; cases hz
    exact .inr ⟨_, _, rfl, rfl, q _ _ _ (Ext.refl gh) (.bl _)⟩
theorem rd_le : RD X.K (rI0 fun i j => .bl (decide (i ≤ j))) dLe := by
  intro G H x y d e z Q gh hx hy hz q
  cases d <;> cases e <;> first | (cases hz; done) | skip
  cases hx; cases hy; cases hz
  exact ⟨_, _, rfl, rfl, q _ _ _ (Ext.refl gh) (.bl _)⟩
theorem rd_gt : RD X.K (rI0 fun i j => .bl (decide (j < i))) dGt := by
  intro G H x y d e z Q gh hx hy hz q
  cases d <;> cases e <;> first | (cases hz; done) | skip
  cases hx; cases hy; cases hz
  exact ⟨_, _, rfl, rfl, q _ _ _ (Ext.refl gh) (.bl _)⟩
theorem rd_ge : RD X.K (rI0 fun i j => .bl (decide (j ≤ i))) dGe := by
  intro G H x y d e z Q gh hx hy hz q
  cases d <;> cases e <;> first | (cases hz; done) | skip
  cases hx; cases hy; cases hz
  exact ⟨_, _, rfl, rfl, q _ _ _ (Ext.refl gh) (.bl _)⟩
theorem rd_eq : RD X.K (rEqD X.K) dEq := by
  intro G H x y d e z Q gh hx hy hz q
  obtain ⟨⟨h1, h2⟩, rfl⟩ := of_if hz
  exact ⟨d, e, (dp_same gh _ _ hx).p, (dp_same gh _ _ hy).p, h1, h2, q _ _ _ (Ext.refl gh) (.bl _)⟩
theorem rd_ne : RD X.K (rNeD X.K) dNe := by
  intro G H x y d e z Q gh hx hy hz q
  obtain ⟨⟨h1, h2⟩, rfl⟩ := of_if hz
  exact ⟨d, e, (dp_same gh _ _ hx).p, (dp_same gh _ _ hy).p, h1, h2, q _ _ _ (Ext.refl gh) (.bl _)⟩
def dIsN2 (d e : PyData) : Option PyData := match e with
  | .none => dIsN d
  | _ => none
def dNotN2 (d e : PyData) : Option PyData := match e with
  | .none => dNotN d
  | _ => none
variable {T1 T2 : Rho → Res Bool} {rest : List Expr}
theorem t_and : ∀ σ H Q, tDT (km X) B W (andT T1 T2) σ H Q → tAnd (tDT (km X) B W T1) (tDT (km X) B W T2) σ H Q := by
  rintro σ H Q ⟨G, ρ, E, S⟩
  refine ⟨G, ρ, E, (Sat.bind S).imp fun c ρ1 s1 G1 H1 E1 g1 => ?_⟩
  cases c with
  | true =>
    rw [if_pos rfl] at s1 ⊢
    exact ⟨G1, ρ1, E1, (s1.up g1).imp fun c2 ρ2 s2 G2 H2 E2 g2 => s2 G2 H2 E2 (g1.trans g2)⟩
  | false =>
    rw [if_neg (by decide)] at s1 ⊢
    exact s1 G1 H1 E1 g1
theorem t_or : ∀ σ H Q, tDT (km X) B W (orT T1 T2) σ H Q → tOr (tDT (km X) B W T1) (tDT (km X) B W T2) σ H Q := by
  rintro σ H Q ⟨G, ρ, E, S⟩
  refine ⟨G, ρ, E, (Sat.bind S).imp fun c ρ1 s1 G1 H1 E1 g1 => ?_⟩
  cases c with
  | true =>
    rw [if_pos rfl] at s1 ⊢
    exact s1 G1 H1 E1 g1
  | false =>
    rw [if_neg (by decide)] at s1 ⊢
    exact ⟨G1, ρ1, E1, (s1.up g1).imp fun c2 ρ2 s2 G2 H2 E2 g2 => s2 G2 H2 E2 (g1.trans g2)⟩
theorem pw_andD (ha : PT X a (tDT (km X) B W T1)) (hb : PW X (.BoolOp .And (b :: rest) pos) (tDT (km X) B W T2)) : PW X (.BoolOp .And (a :: b :: rest) pos) (tDT (km X) B W (andT T1 T2)) :=
  ⟨fun wh pins s σ H Q I h => (pw_and ha hb).run wh pins s σ H Q I (t_and σ H Q h)⟩
theorem pw_orD (ha : PT X a (tDT (km X) B W T1)) (hb : PW X (.BoolOp .Or (b :: rest) pos) (tDT (km X) B W T2)) : PW X (.BoolOp .Or (a :: b :: rest) pos) (tDT (km X) B W (orT T1 T2)) :=
  ⟨fun wh pins s σ H Q I h => (pw_or ha hb).run wh pins s σ H Q I (t_or σ H Q h)⟩
theorem pt_notD (ha : PT X a (tDT (km X) B W T1)) : PT X (.UnaryOp .Not a pos) (tDT (km X) B W (notT T1)) := by
  refine (pt_not ha).of ?_
  rintro σ H Q ⟨G, ρ, E, S⟩
  exact ⟨G, ρ, E, (Sat.bind S).imp fun c ρ1 s1 G1 H1 E1 g1 => s1 G1 H1 E1 g1⟩
theorem t_boolv {F : Rho → Res PyData} {R : Bool → Rho → Prop} {G0 : Hp} {σ : L2.St} {ρ : Rho} (S : Sat (km X) B W G0 σ (testF F ρ) R) : Sat (km X) B W G0 σ (F ρ) fun d ρ1 => ∃ b, d = .bool b ∧ R b ρ1 := (Sat.bind S).imp fun d ρ1 s1 => by
  obtain ⟨b, hb, q⟩ := sat_opt s1
  cases d <;> first | (cases hb; done) | skip
  cases hb
  exact ⟨_, rfl, q⟩
theorem pd_and (ha : PE X a (tD (km X) B W F1)) (hb : PE X (.BoolOp .And (b :: rest) pos) (tD (km X) B W F2)) : PE X (.BoolOp .And (a :: b :: rest) pos) (tD (km X) B W (andV F1 F2)) := by
  refine (pe_and ha hb).of ?_
  rintro σ H Q ⟨G, ρ, E, S⟩
  refine ⟨G, ρ, E, (t_boolv (Sat.bind S)).imp fun d ρ1 s1 v G1 H1 E1 g1 dp1 => ?_⟩
  obtain ⟨c, rfl, s1⟩ := s1
  cases dp1
  refine ⟨c, rfl, ?_⟩
  cases c with
  | true =>
    rw [if_pos rfl] at s1 ⊢
    exact ⟨G1, ρ1, E1, (s1.up g1).imp fun c2 ρ2 s2 v G2 H2 E2 g2 => s2 v G2 H2 E2 (g1.trans g2)⟩
  | false =>
    rw [if_neg (by decide)] at s1 ⊢
    exact s1 _ G1 H1 E1 g1 (.bl _)
theorem pd_or (ha : PE X a (tD (km X) B W F1)) (hb : PE X (.BoolOp .Or (b :: rest) pos) (tD (km X) B W F2)) : PE X (.BoolOp .Or (a :: b :: rest) pos) (tD (km X) B W (orV F1 F2)) := by
  refine (pe_or ha hb).of ?_
  rintro σ H Q ⟨G, ρ, E, S⟩
  refine ⟨G, ρ, E, (t_boolv (Sat.bind S)).imp fun d ρ1 s1 v G1 H1 E1 g1 dp1 => ?_⟩
  obtain ⟨c, rfl, s1⟩ := s1
  cases dp1
  refine ⟨c, rfl, ?_⟩
  cases c with
  | true =>
    rw [if_pos rfl] at s1 ⊢
    exact s1 _ G1 H1 E1 g1 (.bl _)
  | false =>
    rw [if_neg (by decide)] at s1 ⊢
    exact ⟨G1, ρ1, E1, (s1.up g1).imp fun c2 ρ2 s2 v G2 H2 E2 g2 => s2 v G2 H2 E2 (g1.trans g2)⟩
theorem pd_not (ha : PE X a (tD (km X) B W F1)) : PE X (.UnaryOp .Not a pos) (tD (km X) B W (notV F1)) := by
  refine (pe_not ha).of ?_
  rintro σ H Q ⟨G, ρ, E, S⟩
  refine ⟨G, ρ, E, (t_boolv (Sat.bind S)).imp fun d ρ1 s1 v G1 H1 E1 g1 dp1 => ?_⟩
  obtain ⟨c, rfl, s1⟩ := s1
  cases dp1
  exact ⟨c, rfl, s1 _ G1 H1 E1 g1 (.bl _)⟩
variable {e : Expr} {es : List Expr} {A : Rho → Res (List PyData)}
theorem pda_nil : PA X [] (tDA (km X) B W nilA) := by
  refine pa_nil.of ?_
  rintro σ H Q ⟨G, ρ, E, S⟩
  exact S [] G H E (Same.refl _) .nil
theorem pda_cons (ha : PE X e (tD (km X) B W F1)) (hr : PA X es (tDA (km X) B W A)) (hs : starEach (e :: es) X.env = (false, eval e X.env) :: starEach es X.env := by rfl) : PA X (e :: es) (tDA (km X) B W (consA F1 A)) := by
  refine (pa_cons ha hr hs).of ?_
  rintro σ H Q ⟨G, ρ, E, S⟩
  refine ⟨G, ρ, E, (Sat.bind S).imp fun d ρ1 s1 v G1 H1 E1 g1 dp1 => ⟨G1, ρ1, E1, ((Sat.bind s1).up g1).imp fun ds ρ2 s2 vs G2 H2 E2 g2 dp2 => ?_⟩⟩
  exact s2 (v :: vs) G2 H2 E2 (g1.trans g2) (.cons (dp_same g2 _ _ dp1) dp2)
def tTupN (t : TA) : TE := fun σ H Q => t σ H fun xs H1 => xs.length ≤ sizeLine ∧ ∀ (p : Addr) (o : Obj), H1 p = none → o.dict = none → Q (.ref p) (upd H1 p (.frz o (.tup xs)))
theorem pe_tupN {k : Nat} {t : TA} (h : PA X es t) : PE X (.Tuple es k pos) (tTupN t) := by
  refine ⟨fun pins s σ H Q I hq => ?_⟩
  refine wpAny_Tuple_spliced (thn (h.run pos pins s σ H _ I hq) fun us s1 ⟨xs, H1, I1, r, z, q⟩ => ⟨by rw [← r.length]; exact z, ?_⟩)
  have hf : H1 s1.heap.objs.size = none := I1.hok.fresh (Nat.le_refl _)
  exact ⟨.ref s1.heap.objs.size, _, I1.laid (t' := s1.toks) (o := .frz _ (.tup xs)) (fun b u e => Heap.get?_push_of_some _ e) (Nat.le_refl _) ⟨Heap.get?_push_size _ rfl, z, us, r, ⟨_, Heap.get?_push_size _ rfl, rfl, _, rfl⟩⟩, rfl, q _ _ hf rfl⟩
theorem pd_tup {k : Nat} (h : PA X es (tDA (km X) B W A)) : PE X (.Tuple es k pos) (tD (km X) B W (tupF A)) := by
  refine (pe_tupN h).of ?_
  rintro σ H Q ⟨G, ρ, E, S⟩
  refine ⟨G, ρ, E, (Sat.bind S).imp fun ds ρ1 s1 vs G1 H1 E1 g1 dp1 => ?_⟩
  by_cases hl : ds.length ≤ sizeLine
  · rw [if_pos hl] at s1
    refine ⟨by rw [dp1.len]; exact hl, fun p o hp ho => ?_⟩
    have ex := Ext.new (o := .frz o (.tup vs)) E1.base.gh hp
    exact s1 _ _ _ (E1.ext ex) (g1.trans ex.g) (.tup (SqN.of ho upd_same) (dpAll_same ex.g _ _ dp1))
  · rw [if_neg hl] at s1
    exact s1.elim
theorem pd_lst (h : PA X es (tDA (km X) B W A)) : PE X (.List es pos) (tD (km X) B W (lstF A)) := by
  refine (pe_lst h).of ?_
  rintro σ H Q ⟨G, ρ, E, S⟩
  refine ⟨G, ρ, E, (Sat.bind S).imp fun ds ρ1 s1 vs G1 H1 E1 g1 dp1 => ?_⟩
  by_cases hl : ds.length ≤ sizeLine
  · rw [if_pos hl] at s1
    refine ⟨by rw [dp1.len]; exact hl, fun p hp => ?_⟩
    have ex := Ext.new (o := .lst vs) E1.base.gh hp
    exact s1 _ _ _ (E1.ext ex) (g1.trans ex.g) (.lst (SqL.of upd_same) (dpAll_same ex.g _ _ dp1))
  · rw [if_neg hl] at s1
    exact s1.elim
theorem of_ifo {α : Type} {c : Prop} [Decidable c] {o : Option α} {z : α} (h : (if c then o else none) = some z) : c ∧ o = some z := by
  by_cases hc : c
  · rw [if_pos hc] at h; exact ⟨hc, h⟩
  · rw [if_neg hc] at h; cases h
theorem dpAll_ix {K : PySem.W.Frag} {G : Hp} {vs : List V} {ds : List PyData} {i : Int} {z : PyData} (h : DqAll K G vs ds) (e : atI ds i = some z) : ∃ v, atI vs i = some v ∧ Dq K G v z := by
  unfold atI at e ⊢
  rw [h.len]
  cases q : ixN ds.length i with
  | none => rw [q] at e; cases e
  | some j =>
    rw [q] at e
    exact h.get e
theorem rd_ix : RD X.K (rIx X.K) dIx := by
  intro G H x y d e z Q gh hx hy hz q
  cases e <;> first | (cases d <;> cases hz; done) | skip
  cases hy
  cases d <;> first | (cases hz; done) | skip
  · cases hx
    rename_i i zs
    obtain ⟨hl, hz⟩ := of_ifo hz
    cases he : atI zs.cps.toList i with
    | none => rw [he] at hz; cases hz
    | some c =>
      rw [he] at hz
      cases hz
      exact .inr (.inr ⟨_, _, c, rfl, rfl, hl, he, q _ _ _ (Ext.refl gh) (.str _)⟩)
  · cases hx with
    | lst h1 h2 =>
      obtain ⟨v, hv, dp⟩ := dpAll_ix h2 (show atI _ _ = some z from hz)
      exact .inl ⟨_, _, _, v, rfl, rfl, gh.seq h1, hv, q _ _ _ (Ext.refl gh) dp⟩
  · cases hx with
    | tup h1 h2 =>
      obtain ⟨v, hv, dp⟩ := dpAll_ix h2 (show atI _ _ = some z from hz)
      exact .inr (.inl ⟨_, _, _, v, rfl, rfl, seqT_same gh h1, hv, q _ _ _ (Ext.refl gh) dp⟩)
theorem pd_ix (ha : PE X a (tD (km X) B W F1)) (hb : PE X b (tD (km X) B W F2)) (hs : PlainIx b := by exact fun _ _ => rfl) : PE X (.Subscript a b pos) (tD (km X) B W (binF dIx F1 F2)) :=
  (pe_ix ix_seq ha hb hs).of (t_bin rd_ix)
def app1 (g : PyData → Option PyData) : List PyData → Option PyData
  | [d] => g d
  | _ => none
def app2 (g : PyData → PyData → Option PyData) : List PyData → Option PyData
  | [d, e] => g d e
  | _ => none
theorem rds1 {r : List V → Hp → VK → Prop} {g : PyData → Option PyData} (h : ∀ (G H : Hp) (x : V) (d z : PyData) (Q : VK), Same G H → Dq X.K G x d → g d = some z → (∀ v G' H', Ext G H G' H' → Dq X.K G' v z → Q v H') → r [x] H Q) : RDs X.K r (app1 g) := by
  intro G H xs ds z Q gh hx hz q
  match ds, hz with
  | [d], hz =>
    cases hx with
    | cons h1 h2 =>
      cases h2
      exact h G H _ d z Q gh h1 hz q
theorem rds2 {r : List V → Hp → VK → Prop} {g : PyData → PyData → Option PyData} (h : ∀ (G H : Hp) (x y : V) (d e z : PyData) (Q : VK), Same G H → Dq X.K G x d → Dq X.K G y e → g d e = some z → (∀ v G' H', Ext G H G' H' → Dq X.K G' v z → Q v H') → r [x, y] H Q) : RDs X.K r (app2 g) := by
  intro G H xs ds z Q gh hx hz q
  match ds, hz with
  | [d, e], hz =>
    cases hx with
    | cons h1 h2 =>
      cases h2 with
      | cons h2 h3 =>
        cases h3
        exact h G H _ _ d e z Q gh h1 h2 hz q
def bLen : PyData → Option PyData
  | .list xs => some (.int xs.length)
  | .tuple xs => some (.int xs.length)
  | .str x => if x.length ≤ sizeLine then some (.int x.length) else none
  | _ => none
def bMax : PyData → PyData → Option PyData
  | .int i, .int j => some (.int (if j > i then j else i))
  | _, _ => none
def bMin : PyData → PyData → Option PyData
  | .int i, .int j => some (.int (if j < i then j else i))
  | _, _ => none
def bAbs : PyData → Option PyData
  | .int i => some (.int (if i < 0 then -i else i))
  | _ => none
def bInt : PyData → Option PyData
  | .int i => some (.int i)
  | .bool k => some (.int (if k then 1 else 0))
  | .str a => if a.length ≤ 640 then (PySem.intText? a).map PyData.int else none
  | _ => none
def bGcd : PyData → PyData → Option PyData
  | .int a, .int b => some (.int ((Nat.gcd a.natAbs b.natAbs : Nat) : Int))
  | _, _ => none
theorem rd_len : RDs X.K (fun xs H Q => ∃ x n, xs = [x] ∧ LenV X.K x H n ∧ Q (.int n) H) (app1 bLen) := by
  refine rds1 fun G H x d z Q gh h1 hz q => ?_
  cases d <;> first | (cases hz; done) | skip
  · cases h1
    obtain ⟨hl, rfl⟩ := of_if hz
    exact ⟨_, _, rfl, ⟨hl, rfl⟩, q _ _ _ (Ext.refl gh) (.int _)⟩
  · cases hz
    cases h1 with
    | lst a1 a2 => exact ⟨_, _, rfl, .inl ⟨_, gh.seq a1, rfl⟩, by rw [a2.len]; exact q _ _ _ (Ext.refl gh) (.int _)⟩
  · cases hz
    cases h1 with
    | tup a1 a2 => exact ⟨_, _, rfl, .inr ⟨_, seqT_same gh a1, rfl⟩, by rw [a2.len]; exact q _ _ _ (Ext.refl gh) (.int _)⟩
theorem rd_min : RDs X.K (fun xs H Q => ∃ i j, xs = [.int i, .int j] ∧ Q (.int (if j < i then j else i)) H) (app2 bMin) := by
  refine rds2 fun G H x y d e z Q gh h1 h2 hz q => ?_
  cases d <;> cases e <;> first | (cases hz; done) | skip
  cases h1; cases h2; cases hz
  exact ⟨_, _, rfl, q _ _ _ (Ext.refl gh) (.int _)⟩
theorem rd_abs : RDs X.K (fun xs H Q => ∃ i, xs = [.int i] ∧ Q (.int (if i < 0 then -i else i)) H) (app1 bAbs) := by
  refine rds1 fun G H x d z Q gh h1 hz q => ?_
  cases d <;> first | (cases hz; done) | skip
  cases h1; cases hz
  exact ⟨_, rfl, q _ _ _ (Ext.refl gh) (.int _)⟩
theorem callR_or {v : Value} {r r' : List V → Hp → VK → Prop} (h : CallR X v r) (h' : CallR X v r') : CallR X v (fun xs H Q => r xs H Q ∨ r' xs H Q) := by
  intro pins s σ H xs us Q I rx q
  rcases q with q | q
  · exact h pins s σ H xs us Q I rx q
  · exact h' pins s σ H xs us Q I rx q
theorem rd_int : RDs X.K (fun xs H Q => ((∃ i, xs = [.int i] ∧ Q (.int i) H) ∨ ∃ k, xs = [.bl k] ∧ Q (.int (if k then 1 else 0)) H) ∨ ∃ a n, xs = [.str a] ∧ PySem.intText? a = some n ∧ a.length ≤ 640 ∧ Q (.int n) H) (app1 bInt) := by
  refine rds1 fun G H x d z Q gh h1 hz q => ?_
  cases d <;> first | (cases hz; done) | skip
  · cases h1; cases hz
    exact .inl (.inr ⟨_, rfl, q _ _ _ (Ext.refl gh) (.int _)⟩)
  · cases h1; cases hz
    exact .inl (.inl ⟨_, rfl, q _ _ _ (Ext.refl gh) (.int _)⟩)
  · rename_i a
    obtain ⟨hl, hz⟩ := of_ifo hz
    cases e : PySem.intText? a with
    | none => rw [e] at hz; cases hz
    | some n =>
      rw [e] at hz
      cases hz
      cases h1
      exact .inr ⟨_, n, rfl, e, hl, q _ _ _ (Ext.refl gh) (.int _)⟩
theorem rd_gcd : RDs X.K rGcd (app2 bGcd) := by
  refine rds2 fun G H x y d e z Q gh h1 h2 hz q => ?_
  cases d <;> cases e <;> first | (cases hz; done) | skip
  cases h1; cases h2; cases hz
  exact ⟨_, _, rfl, q _ _ _ (Ext.refl gh) (.int _)⟩
theorem pd_callB {x : Str} {p : Pos} {id : String} {r : List V → Hp → VK → Prop} {g : List PyData → Option PyData} (hc : CallR X (.builtin id) r) (hr : RDs X.K r g) (hm : X.mg x = none) (hv : bootBuiltins x = some (.builtin id)) (ha : PA X (e :: es) (tDA (km X) B W A))
    (hg : Gl X x := by rfl) (hn : x ≠ "__name__" := by decide) (hdb : (x == ("__debug__" : Str)) = false := by decide) (he : starEach (e :: es) X.env = (false, eval e X.env) :: starEach es X.env := by rfl) (hpl : (backTo pos (starEach es X.env)).any (·.1) = false := by rfl) :
    PE X (.Call (.Name x p) (e :: es) [] pos) (tD (km X) B W (appF g A)) := (pe_callB hc hg hm hv ha hn hdb he hpl).of (t_app hr)
theorem pd_callTy {x : Str} {p : Pos} {T : String} {r : List V → Hp → VK → Prop} {g : List PyData → Option PyData} (hc : CallR X (.type T) r) (hr : RDs X.K r g) (hm : X.mg x = none) (hv : bootBuiltins x = some (.type T)) (ha : PA X (e :: es) (tDA (km X) B W A))
    (hg : Gl X x := by rfl) (hn : x ≠ "__name__" := by decide) (hdb : (x == ("__debug__" : Str)) = false := by decide) (he : starEach (e :: es) X.env = (false, eval e X.env) :: starEach es X.env := by rfl) (hpl : (backTo pos (starEach es X.env)).any (·.1) = false := by rfl) :
    PE X (.Call (.Name x p) (e :: es) [] pos) (tD (km X) B W (appF g A)) := (pe_callTy hc hg hm hv ha hn hdb he hpl).of (t_app hr)
theorem pd_callM {x : Str} {p : Pos} {id : String} {r : List V → Hp → VK → Prop} {g : List PyData → Option PyData} (hc : CallR X (.builtin id) r) (hr : RDs X.K r g) (hm : X.mg x = some (.builtin id)) (ha : PA X (e :: es) (tDA (km X) B W A))
    (hg : Gl X x := by rfl) (hdb : (x == ("__debug__" : Str)) = false := by decide) (he : starEach (e :: es) X.env = (false, eval e X.env) :: starEach es X.env := by rfl) (hpl : (backTo pos (starEach es X.env)).any (·.1) = false := by rfl) :
    PE X (.Call (.Name x p) (e :: es) [] pos) (tD (km X) B W (appF g A)) := (pe_callBfun hc hg hm ha hdb he hpl).of (t_app hr)
theorem pd_glob {x : Str} {v : V} {u : Value} {d : PyData} {pos : Pos} (hm : X.mg x = some u) (r : RelV v u) (h : ∀ G : Hp, Dq X.K G v d) (hg : Gl X x := by rfl) (hd : (x == ("__debug__" : Str)) = false := by decide) : PE X (.Name x pos) (tD (km X) B W (cF d)) :=
  (pe_glob hg hm r hd).of (t_c h)
def spD (m : KM) (f : Fn) : Sp := fun vs H Q E => ∃ G ds, Same G H ∧ DqAll m.K G vs ds ∧ match f ds with
  | .ok d => ∀ v G' H', Ext G H G' H' → Dq m.K G' v d → Q v H'
  | .ex e => ∀ cls dd G' H', Ext G H G' H' → ExOk m G' H' e cls dd → E cls dd H'
  | .bad => False
theorem pd_call1 {CX : CXT} {k : Nat} {f : Addr} {fd : FuncData} {ps : List Str} {fn : Fn} {x : Str} {p : Pos} (F : FnOk X.prog X.w X.K X.mg X.base CX k f fd ps (spD (km X) fn)) (hr : Room k X.A) (hm : X.mg x = some (.ref f)) (hk : PySem.W.keepIn X.K (.ref f) = true) (hb : Binds X.K fd ps []) (hx : ∀ σ, PassesAt CX X σ (WE W σ))
    (ha : PA X (e :: es) (tDA (km X) B W A)) (hg : Gl X x := by rfl) (hdb : (x == ("__debug__" : Str)) = false := by decide) (he : starEach (e :: es) X.env = (false, eval e X.env) :: starEach es X.env := by rfl) (hpl : (backTo pos (starEach es X.env)).any (·.1) = false := by rfl) : PE X (.Call (.Name x p) (e :: es) [] pos) (tD (km X) B W (callF fn A)) := by
  refine (pe_callS F hr hg hm hk hb hx ha hdb he hpl).of ?_
  rintro σ H Q ⟨G, ρ, E, S⟩
  refine ⟨G, ρ, E, (Sat.bind S).imp fun ds ρ1 s1 vs G1 H1 E1 g1 dp1 => ?_⟩
  refine ⟨G1, ds, E1.base.gh, dp1, ?_⟩
  cases q : fn ds with
  | ok d =>
    rw [q] at s1
    exact fun v G' H' ext dp => s1 v G' H' (E1.ext ext) (g1.trans ext.g) dp
  | ex x =>
    rw [q] at s1
    exact fun cls dd G' H' ext ok => s1 cls dd G' H' (E1.ext ext) (g1.trans ext.g) ok
  | bad =>
    rw [q] at s1
    exact s1
end
end DL
namespace DL
open PySem PySem.Spec PyProof.Rows L2
abbrev Tg := PyData → Rho → Option Rho
abbrev Tgs := List PyData → Rho → Option Rho
def nameT (i : Nat) : Tg := fun d ρ => if i < ρ.length then some (ρ.set i (.d d)) else none
def nilTs : Tgs := fun ds ρ => match ds with
  | [] => some ρ
  | _ => none
def consTs (T : Tg) (U : Tgs) : Tgs := fun ds ρ => match ds with
  | d :: r => (T d ρ).bind fun ρ => U r ρ
  | _ => none
def tupT (n : Nat) (U : Tgs) : Tg := fun d ρ => match d with
  | .tuple ds => if ds.length = n then U ds ρ else none
  | _ => none
def gD (m : KM) (B : Bx) (T : Tg) : TG := fun v σ H Q => ∃ G ρ d ρ', DEnv m B G H σ ρ ∧ Dq m.K G v d ∧ T d ρ = some ρ' ∧ ∀ σ', DEnv m B G H σ' ρ' → Q σ' H
def gDs (m : KM) (B : Bx) (U : Tgs) : TGs := fun vs σ H Q => ∃ G ρ ds ρ', DEnv m B G H σ ρ ∧ DqAll m.K G vs ds ∧ U ds ρ = some ρ' ∧ ∀ σ', DEnv m B G H σ' ρ' → Q σ' H
theorem _root_.L2.PG.of {X : L2.Cx} {e : Expr} {t t' : TG} (h : PG X e t) (i : ∀ v σ H Q, t' v σ H Q → t v σ H Q) : PG X e t' := ⟨fun pins s σ H v u Q I r q => h.run pins s σ H v u Q I r (i _ _ _ _ q)⟩
theorem _root_.L2.PGs.of {X : L2.Cx} {e : List Expr} {t t' : TGs} (h : PGs X e t) (i : ∀ v σ H Q, t' v σ H Q → t v σ H Q) : PGs X e t' := ⟨fun pins s σ H v u Q I r q => h.run pins s σ H v u Q I r (i _ _ _ _ q)⟩
section
variable {X : L2.Cx} {B : Bx} {W : WX} {pos : Pos}
theorem pgd_name (i : Nat) {x : Str} (hN : X.N.Nodup) (hi : X.N[i]? = some x := by rfl) (hx : Loc X.env.scope x := by first | exact Or.inl rfl | exact Or.inr rfl) (hf : X.fn x = true ∨ X.env.scope.names.lookup x = some .local := by first | exact .inl rfl | exact .inr rfl | assumption) : PG X (.Name x pos) (gD (km X) B (nameT i)) := by
  refine (pg_name hN hi hx hf).of ?_
  rintro v σ H Q ⟨G, ρ, d, ρ', E, dp, hT, q⟩
  obtain ⟨hl, rfl⟩ := of_if hT
  exact q _ (E.put hl dp)
theorem pgds_nil : PGs X [] (gDs (km X) B nilTs) := by
  refine pgs_nil.of ?_
  rintro vs σ H Q ⟨G, ρ, ds, ρ', E, dp, hT, q⟩
  cases dp with
  | nil => cases hT; exact ⟨rfl, q _ E⟩
  | cons _ _ => cases hT
theorem pgds_cons {e : Expr} {es : List Expr} {T : Tg} {U : Tgs} (h1 : PG X e (gD (km X) B T)) (h2 : PGs X es (gDs (km X) B U))
    (hs : (assignEach (e :: es) X.env).map (·.2) = assign e X.env :: (assignEach es X.env).map (·.2) := by rfl) : PGs X (e :: es) (gDs (km X) B (consTs T U)) := by
  refine (pgs_cons h1 h2 hs).of ?_
  rintro vs σ H Q ⟨G, ρ, ds, ρ', E, dp, hT, q⟩
  cases dp with
  | nil => cases hT
  | cons d1 d2 =>
    rename_i v vs d ds
    cases e1 : T d ρ with
    | none => unfold consTs at hT; dsimp only at hT; rw [e1] at hT; cases hT
    | some ρ1 =>
      unfold consTs at hT; dsimp only at hT; rw [e1] at hT
      exact ⟨v, vs, rfl, G, ρ, d, ρ1, E, d1, e1, fun σ1 E1 => ⟨G, ρ1, ds, ρ', E1, d2, hT, q⟩⟩
theorem pgd_tup {es : List Expr} {k n : Nat} {U : Tgs} (hc : X.calm = true) (h : PGs X es (gDs (km X) B U))
    (hn : (assignEach es X.env).length = n := by rfl) (hst : (assignEach es X.env).findIdx? (·.1) = none := by rfl) : PG X (.Tuple es k pos) (gD (km X) B (tupT n U)) := by
  refine (pg_tup hc h hn hst).of ?_
  rintro v σ H Q ⟨G, ρ, d, ρ', E, dp, hT, q⟩
  cases d <;> first | (cases hT; done) | skip
  obtain ⟨hl, hT⟩ := of_ifo hT
  cases dp with
  | tup h1 h2 => exact ⟨_, _, rfl, seqT_same E.base.gh h1, by rw [h2.len]; exact hl, G, ρ, _, ρ', E, h2, hT, q⟩
def seqS (S1 S2 : Rho → Out) : Rho → Out := fun ρ => (S1 ρ).bind S2
def nxS : Rho → Out := .nx
def optS : Option Rho → Out
  | some ρ => .nx ρ
  | none => .bad
def asgS (F : Rho → Res PyData) (T : Tg) : Rho → Out := fun ρ => (F ρ).out fun d ρ => optS (T d ρ)
def ownS (A : Rho → Res (List PyData)) (i : Nat) : Rho → Out := fun ρ => (A ρ).out fun ds ρ => if ds.length ≤ sizeLine ∧ i < ρ.length then .nx (ρ.set i (.own ds)) else .bad
def parS (A : Rho → Res (List PyData)) (i j : Nat) : Rho → Out := fun ρ => (A ρ).out fun ds ρ => match ds with
  | [d, e] => if i < ρ.length ∧ j < ρ.length then .nx ((ρ.set i (.d d)).set j (.d e)) else .bad
  | _ => .bad
def retS (F : Rho → Res PyData) : Rho → Out := fun ρ => (F ρ).out fun d _ => .rt d
def ifS (T : Rho → Res Bool) (S1 S2 : Rho → Out) : Rho → Out := fun ρ => (T ρ).out fun b ρ => if b = true then S1 ρ else S2 ρ
def isOwn : Option Ent → Bool
  | some (.own _) => true
  | _ => false
def appendS (i : Nat) (F : Rho → Res PyData) : Rho → Out := fun ρ => if isOwn ρ[i]? = true then (F ρ).out fun d ρ => match ρ[i]? with
  | some (.own xs) => if xs.length < sizeLine then .nx (ρ.set i (.own (xs ++ [d]))) else .bad
  | _ => .bad
  else .bad
def raiseS (nm : Str) : Rho → Out := fun ρ => .ex ⟨nm, []⟩ ρ
def loopS (T : Tg) (S : Rho → Out) : List PyData → Rho → Out
  | [], ρ => .nx ρ
  | d :: ds, ρ => match T d ρ with
    | none => .bad
    | some ρ1 => match S ρ1 with
      | .nx ρ2 => loopS T S ds ρ2
      | .ct ρ2 => loopS T S ds ρ2
      | .bk ρ2 => .nx ρ2
      | o => o
def forS (F : Rho → Res (List PyData)) (T : Tg) (S : Rho → Out) : Rho → Out := fun ρ => (F ρ).out fun ds ρ => loopS T S ds ρ
def whileN (T : Rho → Res Bool) (S : Rho → Out) : Nat → Rho → Out
  | 0, _ => .bad
  | n + 1, ρ => (T ρ).out fun b ρ => if b = true then (match S ρ with
      | .nx ρ2 => whileN T S n ρ2
      | .ct ρ2 => whileN T S n ρ2
      | .bk ρ2 => .nx ρ2
      | o => o) else .nx ρ
open Classical in
noncomputable def whileS (T : Rho → Res Bool) (S : Rho → Out) : Rho → Out := fun ρ => if h : ∃ n, whileN T S n ρ ≠ .bad then whileN T S (Classical.choose h) ρ else .bad
variable {e : Expr} {es : List Expr} {st : Stmt} {rest : List Stmt} {S1 S2 : Rho → Out} {F : Rho → Res PyData} {A : Rho → Res (List PyData)} {T : Tg} {Tb : Rho → Res Bool} {D : Ends} {σ : L2.St}
theorem SatS.out {α : Type} {r : Res α} {f : α → Rho → Out} {G0 : Hp} (h : SatS (km X) B W G0 D (r.out f)) : Sat (km X) B W G0 σ r fun a ρ => SatS (km X) B W G0 D (f a ρ) := by
  cases r with
  | ok a ρ => exact h
  | ex x ρ => exact fun cls dd G H E g ok => h cls dd σ G H E g ok
  | bad => exact h
theorem pds_nil : PSs X [] (tDS (km X) B W nxS) := by
  refine pss_nil.of ?_
  rintro D σ H ⟨G, ρ, E, S⟩
  exact S σ G H E (Same.refl _)
theorem t_seq : ∀ D σ H, tDS (km X) B W (seqS S1 S2) D σ H → tSeq (tDS (km X) B W S1) (tDS (km X) B W S2) D σ H := by
  rintro D σ H ⟨G, ρ, E, S⟩
  refine ⟨G, ρ, E, ?_⟩
  unfold seqS at S
  cases h : S1 ρ with
  | nx ρ1 =>
    rw [h] at S
    exact fun σ G H E g => ⟨G, ρ1, E, S.up g⟩
  | rt d => rw [h] at S; exact S
  | bk ρ1 => rw [h] at S; exact S
  | ct ρ1 => rw [h] at S; exact S
  | ex x ρ1 => rw [h] at S; exact S
  | bad => rw [h] at S; exact S
theorem pds_cons (h1 : PS X st (tDS (km X) B W S1)) (h2 : PSs X rest (tDS (km X) B W S2)) : PSs X (st :: rest) (tDS (km X) B W (seqS S1 S2)) := (pss_cons h1 h2).of t_seq
theorem pds_one (h1 : PS X st (tDS (km X) B W S1)) : PSs X [st] (tDS (km X) B W S1) := pss_one h1
theorem pd_ret (he : PE X e (tD (km X) B W F)) : PS X (.Return (some e) pos) (tDS (km X) B W (retS F)) := by
  refine (ps_ret he).of ?_
  rintro D σ H ⟨G, ρ, E, S⟩
  exact ⟨G, ρ, E, S.out.imp fun d ρ1 s1 v G1 H1 E1 g1 dp1 => s1 v G1 H1 E1.base dp1⟩
theorem pd_if {c : Expr} {a b : List Stmt} (hc : PT X c (tDT (km X) B W Tb)) (ha : PSs X a (tDS (km X) B W S1)) (hb : PSs X b (tDS (km X) B W S2)) : PS X (.If c a b pos) (tDS (km X) B W (ifS Tb S1 S2)) := by
  refine (ps_if hc ha hb).of ?_
  rintro D σ H ⟨G, ρ, E, S⟩
  refine ⟨G, ρ, E, S.out.imp fun c ρ1 s1 G1 H1 E1 g1 => ?_⟩
  cases c with
  | true =>
    rw [if_pos rfl] at s1 ⊢
    exact ⟨G1, ρ1, E1, s1.up g1⟩
  | false =>
    rw [if_neg (by decide)] at s1 ⊢
    exact ⟨G1, ρ1, E1, s1.up g1⟩
theorem sat_optS {o : Option Rho} {G0 : Hp} (h : SatS (km X) B W G0 D (optS o)) : ∃ ρ, o = some ρ ∧ ∀ σ G H, DEnv (km X) B G H σ ρ → Same G0 G → D.nx σ H := by
  cases o with
  | none => exact h.elim
  | some ρ => exact ⟨ρ, rfl, h⟩
theorem pd_asg {tg : Expr} (he : PE X e (tD (km X) B W F)) (hg : PG X tg (gD (km X) B T)) (hs : swapsWithSole [tg] e pos.line X.env = pure false := by rfl) (hw : swappedStores [tg] e X.env = pure none := by rfl)
    (h1 : (assignEach [tg] X.env).map (·.2) = [assign tg X.env] := by rfl) : PS X (.Assign [tg] e pos) (tDS (km X) B W (asgS F T)) := by
  refine (ps_asg he hg hs hw h1).of ?_
  rintro D σ H ⟨G, ρ, E, S⟩
  refine ⟨G, ρ, E, S.out.imp fun d ρ1 s1 v G1 H1 E1 g1 dp1 => ?_⟩
  obtain ⟨ρ2, h2, q⟩ := sat_optS s1
  exact ⟨G1, ρ1, d, ρ2, E1, dp1, h2, fun σ' E' => q σ' G1 H1 E' g1⟩
theorem pd_set (i : Nat) {x : Str} {pos' : Pos} (hN : X.N.Nodup) (he : PE X e (tD (km X) B W F)) (hi : X.N[i]? = some x := by rfl) (hx : Loc X.env.scope x := by first | exact Or.inl rfl | exact Or.inr rfl) (hs : swapsWith e (some (.Name x pos')) pos.line X.env = pure false := by rfl) (hf : X.fn x = true ∨ X.env.scope.names.lookup x = some .local := by first | exact .inl rfl | exact .inr rfl | assumption) :
    PS X (.Assign [.Name x pos'] e pos) (tDS (km X) B W (asgS F (nameT i))) := by
  refine (ps_set hN hi hx he hs hf).of ?_
  rintro D σ H ⟨G, ρ, E, S⟩
  refine ⟨G, ρ, E, S.out.imp fun d ρ1 s1 v G1 H1 E1 g1 dp1 => ?_⟩
  obtain ⟨ρ2, h2, q⟩ := sat_optS s1
  obtain ⟨hl, rfl⟩ := of_if h2
  exact q _ _ _ (E1.put hl dp1) g1
theorem pd_setOwn (i : Nat) {x : Str} {pos' p2 : Pos} (hN : X.N.Nodup) (ha : PA X es (tDA (km X) B W A)) (hi : X.N[i]? = some x := by rfl) (hx : Loc X.env.scope x := by first | exact Or.inl rfl | exact Or.inr rfl) (hs : swapsWith (.List es p2) (some (.Name x pos')) pos.line X.env = pure false := by rfl) (hf : X.fn x = true ∨ X.env.scope.names.lookup x = some .local := by first | exact .inl rfl | exact .inr rfl | assumption) :
    PS X (.Assign [.Name x pos'] (.List es p2) pos) (tDS (km X) B W (ownS A i)) := by
  refine (ps_set hN hi hx (pe_lst ha) hs hf).of ?_
  rintro D σ H ⟨G, ρ, E, S⟩
  refine ⟨G, ρ, E, S.out.imp fun ds ρ1 s1 vs G1 H1 E1 g1 dp1 => ?_⟩
  by_cases hl : ds.length ≤ sizeLine ∧ i < ρ1.length
  · rw [if_pos hl] at s1
    exact ⟨by rw [dp1.len]; exact hl.1, fun p hp => s1 _ _ _ (E1.putOwn hl.2 hp dp1) g1⟩
  · rw [if_neg hl] at s1
    exact s1.elim
theorem pd_par (i j : Nat) {x y : Str} {a b : Expr} {px py pt : Pos} {kt k2 pt2} (hc : X.calm = true) (hN : X.N.Nodup) (ha : PA X [a, b] (tDA (km X) B W A)) (hi : X.N[i]? = some x := by rfl) (hj : X.N[j]? = some y := by rfl) (hij : i ≠ j := by decide)
    (hx : X.env.scope.names.lookup x = some .local := by rfl) (hy : X.env.scope.names.lookup y = some .local := by rfl)
    (hw : swappedStores [.Tuple [.Name x px, .Name y py] kt pt] (.Tuple [a, b] k2 pt2) X.env = pure (some [x, y]) := by rfl)
    (hs : swapsWithSole [.Tuple [.Name x px, .Name y py] kt pt] (.Tuple [a, b] k2 pt2) pos.line X.env = pure false := by rfl) :
    PS X (.Assign [.Tuple [.Name x px, .Name y py] kt pt] (.Tuple [a, b] k2 pt2) pos) (tDS (km X) B W (parS A i j)) := by
  refine (ps_par hc hN hi hj hij hx hy ha hw hs).of ?_
  rintro D σ H ⟨G, ρ, E, S⟩
  refine ⟨G, ρ, E, S.out.imp fun ds ρ1 s1 vs G1 H1 E1 g1 dp1 => ?_⟩
  match ds, s1 with
  | [d, e], s1 =>
    cases dp1 with
    | cons d1 d2 =>
      cases d2 with
      | cons d2 d3 =>
        cases d3
        by_cases hl : i < ρ1.length ∧ j < ρ1.length
        · have s2 : SatS (km X) B W G D (if i < ρ1.length ∧ j < ρ1.length then .nx ((ρ1.set i (.d d)).set j (.d e)) else .bad) := s1
          rw [if_pos hl] at s2
          exact ⟨_, _, rfl, s2 _ _ _ ((E1.put hl.1 d1).put (by simpa using hl.2) d2) g1⟩
        · have s2 : SatS (km X) B W G D (if i < ρ1.length ∧ j < ρ1.length then .nx ((ρ1.set i (.d d)).set j (.d e)) else .bad) := s1
          rw [if_neg hl] at s2
          exact s2.elim
theorem pd_append (i : Nat) {x : Str} {px apos cpos : Pos} (he : PE X e (tD (km X) B W F)) (hN : X.N[i]? = some x := by rfl) (hv : Vis X.env.scope x := by first | exact Or.inl rfl | exact Or.inr (Or.inl rfl) | exact Or.inr (Or.inr rfl)) (hd : (x == ("__debug__" : Str)) = false := by decide)
    (hcd : (x == ("__classdict__" : Str)) = false := by decide)
    (hbase : attributeBase (.Name x px) "append" X.env (eval (.Name x px) X.env) = eval (.Name x px) X.env := by rfl)
    (hfew : ((backTo cpos (starEach [e] X.env)).all (fun x => !x.1) && (backToKw cpos (keywordEach [] X.env)).all (fun x => x.1.isSome)
      && decide ([e].length + ([] : List Keyword).length + (if ([] : List Keyword).isEmpty then 0 else 1) < 30)) = true := by rfl)
    (hline : (apos.endLine == cpos.line) = true := by rfl) (hs : starEach [e] X.env = (false, eval e X.env) :: starEach [] X.env := by rfl) (hplain : (backTo cpos (starEach [] X.env)).any (·.1) = false := by rfl)
    (hsw : swapsWith (.Call (.Attribute (.Name x px) "append" apos) [e] [] cpos) none pos.line X.env = pure false := by rfl) :
    PS X (.Expr (.Call (.Attribute (.Name x px) "append" apos) [e] [] cpos) pos) (tDS (km X) B W (appendS i F)) := by
  refine (ps_expr (pe_bm PySem.F.plainAttrs_list PySem.F.slot_list_append PySem.F.type_list_append mt_append (pe_var hN hv hd hcd) (pa_cons he pa_nil hs) hbase hfew hline hs hplain) hsw).of ?_
  rintro D σ H ⟨G, ρ, E, S⟩
  unfold appendS at S
  cases ho : isOwn ρ[i]? with
  | false => rw [ho, if_neg (by decide)] at S; exact S.elim
  | true =>
    rw [ho, if_pos rfl] at S
    obtain ⟨zs, hz⟩ : ∃ zs, ρ[i]? = some (.own zs) := by
      revert ho
      cases ρ[i]? with
      | none => intro z; cases z
      | some q => cases q <;> intro z <;> first | (cases z; done) | exact ⟨_, rfl⟩
    have q := E.ent i _ hz
    generalize hσ : σ[i]? = o at q
    cases q with
    | own h1 h2 h3 h4 =>
      rename_i a vs
      refine ⟨_, hσ, .inl ⟨rfl, _, SqL.of h1⟩, G, ρ, E, S.out.imp fun d ρ1 s1 v G1 H1 E1 g1 dp1 => ?_⟩
      show ∃ l xs y, _
      split at s1
      · rename_i ys hy
        have q := E1.ent i _ hy
        rw [hσ] at q
        cases q with
        | own k1 k2 k3 k4 =>
          by_cases hl : ys.length < sizeLine
          · rw [if_pos hl] at s1
            exact ⟨_, _, _, rfl, rfl, k1, by rw [k4.len]; exact hl, s1 _ _ _ (E1.change hy hσ (k4.append (.cons dp1 .nil))) g1⟩
          · rw [if_neg hl] at s1
            exact s1.elim
      · exact s1.elim
structure Walk (K : PySem.W.Frag) (ds : List PyData) (G : Hp) (J : It) : Prop where
  go : ∀ (i : Nat) (d : PyData) (G2 H2 : Hp), Same G G2 → Same G2 H2 → ds[i]? = some d → J.go i H2 ∧ ∀ v H3, J.yld i H2 v H3 → ∃ G3, Ext G2 H2 G3 H3 ∧ Dq K G3 v d
  stop : ∀ (i : Nat) (G2 H2 : Hp), Same G G2 → Same G2 H2 → i = ds.length → J.stop i H2
def iD (m : KM) (B : Bx) (W : WX) (F : Rho → Res (List PyData)) : TI := fun σ H R => ∃ G ρ, DEnv m B G H σ ρ ∧ Sat m B W G σ (F ρ) fun ds ρ' => ∀ J G' H', DEnv m B G' H' σ ρ' → Same G G' → Walk m.K ds G' J → R J H'
theorem pd_for {tg iter : Expr} {body : List Stmt} {Fi : Rho → Res (List PyData)} (hp : PassesOwn (model X.prog X.w) X.A X.env X.xe) (hc : X.calm = true) (hi : PI X tg iter (iD (km X) B W Fi)) (hg : PG X tg (gD (km X) B T)) (hb : PSs X body (tDS (km X) B W S1))
    (hs : ∀ x, foldedSetIterable iter X.env x = pure x := by intro _; rfl) : PS X (.For tg iter body [] pos) (tDS (km X) B W (forS Fi T S1)) := by
  refine (ps_for hp hc hi hg hb hs).of ?_
  rintro D σ H ⟨G, ρ, E, S⟩
  refine ⟨G, ρ, E, S.out.imp fun ds ρ1 s1 J G1 H1 E1 g1 wk => ?_⟩
  refine ⟨fun i m σ H => m = ds.length - i ∧ i ≤ ds.length ∧ ∃ G ρ, DEnv (km X) B G H σ ρ ∧ Same G1 G ∧ SatS (km X) B W G1 D (loopS T S1 (ds.drop i) ρ), ⟨_, rfl, Nat.zero_le _, G1, ρ1, E1, Same.refl _, s1.up g1⟩, ?_⟩
  rintro i m σ H ⟨rfl, hi, G2, ρ2, E2, g2, s2⟩
  by_cases hl : i < ds.length
  · have hd : ds[i]? = some ds[i] := List.getElem?_eq_getElem hl
    obtain ⟨w1, w2⟩ := wk.go i _ G2 H g2 E2.base.gh hd
    refine .inr ⟨w1, fun σ' H' => ∃ G ρ, DEnv (km X) B G H' σ' ρ ∧ Same G1 G ∧ SatS (km X) B W G1 D (loopS T S1 (ds.drop (i + 1)) ρ), fun σ' H' n => ⟨ds.length - (i + 1), by omega, rfl, hl, n⟩, fun v H3 y => ?_⟩
    obtain ⟨G3, ext, dp⟩ := w2 v H3 y
    have E3 := E2.ext ext
    rw [List.drop_eq_getElem_cons hl] at s2
    unfold loopS at s2
    cases hT : T ds[i] ρ2 with
    | none => rw [hT] at s2; exact s2.elim
    | some ρ3 =>
      rw [hT] at s2
      refine ⟨G3, ρ2, ds[i], ρ3, E3, dp, hT, fun σ' E' => ⟨G3, ρ3, E', ?_⟩⟩
      dsimp only at s2
      have g3 : Same G1 G3 := g2.trans ext.g
      cases hS : S1 ρ3 with
      | nx ρ4 =>
        rw [hS] at s2
        exact fun σ G H E g => ⟨G, ρ4, E, g3.trans g, s2⟩
      | ct ρ4 =>
        rw [hS] at s2
        exact fun σ G H E g => ⟨G, ρ4, E, g3.trans g, s2⟩
      | bk ρ4 =>
        rw [hS] at s2
        exact fun σ G H E g => s2 σ G H E (g3.trans g)
      | rt d => rw [hS] at s2; exact s2
      | ex x ρ4 =>
        rw [hS] at s2
        exact fun cls dd σ G H E g => s2 cls dd σ G H E (g3.trans g)
      | bad => rw [hS] at s2; exact s2
  · have hi' : i = ds.length := by omega
    subst hi'
    rw [List.drop_length] at s2
    exact .inl ⟨wk.stop _ G2 H g2 E2.base.gh rfl, s2 σ G2 H E2 g2⟩
end
end DL
namespace DL
open PySem PySem.Spec PyProof.Rows L2 RT
section
variable {Tb : Rho → Res Bool} {S : Rho → Out}
theorem whileN_mono : ∀ {n : Nat} {ρ : Rho}, whileN Tb S n ρ ≠ .bad → ∀ k, whileN Tb S (n + k) ρ = whileN Tb S n ρ
  | 0, _, h, _ => absurd rfl h
  | n + 1, ρ, h, k => by
    rw [show n + 1 + k = (n + k) + 1 by omega]
    unfold whileN at h ⊢
    cases e : Tb ρ with
    | bad => rfl
    | ex x ρ1 => rfl
    | ok b ρ1 =>
      rw [e] at h
      cases b with
      | false => rfl
      | true =>
        simp only [Res.out, if_true] at h ⊢
        cases e2 : S ρ1 with
        | nx ρ2 => rw [e2] at h; exact whileN_mono h k
        | ct ρ2 => rw [e2] at h; exact whileN_mono h k
        | bk ρ2 => rfl
        | rt d => rfl
        | ex x ρ2 => rfl
        | bad => rfl
theorem whileS_of {n : Nat} {ρ : Rho} (h : whileN Tb S n ρ ≠ .bad) : whileS Tb S ρ = whileN Tb S n ρ := by
  have hx : ∃ n, whileN Tb S n ρ ≠ .bad := ⟨n, h⟩
  unfold whileS
  rw [dif_pos hx]
  have hc := Classical.choose_spec hx
  have a := whileN_mono hc n
  have b := whileN_mono h (Classical.choose hx)
  rw [Nat.add_comm] at a
  exact a.symm.trans b
theorem whileS_run {ρ : Rho} (h : whileS Tb S ρ ≠ .bad) : ∃ n, whileN Tb S n ρ = whileS Tb S ρ ∧ whileN Tb S n ρ ≠ .bad := by
  unfold whileS at h ⊢
  by_cases hx : ∃ n, whileN Tb S n ρ ≠ .bad
  · rw [dif_pos hx]
    exact ⟨Classical.choose hx, rfl, Classical.choose_spec hx⟩
  · rw [dif_neg hx] at h
    exact absurd rfl h
theorem whileS_eq (ρ : Rho) : whileS Tb S ρ = (Tb ρ).out fun b ρ => if b = true then (match S ρ with
      | .nx ρ2 => whileS Tb S ρ2
      | .ct ρ2 => whileS Tb S ρ2
      | .bk ρ2 => .nx ρ2
      | o => o) else .nx ρ := by
  by_cases hx : ∃ n, whileN Tb S n ρ ≠ .bad
  · obtain ⟨n, h⟩ := hx
    rw [whileS_of h]
    cases n with
    | zero => exact absurd rfl h
    | succ n =>
      unfold whileN at h ⊢
      cases e : Tb ρ with
      | bad => rfl
      | ex x ρ1 => rfl
      | ok b ρ1 =>
        rw [e] at h
        cases b with
        | false => rfl
        | true =>
          simp only [Res.out, if_true] at h ⊢
          cases e2 : S ρ1 with
          | nx ρ2 => rw [e2] at h; exact (whileS_of h).symm
          | ct ρ2 => rw [e2] at h; exact (whileS_of h).symm
          | bk ρ2 => rfl
          | rt d => rfl
          | ex x ρ2 => rfl
          | bad => rfl
  · have e0 : whileS Tb S ρ = .bad := by unfold whileS; rw [dif_neg hx]
    rw [e0]
    have step : ∀ n, whileN Tb S (n + 1) ρ = .bad := fun n => Classical.byContradiction fun h => hx ⟨n + 1, h⟩
    cases e : Tb ρ with
    | bad => rfl
    | ex x ρ1 =>
      have := step 0
      unfold whileN at this
      rw [e] at this
      cases this
    | ok b ρ1 =>
      cases b with
      | false =>
        have := step 0
        unfold whileN at this
        rw [e] at this
        simp [Res.out] at this
      | true =>
        simp only [Res.out, if_true]
        cases e2 : S ρ1 with
        | nx ρ2 =>
          dsimp only
          refine Classical.byContradiction fun h => ?_
          obtain ⟨n, h1, h2⟩ := whileS_run (fun z => h z.symm)
          have := step n
          unfold whileN at this
          rw [e] at this
          simp only [Res.out, if_true] at this
          rw [e2] at this
          exact h2 this
        | ct ρ2 =>
          dsimp only
          refine Classical.byContradiction fun h => ?_
          obtain ⟨n, h1, h2⟩ := whileS_run (fun z => h z.symm)
          have := step n
          unfold whileN at this
          rw [e] at this
          simp only [Res.out, if_true] at this
          rw [e2] at this
          exact h2 this
        | bk ρ2 =>
          have := step 0
          unfold whileN at this
          rw [e] at this
          simp only [Res.out, if_true] at this
          rw [e2] at this
          cases this
        | rt d =>
          have := step 0
          unfold whileN at this
          rw [e] at this
          simp only [Res.out, if_true] at this
          rw [e2] at this
          cases this
        | ex x ρ2 =>
          have := step 0
          unfold whileN at this
          rw [e] at this
          simp only [Res.out, if_true] at this
          rw [e2] at this
          cases this
        | bad => rfl
end
section
variable {X : L2.Cx} {B : Bx} {W : WX} {pos : Pos} {e : Expr} {es : List Expr} {S1 S2 : Rho → Out} {F : Rho → Res PyData} {A : Rho → Res (List PyData)} {T : Tg} {Tb : Rho → Res Bool} {D : Ends} {σ : L2.St}
theorem pd_while {c : Expr} {body : List Stmt} (hp : PassesOwn (model X.prog X.w) X.A X.env X.xe) (hc : PT X c (tDT (km X) B W Tb)) (hb : PSs X body (tDS (km X) B W S1)) : PS X (.While c body [] pos) (tDS (km X) B W (whileS Tb S1)) := by
  refine (ps_while hp hc hb).of ?_
  rintro D σ H ⟨G, ρ, E, S⟩
  have nb : whileS Tb S1 ρ ≠ .bad := fun z => by rw [z] at S; exact S
  obtain ⟨n, h1, h2⟩ := whileS_run nb
  rw [← h1] at S
  refine ⟨fun n σ H => ∃ G2 ρ, DEnv (km X) B G2 H σ ρ ∧ Same G G2 ∧ SatS (km X) B W G D (whileN Tb S1 n ρ), ⟨n, G, ρ, E, Same.refl _, S⟩, ?_⟩
  rintro m σ H ⟨G2, ρ2, E2, g2, s2⟩
  cases m with
  | zero => exact s2.elim
  | succ m =>
    unfold whileN at s2
    refine ⟨G2, ρ2, E2, ((SatS.out s2).up g2).imp fun b ρ3 s3 G3 H3 E3 g3 => ?_⟩
    cases b with
    | false =>
      rw [if_neg (by decide)] at s3 ⊢
      exact s3 σ G3 H3 E3 (g2.trans g3)
    | true =>
      rw [if_pos rfl] at s3 ⊢
      refine ⟨fun σ' H' => ∃ G2 ρ, DEnv (km X) B G2 H' σ' ρ ∧ Same G G2 ∧ SatS (km X) B W G D (whileN Tb S1 m ρ), fun σ' H' n => ⟨m, Nat.lt_succ_self _, n⟩, G3, ρ3, E3, ?_⟩
      have g4 : Same G G3 := g2.trans g3
      cases hS : S1 ρ3 with
      | nx ρ4 =>
        rw [hS] at s3
        exact fun σ G5 H E g => ⟨G5, ρ4, E, g4.trans g, s3⟩
      | ct ρ4 =>
        rw [hS] at s3
        exact fun σ G5 H E g => ⟨G5, ρ4, E, g4.trans g, s3⟩
      | bk ρ4 =>
        rw [hS] at s3
        exact fun σ G5 H E g => s3 σ G5 H E (g4.trans g)
      | rt d => rw [hS] at s3; exact s3
      | ex x ρ4 =>
        rw [hS] at s3
        exact fun cls dd σ G5 H E g => s3 cls dd σ G5 H E (g4.trans g)
      | bad => rw [hS] at s3; exact s3
def itemsF (F : Rho → Res PyData) : Rho → Res (List PyData) := fun ρ => (F ρ).bind fun d ρ => match d with
  | .list ds => .ok ds ρ
  | _ => .bad
def itemsT (F : Rho → Res PyData) : Rho → Res (List PyData) := fun ρ => (F ρ).bind fun d ρ => match d with
  | .tuple ds => .ok ds ρ
  | _ => .bad
def rangeL (a : Int) (n : Nat) : List PyData := (List.range n).map fun i : Nat => PyData.int (a + (i : Int))
noncomputable def rng1 (ds : List PyData) (ρ : Rho) : Res (List PyData) := match ds with
  | [.int j] => iteC (-(2 ^ 62) ≤ j ∧ j < 2 ^ 62) (.ok (rangeL 0 j.toNat) ρ) .bad
  | _ => .bad
noncomputable def range1F (A : Rho → Res (List PyData)) : Rho → Res (List PyData) := fun ρ => (A ρ).bind rng1
def revF (F : Rho → Res PyData) : Rho → Res (List PyData) := fun ρ => (F ρ).bind fun d ρ => match d with
  | .list ds => .ok ds.reverse ρ
  | .tuple ds => .ok ds.reverse ρ
  | _ => .bad
theorem _root_.L2.PI.of {tg iter : Expr} {t t' : TI} (h : PI X tg iter t) (i : ∀ σ H R, t' σ H R → t σ H R) : PI X tg iter t' := ⟨fun pins s σ H R I q => h.run pins s σ H R I (i _ _ _ q)⟩
theorem walk_list {K : PySem.W.Frag} {G : Hp} {a : Addr} {xs : List V} {ds : List PyData} (h1 : SqL K G a xs) (h2 : DqAll K G xs ds) : Walk K ds G (Itl K a) := by
  refine ⟨fun i d G2 H2 g gh hd => ?_, fun i G2 H2 g gh hi => ⟨xs, gh.seq (g.seq h1), by rw [h2.len, hi]; exact Nat.le_refl _⟩⟩
  obtain ⟨v, hv, dp⟩ := h2.get hd
  refine ⟨⟨xs, v, gh.seq (g.seq h1), hv⟩, fun u H3 y => ?_⟩
  obtain ⟨rfl, y⟩ := y
  have e : u = v := Option.some.inj ((y xs (gh.seq (g.seq h1))).symm.trans hv)
  subst e
  exact ⟨G2, Ext.refl gh, dp_same g _ _ dp⟩
theorem walk_tup {K : PySem.W.Frag} {G : Hp} {a : Addr} {xs : List V} {ds : List PyData} (h1 : SqN K G a xs) (h2 : DqAll K G xs ds) : Walk K ds G (Itt K a) := by
  refine ⟨fun i d G2 H2 g gh hd => ?_, fun i G2 H2 g gh hi => ⟨xs, seqT_same gh (h1.same g), by rw [h2.len, hi]; exact Nat.le_refl _⟩⟩
  obtain ⟨v, hv, dp⟩ := h2.get hd
  refine ⟨⟨xs, v, seqT_same gh (h1.same g), hv⟩, fun u H3 y => ?_⟩
  obtain ⟨rfl, y⟩ := y
  have e : u = v := Option.some.inj ((y xs (seqT_same gh (h1.same g))).symm.trans hv)
  subst e
  exact ⟨G2, Ext.refl gh, dp_same g _ _ dp⟩
theorem walk_range {K : PySem.W.Frag} {G : Hp} (a : Int) (n : Nat) : Walk K (rangeL a n) G (Itr a n) := by
  refine ⟨fun i d G2 H2 g gh hd => ?_, fun i G2 H2 g gh hi => ?_⟩
  · unfold rangeL at hd
    rw [List.getElem?_map] at hd
    have hi : i < n := by
      apply Classical.byContradiction
      intro z
      rw [List.getElem?_eq_none (by simp; omega)] at hd
      cases hd
    rw [List.getElem?_range hi] at hd
    cases hd
    refine ⟨hi, fun u H3 y => ?_⟩
    obtain ⟨rfl, rfl⟩ := y
    exact ⟨G2, Ext.refl gh, .int _⟩
  · show n ≤ i
    unfold rangeL at hi
    rw [List.length_map, List.length_range] at hi
    omega
variable {tg : Expr}
theorem pid_list (hl : PE X e (tD (km X) B W F)) : PI X tg e (iD (km X) B W (itemsF F)) := by
  refine (pi_list hl).of ?_
  rintro σ H R ⟨G, ρ, E, S⟩
  refine ⟨G, ρ, E, (Sat.bind S).imp fun d ρ1 s1 v G1 H1 E1 g1 dp1 => ?_⟩
  cases d <;> first | exact s1.elim | skip
  cases dp1 with
  | lst h1 h2 => exact ⟨_, rfl, ⟨_, E1.base.gh.seq h1⟩, s1 _ G1 H1 E1 g1 (walk_list h1 h2)⟩
theorem pid_tup (hl : PE X e (tD (km X) B W F)) : PI X tg e (iD (km X) B W (itemsT F)) := by
  refine (pi_tup hl).of ?_
  rintro σ H R ⟨G, ρ, E, S⟩
  refine ⟨G, ρ, E, (Sat.bind S).imp fun d ρ1 s1 v G1 H1 E1 g1 dp1 => ?_⟩
  cases d <;> first | exact s1.elim | skip
  cases dp1 with
  | tup h1 h2 => exact ⟨_, rfl, ⟨_, seqT_same E1.base.gh h1⟩, s1 _ G1 H1 E1 g1 (walk_tup h1 h2)⟩
theorem pid_range1 {p : Pos} (hm : X.mg "range" = none) (ha : PA X [e] (tDA (km X) B W A)) (hg : Gl X "range" := by rfl) (hs : starEach [e] X.env = [(false, eval e X.env)] := by rfl) : PI X tg (.Call (.Name "range" p) [e] [] pos) (iD (km X) B W (range1F A)) := by
  refine (pi_range1 hg hm ha hs).of ?_
  rintro σ H R ⟨G, ρ, E, S⟩
  refine ⟨G, ρ, E, (Sat.bind S).imp fun ds ρ1 s1 vs G1 H1 E1 g1 dp1 => ?_⟩
  unfold rng1 at s1
  split at s1
  · rename_i j
    cases dp1 with
    | cons a1 a2 =>
      cases a2
      cases a1
      by_cases hj : -(2 ^ 62) ≤ j ∧ j < 2 ^ 62
      · rw [iteC_pos hj] at s1
        exact ⟨j, rfl, hj.1, hj.2, s1 _ G1 H1 E1 g1 (walk_range 0 _)⟩
      · rw [iteC_neg hj] at s1
        exact s1.elim
  · exact s1.elim
section
variable {C : Addr} {bmB : List Value} {BB newId initId : String}
theorem pmk_own0 {x : Str} {p pos : Pos} (F : PySem.ExcBaseFacts BB newId initId bmB) (q : PySem.W.excIn X.K C bmB newId = true) (gC : X.mg x = some (.ref C)) (kC : PySem.W.keepIn X.K (.ref C) = true) (r : Raises X (.ref C)) (hg : Gl X x)
    (hdb : (x == ("__debug__" : Str)) = false := by decide) : PMk X (.Call (.Name x p) [] [] pos) (fun _ H Q => Q (.ref C) none H) := by
  intro pins s σ H Q I h
  refine wpAny_Call_Name_kw (ld_glob I hg gC ?_ hdb)
  refine PySem.W.callWith_K0 I.kIn kC ?_
  show wpAny _ _ (call (.ref C) []) _ _ _
  obtain ⟨bm, N, nm, qn, bs, hdct, sn, sub, ab, col, dd, k0, k1, k2, k3, k5, mN, hC, hN, hni, T⟩ := exc_obj I.kIn q
  refine wpAny_call_exc_subT F T hC hN hni (fun h' e hm => ?_) (by show 0 ≤ sizeLine; exact Nat.zero_le _)
  exact mk_of I hm r h (I.hok.gone hm.new)
theorem pd_raise0 {x : Str} {p p2 : Pos} (hc : X.calm = true) (tk : Takes X W) (F : PySem.ExcBaseFacts BB newId initId bmB) (q : PySem.W.excIn X.K C bmB newId = true) (gC : X.mg x = some (.ref C)) (kC : PySem.W.keepIn X.K (.ref C) = true) (r : Raises X (.ref C)) (hg : Gl X x := by rfl)
    (hdb : (x == ("__debug__" : Str)) = false := by decide) : PS X (.Raise (some (.Call (.Name x p) [] [] p2)) none pos) (tDS (km X) B W (raiseS x)) := by
  refine (ps_raise hc tk (pmk_own0 F q gC kC r hg hdb)).of ?_
  rintro D σ H ⟨G, ρ, E, S⟩
  exact S (.ref C) none σ G H E (Same.refl _) ⟨⟨C, gC, rfl⟩, .inl ⟨rfl, rfl⟩⟩
end
end
def outFR : Out → FR
  | .nx _ => .ok .none
  | .rt d => .ok d
  | .ex e _ => .ex e
  | _ => .bad
def startR (n : Nat) (ds : List PyData) : Rho := ds.map .d ++ List.replicate (n - ds.length) .un
theorem start_env {m : KM} {G H : Hp} {N : List Str} {vs : List V} {ds : List PyData} (gh : Same G H) (dp : DqAll m.K G vs ds) : DEnv m ⟨G, H⟩ G H (L2.start N vs) (startR N.length ds) := by
  have hl := dp.len
  refine ⟨Ext.refl gh, ?_, fun i e h => ?_, fun i j a xs ys h => ?_, fun i j a kvs f h => ?_⟩
  · unfold startR L2.start
    simp [hl]
  · unfold startR at h
    unfold L2.start
    by_cases hi : i < ds.length
    · rw [List.getElem?_append_left (by simpa using hi), List.getElem?_map] at h
      rw [List.getElem?_append_left (by rw [List.length_map, hl]; exact hi), List.getElem?_map]
      cases e1 : ds[i]? with
      | none => rw [e1] at h; cases h
      | some d =>
        rw [e1] at h
        cases h
        obtain ⟨v, hv, q⟩ := dp.get e1
        rw [hv]
        exact .d q
    · rw [List.getElem?_append_right (by simpa using hi), List.getElem?_replicate] at h
      split at h
      · cases h; exact .un
      · cases h
  · unfold startR at h
    by_cases hi : i < ds.length
    · rw [List.getElem?_append_left (by simpa using hi), List.getElem?_map] at h
      cases e1 : ds[i]? with
      | none => rw [e1] at h; cases h
      | some d => rw [e1] at h; cases h
    · rw [List.getElem?_append_right (by simpa using hi), List.getElem?_replicate] at h
      split at h
      · cases h
      · cases h
  · unfold startR at h
    by_cases hi : i < ds.length
    · rw [List.getElem?_append_left (by simpa using hi), List.getElem?_map] at h
      cases e1 : ds[i]? with
      | none => rw [e1] at h; cases h
      | some d => rw [e1] at h; cases h
    · rw [List.getElem?_append_right (by simpa using hi), List.getElem?_replicate] at h
      split at h
      · cases h
      · cases h
section
variable {P : Program} {w : World} {K : PySem.W.Frag} {mg : Str → Option Value} {base : Heap}
theorem fnD {x qual : Str} {st : Stmt} {f : Addr} {fd : FuncData} {N ps : List Str} {k : Nat} (F : Fun K x qual st f fd) (S : FnScope N ps (defScope st)) (Sb : Rho → Out) (fn : Fn)
    (hn : ∀ ds, fn ds ≠ .bad → ds.length = ps.length)
    (hS : ∀ ds, fn ds ≠ .bad → outFR (Sb (startR N.length ds)) = fn ds)
    (hb : ∀ (cdv : Value) (A : Around) (outer : List Env) (s : Shared) (H : Hp) (E : XK) (B : Bx) (W : WX), Room k (A.deeper (envOfC qual (defScope st) s.heap.objs.size f cdv)) →
      Takes (cxOf (L2.CX P w) P w K mg base N qual (defScope st) f cdv A outer s H E) W →
      PassesOwn (model P w) (cxOf (L2.CX P w) P w K mg base N qual (defScope st) f cdv A outer s H E).A (cxOf (L2.CX P w) P w K mg base N qual (defScope st) f cdv A outer s H E).env (cxOf (L2.CX P w) P w K mg base N qual (defScope st) f cdv A outer s H E).xe →
      PSs (cxOf (L2.CX P w) P w K mg base N qual (defScope st) f cdv A outer s H E) (defBody st) (tDS ⟨K, mg, w⟩ B W Sb)) :
    FnOk P w K mg base (L2.CX P w) (k + 1) f fd ps (spD ⟨K, mg, w⟩ fn) := by
  refine F.okX S (fun vs H Q E h => ?_) (fun cdv A outer s H vs Q E hr h => ?_)
  · obtain ⟨G, ds, gh, dp, q⟩ := h
    rw [dp.len]
    refine hn ds fun z => ?_
    rw [z] at q
    exact q
  · obtain ⟨G, ds, gh, dp, q⟩ := h
    have nb : fn ds ≠ .bad := fun z => by rw [z] at q; exact q
    refine ⟨_, hb cdv A outer s H E ⟨G, H⟩ (fun cls d _ H => E cls d H) hr (takes_of rfl rfl rfl rfl) (passes_of rfl), G, startR N.length ds, start_env gh dp, ?_⟩
    have e := hS ds nb
    rw [← e] at q
    cases ho : Sb (startR N.length ds) with
    | nx ρ =>
      rw [ho] at q
      exact fun σ G' H' E' g => q .non G' H' E'.base .non
    | rt d =>
      rw [ho] at q
      exact q
    | ex x ρ =>
      rw [ho] at q
      exact fun cls dd σ G' H' E' g ok => q cls dd G' H' E'.base ok
    | bk ρ => rw [ho] at q; exact q.elim
    | ct ρ => rw [ho] at q; exact q.elim
    | bad => rw [ho] at q; exact q.elim
end
end DL
namespace DL
open PySem PySem.Spec PyProof.Rows L2 RT
section
variable {X : L2.Cx} {B : Bx} {W : WX} {pos : Pos} {a b e : Expr} {es : List Expr} {F F1 F2 : Rho → Res PyData} {A : Rho → Res (List PyData)} {tg : Expr}
noncomputable def repF (A : Rho → Res (List PyData)) (F : Rho → Res PyData) : Rho → Res PyData := fun ρ => (A ρ).bind fun ds ρ => if ds.length ≤ 1000000 then (F ρ).bind fun e ρ => match e with
  | .int k => iteC (0 ≤ k ∧ k ≤ 1000000 ∧ ds.length * k.toNat ≤ 1000000) (.ok (.list (List.replicate k.toNat ds).flatten) ρ) .bad
  | _ => .bad
  else .bad
theorem DqAll.rep {K : PySem.W.Frag} {G : Hp} {vs : List V} {ds : List PyData} (h : DqAll K G vs ds) : ∀ n : Nat, DqAll K G (List.replicate n vs).flatten (List.replicate n ds).flatten
  | 0 => .nil
  | n + 1 => by
    rw [List.replicate_succ, List.replicate_succ, List.flatten_cons, List.flatten_cons]
    exact h.append (DqAll.rep h n)
theorem pd_rep {p1 : Pos} (ha : PA X es (tDA (km X) B W A)) (hb : PE X b (tD (km X) B W F)) : PE X (.BinOp (.List es p1) .Mult b pos) (tD (km X) B W (repF A F)) := by
  refine (pe_op op_rep (pe_lst ha) hb).of ?_
  rintro σ H Q ⟨G, ρ, E, S⟩
  refine ⟨G, ρ, E, (Sat.bind S).imp fun ds ρ1 s1 vs G1 H1 E1 g1 dp1 => ?_⟩
  have small : ∀ n : Nat, n ≤ 1000000 → n ≤ sizeLine := fun n h => by rw [sizeLine_eq]; omega
  by_cases hl : ds.length ≤ 1000000
  · rw [if_pos hl] at s1
    refine ⟨by rw [dp1.len]; exact small _ hl, fun p hp => ?_⟩
    have ex := Ext.new (o := .lst vs) E1.base.gh hp
    refine ⟨upd G1 p (.lst vs), ρ1, E1.ext ex, ((Sat.bind s1).up (g1.trans ex.g)).imp fun e ρ2 s2 u G2 H2 E2 g2 dp2 => ?_⟩
    cases e <;> first | exact s2.elim | skip
    rename_i k
    by_cases hk : 0 ≤ k ∧ k ≤ 1000000 ∧ ds.length * k.toNat ≤ 1000000
    · have s3 := s2
      dsimp only at s3
      rw [iteC_pos hk] at s3
      cases dp2
      have e1 : G2 p = some (.lst vs) := g2 _ _ upd_same
      refine ⟨p, k, vs, rfl, rfl, E2.base.gh _ _ e1, by omega, by omega, by rw [dp1.len]; exact small _ hk.2.2, fun r hr => ?_⟩
      have ex2 := Ext.new (o := .lst (List.replicate k.toNat vs).flatten) E2.base.gh hr
      exact s3 _ _ _ (E2.ext ex2) (g1.trans (ex.g.trans (g2.trans ex2.g))) (.lst (SqL.of upd_same) (dpAll_same (ex.g.trans (g2.trans ex2.g)) _ _ (DqAll.rep dp1 _)))
    · have s3 := s2
      dsimp only at s3
      rw [iteC_neg hk] at s3
      exact s3.elim
  · rw [if_neg hl] at s1
    exact s1.elim
abbrev Po := Rho → Res (Option Int)
def noP : Po := fun ρ => .ok none ρ
def someP (F : Rho → Res PyData) : Po := fun ρ => (F ρ).bind fun d ρ => match d with
  | .int i => .ok (some i) ρ
  | _ => .bad
def cutD (xs : List PyData) (lo hi : Option Int) : List PyData := (xs.drop (HT.sIx xs.length 0 lo)).take (HT.sIx xs.length xs.length hi - HT.sIx xs.length 0 lo)
def dCut (d : PyData) (lo hi : Option Int) : Option PyData := match d with
  | .list xs => some (.list (cutD xs lo hi))
  | .tuple xs => some (.tuple (cutD xs lo hi))
  | .str z => if z.length ≤ sizeLine then some (.str (cutS z lo hi)) else none
  | _ => none
def cutF (F : Rho → Res PyData) (L U : Po) : Rho → Res PyData := fun ρ => (F ρ).bind fun d ρ => (L ρ).bind fun l ρ => (U ρ).bind fun u ρ => optR (dCut d l u) ρ
def charsD (x : Str) : List PyData := x.cps.toList.map fun c => .str ⟨#[c]⟩
def itemsQ (F : Rho → Res PyData) : Rho → Res (List PyData) := fun ρ => (F ρ).bind fun d ρ => match d with
  | .list ds => .ok ds ρ
  | .tuple ds => .ok ds ρ
  | .str x => .ok (charsD x) ρ
  | _ => .bad
theorem walk_str {K : PySem.W.Frag} {G : Hp} (x : Str) : Walk K (charsD x) G (Its x) := by
  refine ⟨fun i d G2 H2 g gh hd => ?_, fun i G2 H2 g gh hi => ?_⟩
  · unfold charsD at hd
    rw [List.getElem?_map] at hd
    cases hc : x.cps.toList[i]? with
    | none => rw [hc] at hd; cases hd
    | some c =>
      rw [hc] at hd
      cases hd
      have hc' : x.cps[i]? = some c := by rw [← Array.getElem?_toList]; exact hc
      have hl : i < x.cps.size := by
        have := (List.getElem?_eq_some_iff.mp hc).1
        simpa using this
      refine ⟨hl, fun u H3 y => ?_⟩
      obtain ⟨rfl, c2, h2, rfl⟩ := y
      rw [hc'] at h2
      cases h2
      exact ⟨G2, Ext.refl gh, .str _⟩
  · show x.cps.size ≤ i
    rw [hi]
    unfold charsD
    simp
theorem pid_seq (hl : PE X e (tD (km X) B W F)) : PI X tg e (iD (km X) B W (itemsQ F)) := by
  refine ⟨fun pins s σ H R I h => ?_⟩
  obtain ⟨G, ρ, E, S⟩ := h
  unfold itemsQ at S
  cases hF : F ρ with
  | bad => rw [hF] at S; exact S.elim
  | ex x ρ1 =>
    rw [hF] at S
    refine (pid_list hl).run pins s σ H R I ⟨G, ρ, E, ?_⟩
    unfold itemsF
    rw [hF]
    exact S
  | ok d ρ1 =>
    rw [hF] at S
    cases d <;> first | exact S.elim | skip
    · rename_i x
      refine (pi_str hl).run pins s σ H R I ⟨G, ρ, E, ?_⟩
      rw [hF]
      intro v G' H' E' g' dp
      cases dp
      exact ⟨_, rfl, S _ G' H' E' g' (walk_str x)⟩
    · refine (pid_list hl).run pins s σ H R I ⟨G, ρ, E, ?_⟩
      unfold itemsF
      rw [hF]
      exact S
    · refine (pid_tup hl).run pins s σ H R I ⟨G, ρ, E, ?_⟩
      unfold itemsT
      rw [hF]
      exact S
end
end DL
namespace DL
open PySem PySem.Spec PyProof.Rows L2 RT
def frzE : Ent → Ent
  | .own xs => .d (.list xs)
  | e => e
def frz (ρ : Rho) : Rho := ρ.map frzE
def roE : Ent → Ent
  | .dct kvs => .rdd kvs
  | .ndc _ => .un
  | e => e
def blkR (ρ : Rho) : Rho := (frz ρ).map roE
def wipeR (ρ : Rho) : List Nat → Rho
  | [] => ρ
  | v :: vs => (wipeR ρ vs).set v .un
def noOwn (ρ : Rho) : Prop := ∀ (i : Nat) (xs : List PyData), ρ[i]? ≠ some (.own xs)
theorem frz_noOwn (ρ : Rho) : noOwn (frz ρ) := fun i xs h => by
  unfold frz at h
  rw [List.getElem?_map] at h
  cases e : ρ[i]? with
  | none => rw [e] at h; cases h
  | some z => rw [e] at h; cases z <;> cases h
section
variable {m : KM} {B : Bx} {G H G' H' : Hp} {σ : L2.St} {ρ : Rho}
theorem DEnv.frzUp (E : DEnv m B G H σ ρ) : ∀ k : Nat, k ≤ ρ.length → ∃ Gf, Same G Gf ∧ DEnv m B Gf H σ ((ρ.take k).map frzE ++ ρ.drop k)
  | 0, _ => ⟨G, Same.refl _, by simpa using E⟩
  | k + 1, hk => by
    obtain ⟨Gf, sf, Ef⟩ := E.frzUp k (by omega)
    have hk' : k < ρ.length := by omega
    have hl : ((ρ.take k).map frzE).length = k := by rw [List.length_map, List.length_take]; omega
    have hd : ρ.drop k = ρ[k] :: ρ.drop (k + 1) := List.drop_eq_getElem_cons hk'
    have ht : (ρ.take (k + 1)).map frzE = (ρ.take k).map frzE ++ [frzE ρ[k]] := by
      rw [List.take_succ_eq_append_getElem hk', List.map_append]
      rfl
    rw [ht, List.append_assoc, List.singleton_append]
    rw [hd] at Ef
    generalize hz : ρ[k] = z at Ef ⊢
    cases z with
    | un => exact ⟨Gf, sf, Ef⟩
    | d x => exact ⟨Gf, sf, Ef⟩
    | dct x => exact ⟨Gf, sf, Ef⟩
    | rdd x => exact ⟨Gf, sf, Ef⟩
    | ndc x => exact ⟨Gf, sf, Ef⟩
    | own xs =>
      have hk2 : ((ρ.take k).map frzE ++ Ent.own xs :: ρ.drop (k + 1))[k]? = some (.own xs) := by
        rw [List.getElem?_append_right (by omega), hl, Nat.sub_self]
        rfl
      obtain ⟨a, vs, h1, h2, h3, h4, h5, h6, h7⟩ := Ef.freeze hk2
      refine ⟨_, sf.trans h5, ?_⟩
      have e : ((ρ.take k).map frzE ++ Ent.own xs :: ρ.drop (k + 1)).set k (.d (.list xs)) = (ρ.take k).map frzE ++ frzE (.own xs) :: ρ.drop (k + 1) := by
        rw [List.set_append_right _ _ (by omega), hl, Nat.sub_self]
        rfl
      rw [← e]
      exact h7
theorem DEnv.frz (E : DEnv m B G H σ ρ) : ∃ Gf, Same G Gf ∧ DEnv m B Gf H σ (DL.frz ρ) := by
  obtain ⟨Gf, sf, Ef⟩ := E.frzUp ρ.length (Nat.le_refl _)
  rw [List.take_length, List.drop_length, List.append_nil] at Ef
  exact ⟨Gf, sf, Ef⟩
theorem ro_get {i : Nat} {e : Ent} (h : (ρ.map roE)[i]? = some e) : ∃ e', ρ[i]? = some e' ∧ e = roE e' := by
  rw [List.getElem?_map] at h
  cases q : ρ[i]? with
  | none => rw [q] at h; cases h
  | some z => rw [q] at h; cases h; exact ⟨z, rfl, rfl⟩
theorem DEnv.anew (E : DEnv m B G H σ ρ) (n : noOwn ρ) (g : Same G G') (h' : Same H H') (gh : Same G' H') : DEnv m ⟨G', H'⟩ G' H' σ (ρ.map roE) := by
  have no : ∀ (i : Nat) (xs : List PyData), (ρ.map roE)[i]? ≠ some (.own xs) := fun i xs h => by
    obtain ⟨e', h1, h2⟩ := ro_get h
    cases e' <;> first | (cases h2; done) | (cases h2; exact n i _ h1)
  refine ⟨Ext.refl gh, by rw [List.length_map]; exact E.len, fun i e h => ?_, fun i j a xs ys h => absurd h (no i xs), fun i j a kvs f h => ?_⟩
  · obtain ⟨e', h1, rfl⟩ := ro_get h
    have q := E.ent i e' h1
    generalize hs : σ[i]? = o at q
    cases q with
    | un => exact .un
    | d z => exact .d (dp_same g _ _ z)
    | own z1 z2 z3 z4 => exact absurd h1 (n i _)
    | dct z1 z2 z3 z4 => exact .rdd (h' _ _ z1) (dk_same g z4)
    | rdd z1 z4 => exact .rdd (h' _ _ z1) (dk_same g z4)
    | ndc _ _ _ _ => exact .un
  · obtain ⟨e', h1, h2⟩ := ro_get h
    cases e' <;> cases h2
theorem DEnv.frzNew {D : Addr} {o : List V} (E : DEnv m B G H σ ρ) (n : noOwn ρ) (hG : G D = none) (hH : H D = some (.lst o)) (hB : B.H D = none) : DEnv m B (upd G D (.lst o)) H σ ρ := by
  have sg : Same G (upd G D (.lst o)) := upd_same_of hG
  refine ⟨⟨E.base.g.trans sg, E.base.h, fun b u e => ?_, fun b h1 h2 => ?_⟩, E.len, fun i e h => ?_, fun i j a xs ys h => absurd h (n i xs), E.disD⟩
  · by_cases hb : b = D
    · subst hb; rw [upd_same] at e; cases e; exact hH
    · rw [upd_ne hb] at e; exact E.base.gh _ _ e
  · rw [upd_ne (fun z => h1 (by rw [z]; exact hB))]
    exact E.base.cap b h1 h2
  · have q := E.ent i e h
    generalize hs : σ[i]? = o2 at q
    cases q with
    | un => exact .un
    | d z => exact .d (dp_same sg _ _ z)
    | own z1 z2 z3 z4 => exact absurd h (n i _)
    | dct z1 z2 z3 z4 =>
      refine .dct z1 ?_ z3 (dk_same sg z4)
      rw [upd_ne (ne_of z1 hH fun z => nomatch z)]
      exact z2
    | rdd z1 z4 => exact .rdd z1 (dk_same sg z4)
    | ndc z1 z2 z3 z4 =>
      refine .ndc z1 ?_ z3 (ndk_same sg z4)
      rw [upd_ne (ne_of z1 hH fun z => nomatch z)]
      exact z2
theorem DEnv.wipe (E : DEnv m B G H σ ρ) : ∀ (vs : List Nat), (∀ v ∈ vs, v < ρ.length) → DEnv m B G H (L2.wipe σ vs) (wipeR ρ vs) ∧ (wipeR ρ vs).length = ρ.length
  | [], _ => ⟨E, rfl⟩
  | v :: vs, h => by
    obtain ⟨h1, h2⟩ := E.wipe vs fun x hx => h x (List.mem_cons_of_mem _ hx)
    refine ⟨h1.drop (by rw [h2]; exact h v List.mem_cons_self), ?_⟩
    show ((wipeR ρ vs).set v .un).length = _
    rw [List.length_set]
    exact h2
end
def gW (m : KM) (vs : List Nat) (T : Tg) : TG := fun v σ H Q => ∃ B G ρ d ρ', DEnv m B G H σ ρ ∧ Dq m.K G v d ∧ T d ρ = some ρ' ∧ ∀ σ', DEnv m B G H σ' ρ' → L2.wipe σ' vs = L2.wipe σ vs → Q σ' H
def gWs (m : KM) (vs : List Nat) (U : Tgs) : TGs := fun xs σ H Q => ∃ B G ρ ds ρ', DEnv m B G H σ ρ ∧ DqAll m.K G xs ds ∧ U ds ρ = some ρ' ∧ ∀ σ', DEnv m B G H σ' ρ' → L2.wipe σ' vs = L2.wipe σ vs → Q σ' H
theorem wipe_set {σ : L2.St} {i : Nat} {x : Option V} : ∀ {vs : List Nat}, i ∈ vs → L2.wipe (σ.set i x) vs = L2.wipe σ vs
  | v :: vs, h => by
    unfold L2.wipe
    by_cases hi : i ∈ vs
    · rw [wipe_set hi]
    · have e : i = v := by
        rcases List.mem_cons.mp h with z | z
        · exact z
        · exact absurd z hi
      subst e
      have q : ∀ {ws : List Nat}, i ∉ ws → L2.wipe (σ.set i x) ws = (L2.wipe σ ws).set i x := by
        intro ws
        induction ws with
        | nil => intro _; rfl
        | cons w ws ih =>
          intro hn
          unfold L2.wipe
          rw [ih fun z => hn (List.mem_cons_of_mem _ z)]
          rw [List.set_comm _ _ (fun z => hn (by rw [z]; exact List.mem_cons_self))]
      rw [q hi, List.set_set]
  | [], h => absurd h (by simp)
theorem wipe_get {τ : L2.St} {i : Nat} : ∀ {vs : List Nat}, (L2.wipe τ vs)[i]? = if i ∈ vs then (τ[i]?).map (fun _ => none) else τ[i]?
  | [] => by simp [L2.wipe]
  | v :: vs => by
    unfold L2.wipe
    by_cases hi : v = i
    · subst hi
      rw [if_pos List.mem_cons_self]
      by_cases hl : v < τ.length
      · rw [List.getElem?_set_self (by rw [L2.wipe_length]; exact hl), List.getElem?_eq_getElem hl]
        rfl
      · rw [List.getElem?_eq_none (by rw [List.length_set, L2.wipe_length]; omega), List.getElem?_eq_none (by omega)]
        rfl
    · rw [List.getElem?_set_ne hi, wipe_get (vs := vs)]
      by_cases h : i ∈ vs
      · rw [if_pos h, if_pos (List.mem_cons_of_mem _ h)]
      · rw [if_neg h, if_neg]
        intro z
        rcases List.mem_cons.mp z with z | z
        · exact hi z.symm
        · exact h z
theorem wipe_idem {τ : L2.St} {vs : List Nat} : L2.wipe (L2.wipe τ vs) vs = L2.wipe τ vs := by
  apply List.ext_getElem?
  intro i
  rw [wipe_get, wipe_get]
  by_cases h : i ∈ vs
  · rw [if_pos h, if_pos h]
    cases τ[i]? <;> rfl
  · rw [if_neg h]
section
variable {X : L2.Cx} {B : Bx} {W : WX} {pos : Pos} {vs : List Nat}
theorem pgw_name (i : Nat) {x : Str} (hN : X.N.Nodup) (hv : i ∈ vs := by decide) (hi : X.N[i]? = some x := by rfl) (hx : Loc X.env.scope x := by first | exact Or.inl rfl | exact Or.inr rfl) (hf : X.fn x = true ∨ X.env.scope.names.lookup x = some .local := by first | exact .inl rfl | exact .inr rfl | assumption) : PG X (.Name x pos) (gW (km X) vs (nameT i)) := by
  refine (pg_name hN hi hx hf).of ?_
  rintro v σ H Q ⟨B, G, ρ, d, ρ', E, dp, hT, q⟩
  obtain ⟨hl, rfl⟩ := of_if hT
  exact q _ (E.put hl dp) (wipe_set hv)
theorem pgws_nil : PGs X [] (gWs (km X) vs nilTs) := by
  refine pgs_nil.of ?_
  rintro xs σ H Q ⟨B, G, ρ, ds, ρ', E, dp, hT, q⟩
  cases dp with
  | nil => cases hT; exact ⟨rfl, q _ E rfl⟩
  | cons _ _ => cases hT
theorem pgws_cons {e : Expr} {es : List Expr} {T : Tg} {U : Tgs} (h1 : PG X e (gW (km X) vs T)) (h2 : PGs X es (gWs (km X) vs U))
    (hs : (assignEach (e :: es) X.env).map (·.2) = assign e X.env :: (assignEach es X.env).map (·.2) := by rfl) : PGs X (e :: es) (gWs (km X) vs (consTs T U)) := by
  refine (pgs_cons h1 h2 hs).of ?_
  rintro xs σ H Q ⟨B, G, ρ, ds, ρ', E, dp, hT, q⟩
  cases dp with
  | nil => cases hT
  | cons d1 d2 =>
    rename_i v vs' d ds
    cases e1 : T d ρ with
    | none => unfold consTs at hT; dsimp only at hT; rw [e1] at hT; cases hT
    | some ρ1 =>
      unfold consTs at hT; dsimp only at hT; rw [e1] at hT
      exact ⟨v, vs', rfl, B, G, ρ, d, ρ1, E, d1, e1, fun σ1 E1 w1 => ⟨B, G, ρ1, ds, ρ', E1, d2, hT, fun σ2 E2 w2 => q σ2 E2 (w2.trans w1)⟩⟩
theorem pgw_tup {es : List Expr} {k n : Nat} {U : Tgs} (hc : X.calm = true) (h : PGs X es (gWs (km X) vs U))
    (hn : (assignEach es X.env).length = n := by rfl) (hst : (assignEach es X.env).findIdx? (·.1) = none := by rfl) : PG X (.Tuple es k pos) (gW (km X) vs (tupT n U)) := by
  refine (pg_tup hc h hn hst).of ?_
  rintro v σ H Q ⟨B, G, ρ, d, ρ', E, dp, hT, q⟩
  cases d <;> first | (cases hT; done) | skip
  obtain ⟨hl, hT⟩ := of_ifo hT
  cases dp with
  | tup h1 h2 => exact ⟨_, _, rfl, seqT_same E.base.gh h1, by rw [h2.len]; exact hl, B, G, ρ, _, ρ', E, h2, hT, q⟩
def compL (T : Tg) (Tt : Rho → Res Bool) (F : Rho → Res PyData) (ρ : Rho) : List PyData → List PyData → Option (List PyData)
  | [], acc => some acc
  | d :: ds, acc => match T d ρ with
    | none => none
    | some ρ2 => match Tt ρ2 with
      | .ok false _ => compL T Tt F ρ ds acc
      | .ok true ρ3 => match F ρ3 with
        | .ok y _ => if acc.length < sizeLine then compL T Tt F ρ ds (acc ++ [y]) else none
        | _ => none
      | _ => none
def yesT : Rho → Res Bool := fun ρ => .ok true ρ
def lcF (vs : List Nat) (Fi : Rho → Res (List PyData)) (T : Tg) (Tt : Rho → Res Bool) (F : Rho → Res PyData) : Rho → Res PyData := fun ρ => (Fi ρ).bind fun ds ρ1 =>
  if (∀ v ∈ vs, v < ρ1.length) then (match compL T Tt F (wipeR (blkR ρ1) vs) ds [] with
    | some r => .ok (.list r) (frz ρ1)
    | none => .bad) else .bad
def exT (m : KM) (F : Rho → Res Bool) : TT := fun σ H Q => ∃ B, tDT m B (fun _ _ _ _ => False) F σ H Q
def exE (m : KM) (F : Rho → Res PyData) : TE := fun σ H Q => ∃ B, tD m B (fun _ _ _ _ => False) F σ H Q
theorem pts_nilD : PTs X [] (exT (km X) yesT) := ⟨fun pins s σ H Q I ⟨B, G, ρ, E, S⟩ => pts_nil.run pins s σ H Q I (S G H E (Same.refl _))⟩
theorem pts_oneD {c : Expr} {F : Rho → Res Bool} (h : ∀ B, PT X c (tDT (km X) B (fun _ _ _ _ => False) F)) : PTs X [c] (exT (km X) F) := ⟨fun pins s σ H Q I ⟨B, q⟩ => (pts_one (h B)).run pins s σ H Q I q⟩
theorem pe_ex {e : Expr} {F : Rho → Res PyData} (h : ∀ B, PE X e (tD (km X) B (fun _ _ _ _ => False) F)) : PE X e (exE (km X) F) := ⟨fun pins s σ H Q I ⟨B, q⟩ => (h B).run pins s σ H Q I q⟩
theorem t_lc {Fi : Rho → Res (List PyData)} {T : Tg} {Tt : Rho → Res Bool} {F : Rho → Res PyData} {σ : L2.St} {H G : Hp} {ρ : Rho} {Q : VK} (E : DEnv (km X) B G H σ ρ) (S : Sat (km X) B W G σ (Fi ρ) fun ds ρ1 => (∀ v ∈ vs, v < ρ1.length) ∧ ∃ r, compL T Tt F (wipeR (blkR ρ1) vs) ds [] = some r ∧
      ∀ D accV G' H', DEnv (km X) B G' H' σ (frz ρ1) → Same G G' → H' D = some (.lst accV) → G' D = none → B.H D = none → DqAll X.K G' accV r → Q (.ref D) H') :
    tLc (iD (km X) B W Fi) (gW (km X) vs T) (exT (km X) Tt) (exE (km X) F) vs σ H Q := by
  refine ⟨G, ρ, E, S.imp fun ds ρ1 s1 J G1 H1 E1 g1 wk D hD => ?_⟩
  obtain ⟨hv, r, hr, q⟩ := s1
  obtain ⟨Gf, sf, Ef⟩ := E1.frz
  have no := frz_noOwn ρ1
  have hD0 : B.H D = none := E1.base.h.free hD
  refine ⟨fun i m H => m = ds.length - i ∧ i ≤ ds.length ∧ ∃ G acc accV, Ext Gf H1 G H ∧ H D = some (.lst accV) ∧ G D = none ∧ DqAll X.K G accV acc ∧ compL T Tt F (wipeR (blkR ρ1) vs) (ds.drop i) acc = some r,
    ⟨_, rfl, Nat.zero_le _, Gf, [], [], Ext.newOwn Ef.base.gh hD, upd_same, Ef.base.gh.free hD, .nil, hr⟩, ?_⟩
  rintro i m H2 ⟨rfl, hi, G2, acc, accV, x2, hH, hG, da, hc⟩
  by_cases hl : i < ds.length
  · have hd : ds[i]? = some ds[i] := List.getElem?_eq_getElem hl
    obtain ⟨w1, w2⟩ := wk.go i _ G2 H2 (sf.trans x2.g) x2.gh hd
    refine .inr ⟨w1, fun H' => ∃ G acc accV, Ext Gf H1 G H' ∧ H' D = some (.lst accV) ∧ G D = none ∧ DqAll X.K G accV acc ∧ compL T Tt F (wipeR (blkR ρ1) vs) (ds.drop (i + 1)) acc = some r, fun H' n => ⟨ds.length - (i + 1), by omega, rfl, hl, n⟩, fun v H3 y => ?_⟩
    obtain ⟨G3, x3, dp⟩ := w2 v H3 y
    have hH3 : H3 D = some (.lst accV) := x3.h _ _ hH
    have hG3 : G3 D = none := x3.cap D (by rw [hH]; exact fun z => nomatch z) hG
    have E3 : DEnv (km X) ⟨G3, H3⟩ G3 H3 σ (blkR ρ1) := Ef.anew no (x2.g.trans x3.g) (x2.h.trans x3.h) x3.gh
    have E3w := (E3.wipe vs (by unfold blkR frz; rw [List.length_map, List.length_map]; exact hv)).1
    rw [List.drop_eq_getElem_cons hl] at hc
    unfold compL at hc
    cases hT : T ds[i] (wipeR (blkR ρ1) vs) with
    | none => rw [hT] at hc; cases hc
    | some ρ2 =>
      rw [hT] at hc
      dsimp only at hc
      refine ⟨⟨G3, H3⟩, G3, _, ds[i], ρ2, E3w, dp, hT, fun σ2 E2 w => ⟨?_, ?_⟩⟩
      · exact w.trans wipe_idem
      · refine ⟨⟨G3, H3⟩, G3, ρ2, E2, ?_⟩
        cases hTt : Tt ρ2 with
        | bad => rw [hTt] at hc; cases hc
        | ex x ρ3 => rw [hTt] at hc; cases hc
        | ok b ρ3 =>
          rw [hTt] at hc
          intro G4 H4 E4 g4
          have x4 : Ext G3 H3 G4 H4 := E4.base
          cases b with
          | false =>
            rw [if_neg (by decide)]
            exact ⟨G4, acc, accV, x2.trans (x3.trans x4), x4.h _ _ hH3, x4.cap D (by rw [hH3]; exact fun z => nomatch z) hG3, dpAll_same (x3.g.trans x4.g) _ _ da, hc⟩
          | true =>
            rw [if_pos rfl]
            dsimp only at hc
            refine ⟨⟨G3, H3⟩, G4, ρ3, E4, ?_⟩
            cases hF : F ρ3 with
            | bad => rw [hF] at hc; cases hc
            | ex x ρ4 => rw [hF] at hc; cases hc
            | ok y ρ4 =>
              rw [hF] at hc
              intro u G5 H5 E5 g5 dp5
              dsimp only at hc
              have x5 : Ext G3 H3 G5 H5 := E5.base
              have hH5 : H5 D = some (.lst accV) := x5.h _ _ hH3
              have hG5 : G5 D = none := x5.cap D (by rw [hH3]; exact fun z => nomatch z) hG3
              have x : Ext Gf H1 G5 H5 := x2.trans (x3.trans x5)
              by_cases hlen : acc.length < sizeLine
              · rw [if_pos hlen] at hc
                refine ⟨accV, hH5, by rw [da.len]; exact hlen, G5, acc ++ [y], accV ++ [u], ⟨x.g, fun b o e => ?_, fun b o e => ?_, x.cap⟩, upd_same, hG5, (dpAll_same (x3.g.trans x5.g) _ _ da).append (.cons dp5 .nil), hc⟩
                · rw [upd_ne (ne_of_none e hD)]
                  exact x.h _ _ e
                · rw [upd_ne (ne_of_none e hG5)]
                  exact x.gh _ _ e
              · rw [if_neg hlen] at hc
                cases hc
  · have hi' : i = ds.length := by omega
    subst hi'
    rw [List.drop_length] at hc
    unfold compL at hc
    cases hc
    exact .inl ⟨wk.stop _ G2 H2 (sf.trans x2.g) x2.gh rfl, q D accV G2 H2 (Ef.ext x2) (g1.trans (sf.trans x2.g)) hH hG hD0 da⟩
theorem pd_lc {elt tg iter : Expr} {ifs : List Expr} {scope : Scope} {own : List (Str × Nat)} {Fi : Rho → Res (List PyData)} {T : Tg} {Tt : Rho → Res Bool} {F : Rho → Res PyData} (hc : X.calm = true) (hN : X.N.Nodup) (hi : PI X tg iter (iD (km X) B W Fi)) (ok : BlkOk X.N X.env.scope scope own)
    (hg : ∀ (s : Shared) (H : Hp) (C : Addr) (cl : List (Str × Addr)) (fp : List Addr), PG (X.blk s H scope (compEnvC scope cl C X.env) fp) tg (gW (km X) (own.map (·.2)) T)) (ht : ∀ (s : Shared) (H : Hp) (C : Addr) (cl : List (Str × Addr)) (fp : List Addr), PTs (X.blk s H scope (compEnvC scope cl C X.env) fp) ifs (exT (km X) Tt))
    (he : ∀ (s : Shared) (H : Hp) (C : Addr) (cl : List (Str × Addr)) (fp : List Addr) (B : Bx), PE (X.blk s H scope (compEnvC scope cl C X.env) fp) elt (tD (km X) B (fun _ _ _ _ => False) F)) (hs : ∀ x, foldedSetIterable iter X.env x = pure x := by intro _; rfl) :
    PE X (.ListComp elt [⟨tg, iter, ifs, 0⟩] scope pos) (tD (km X) B W (lcF (own.map (·.2)) Fi T Tt F)) := by
  refine (pe_lc (te := exE (km X) F) hc hN hi ok hg ht (fun s H C cl fp => pe_ex (X := X.blk s H scope (compEnvC scope cl C X.env) fp) (he s H C cl fp)) hs).of ?_
  rintro σ H Q ⟨G, ρ, E, S⟩
  refine t_lc E ((Sat.bind S).imp fun ds ρ1 s1 => ?_)
  by_cases hv : ∀ v ∈ own.map (·.2), v < ρ1.length
  · rw [if_pos hv] at s1
    refine ⟨hv, ?_⟩
    cases hr : compL T Tt F (wipeR (blkR ρ1) (own.map (·.2))) ds [] with
    | none => rw [hr] at s1; exact s1.elim
    | some r =>
      rw [hr] at s1
      refine ⟨r, rfl, fun D accV G' H' E' g' hH hG hB da => ?_⟩
      have sg : Same G' (upd G' D (.lst accV)) := upd_same_of hG
      exact s1 (.ref D) (upd G' D (.lst accV)) H' (E'.frzNew (frz_noOwn ρ1) hG hH hB) (g'.trans sg) (.lst (SqL.of upd_same) (dpAll_same sg _ _ da))
  · rw [if_neg hv] at s1
    exact s1.elim
def lcS (i : Nat) (vs : List Nat) (Fi : Rho → Res (List PyData)) (T : Tg) (Tt : Rho → Res Bool) (F : Rho → Res PyData) : Rho → Out := fun ρ => (Fi ρ).out fun ds ρ1 =>
  if (∀ v ∈ vs, v < ρ1.length) ∧ i < ρ1.length then (match compL T Tt F (wipeR (blkR ρ1) vs) ds [] with
    | some r => .nx ((frz ρ1).set i (.own r))
    | none => .bad) else .bad
theorem pd_setLc (i : Nat) {y : Str} {py spos : Pos} {elt tg iter : Expr} {ifs : List Expr} {scope : Scope} {own : List (Str × Nat)} {Fi : Rho → Res (List PyData)} {T : Tg} {Tt : Rho → Res Bool} {F : Rho → Res PyData} (hc : X.calm = true) (hN : X.N.Nodup) (hsw : swapsWith (.ListComp elt [⟨tg, iter, ifs, 0⟩] scope pos) (some (.Name y py)) spos.line X.env = pure true) (hi : PI X tg iter (iD (km X) B W Fi)) (ok : BlkOk X.N X.env.scope scope own)
    (hg : ∀ (s : Shared) (H : Hp) (C : Addr) (cl : List (Str × Addr)) (fp : List Addr), PG (X.blk s H scope (compEnvC scope cl C X.env) fp) tg (gW (km X) (own.map (·.2)) T)) (ht : ∀ (s : Shared) (H : Hp) (C : Addr) (cl : List (Str × Addr)) (fp : List Addr), PTs (X.blk s H scope (compEnvC scope cl C X.env) fp) ifs (exT (km X) Tt))
    (he : ∀ (s : Shared) (H : Hp) (C : Addr) (cl : List (Str × Addr)) (fp : List Addr) (B : Bx), PE (X.blk s H scope (compEnvC scope cl C X.env) fp) elt (tD (km X) B (fun _ _ _ _ => False) F)) (hy : X.N[i]? = some y := by rfl) (hyl : X.env.scope.names.lookup y = some .local := by rfl) (hs : ∀ x, foldedSetIterable iter X.env x = pure x := by intro _; rfl) :
    PS X (.Assign [.Name y py] (.ListComp elt [⟨tg, iter, ifs, 0⟩] scope pos) spos) (tDS (km X) B W (lcS i (own.map (·.2)) Fi T Tt F)) := by
  refine (ps_setLc (te := exE (km X) F) hc hN hy hyl hsw hi ok hg ht (fun s H C cl fp => pe_ex (X := X.blk s H scope (compEnvC scope cl C X.env) fp) (he s H C cl fp)) hs).of ?_
  rintro D σ H ⟨G, ρ, E, S⟩
  refine t_lc E ((SatS.out S).imp fun ds ρ1 s1 => ?_)
  by_cases hv : (∀ v ∈ own.map (·.2), v < ρ1.length) ∧ i < ρ1.length
  · rw [if_pos hv] at s1
    refine ⟨hv.1, ?_⟩
    cases hr : compL T Tt F (wipeR (blkR ρ1) (own.map (·.2))) ds [] with
    | none => rw [hr] at s1; exact s1.elim
    | some r =>
      rw [hr] at s1
      refine ⟨r, rfl, fun D accV G' H' E' g' hH hG hB da => ?_⟩
      have no := frz_noOwn ρ1
      have hi' : i < (frz ρ1).length := by unfold frz; rw [List.length_map]; exact hv.2
      have his : i < σ.length := by rw [← E'.len]; exact hi'
      refine s1 (σ.set i (some (.ref D))) G' H' ⟨E'.base, by simpa using E'.len, fun j e hj => ?_, fun j k a xs ys hj hk s1 s2 => ?_, E'.disD.set0 rfl fun j hj => List.getElem?_set_ne fun z => hj z.symm⟩ g'
      · by_cases hji : j = i
        · subst hji
          rw [List.getElem?_set_self hi'] at hj
          cases hj
          rw [List.getElem?_set_self his]
          exact .own hH hG hB da
        · rw [List.getElem?_set_ne (fun z => hji z.symm)] at hj ⊢
          exact E'.ent j e hj
      · have only : ∀ (j : Nat) (xs : List PyData), ((frz ρ1).set i (.own r))[j]? = some (.own xs) → j = i := fun j xs h => by
          apply Classical.byContradiction
          intro hji
          rw [List.getElem?_set_ne (fun z => hji z.symm)] at h
          exact no j xs h
        rw [only j xs hj, only k ys hk]
  · rw [if_neg hv] at s1
    exact s1.elim
end
end DL
namespace DL
open PySem PySem.Spec PyProof.Rows L2 RT
section
variable {X : L2.Cx} {B : Bx} {W : WX} {pos : Pos} {a b e : Expr} {F F1 F2 : Rho → Res PyData}
def truth : PyData → Option Bool
  | .none => some false
  | .bool b => some b
  | .int i => some (i != 0)
  | .str x => if x.length ≤ sizeLine then some ((x.length : Int) != 0) else none
  | .list xs => some (!xs.isEmpty)
  | .tuple xs => some (!xs.isEmpty)
  | .dict _ => none
def truF (F : Rho → Res PyData) : Rho → Res Bool := fun ρ => (F ρ).bind fun d ρ => optR (truth d) ρ
theorem empty_dp {K : PySem.W.Frag} {G : Hp} {vs : List V} {ds : List PyData} (h : DqAll K G vs ds) : ds.isEmpty = vs.isEmpty := by
  cases h <;> rfl
theorem pd_tru (h : PE X e (tD (km X) B W F)) (he : ∀ whole, isTrue e X.env whole = (do let v ← whole; standAt e.pos; holding [v] (truthy v)) := by intro _; rfl) : PT X e (tDT (km X) B W (truF F)) := by
  refine (pt_truth h he).of ?_
  rintro σ H Q ⟨G, ρ, E, S⟩
  refine ⟨G, ρ, E, (Sat.bind S).imp fun d ρ1 s1 v G1 H1 E1 g1 dp1 => ?_⟩
  obtain ⟨k, hk, q⟩ := sat_opt s1
  cases d <;> first | (cases hk; done) | skip
  · cases hk; cases dp1; exact ⟨_, rfl, q G1 H1 E1 g1⟩
  · cases hk; cases dp1; exact ⟨_, rfl, q G1 H1 E1 g1⟩
  · cases hk; cases dp1; exact ⟨_, rfl, q G1 H1 E1 g1⟩
  · cases dp1
    obtain ⟨hl, rfl⟩ := of_if hk
    exact ⟨_, ⟨hl, rfl⟩, q G1 H1 E1 g1⟩
  · cases hk
    cases dp1 with
    | lst h1 h2 => exact ⟨_, .inl ⟨_, E1.base.gh.seq h1, by rw [empty_dp h2]⟩, q G1 H1 E1 g1⟩
  · cases hk
    cases dp1 with
    | tup h1 h2 => exact ⟨_, .inr (.inl ⟨_, seqT_same E1.base.gh h1, by rw [empty_dp h2]⟩), q G1 H1 E1 g1⟩
def dIn (d e : PyData) : Option PyData := match e with
  | .list ds => if SeqAt.shaped d = true ∧ SeqAt.shaped (.list ds) = true then some (.bool (ds.any fun z => PyData.eqv z d)) else none
  | _ => none
theorem hu65 {k : Nat} {A : Around} (hr : Room k A) : A.units + 65 < cLine := by have := hr.un; omega
def bTuple : PyData → Option PyData
  | .list xs => some (.tuple xs)
  | .tuple xs => some (.tuple xs)
  | _ => none
def bList : PyData → Option PyData
  | .list xs => some (.list xs)
  | .tuple xs => some (.list xs)
  | _ => none
theorem call_tupleN : CallR X (.type "tuple") (fun xs H Q => ∃ p ys, xs = [.ref p] ∧ ((SqL X.K H p ys ∧ ∀ (l : Addr) (o : Obj), H l = none → o.dict = none → Q (.ref l) (upd H l (.frz o (.tup ys)))) ∨ (SqT X.K H p ys ∧ Q (.ref p) H))) := by
  intro pins s σ H xs us Q I r h
  obtain ⟨p, ys, rfl, h⟩ := h
  rcases h with ⟨hq, q⟩ | ⟨hq, q⟩
  · obtain ⟨u, rfl, rx⟩ := vals1 r
    cases rx
    obtain ⟨its, r', pl, hz⟩ := I.list hq
    have hlen := r'.length
    refine call_tuple_list pl.isList (fun h' kp => ?_) (by simp only [List.size_toArray] <;> omega)
    have I1 : Inv X pins σ H { s with heap := h' } := I.kept (t' := s.toks) kp
    exact ⟨.ref h'.objs.size, _, I1.laid (t' := s.toks) (o := .frz _ (.tup ys)) (fun b o e => Heap.get?_push_of_some _ e) (Nat.le_refl _) ⟨Heap.get?_push_size _ rfl, hz, its, r', IsTup.new _ _⟩, rfl, q _ _ (I1.hok.fresh (Nat.le_refl _)) rfl⟩
  · exact call_tuple_of pins s σ H _ us Q I r ⟨p, ys, rfl, .inr ⟨hq, q⟩⟩
theorem rd_tuple : RDs X.K (fun xs H Q => ∃ p ys, xs = [.ref p] ∧ ((SqL X.K H p ys ∧ ∀ (l : Addr) (o : Obj), H l = none → o.dict = none → Q (.ref l) (upd H l (.frz o (.tup ys)))) ∨ (SqT X.K H p ys ∧ Q (.ref p) H))) (app1 bTuple) := by
  refine rds1 fun G H x d z Q gh h1 hz q => ?_
  cases d <;> first | (cases hz; done) | skip
  · cases hz
    cases h1 with
    | lst a1 a2 => exact ⟨_, _, rfl, .inl ⟨gh.seq a1, fun p o hp ho => q _ _ _ (Ext.new gh hp) (.tup (SqN.of ho upd_same) (dpAll_same (Ext.new gh hp).g _ _ a2))⟩⟩
  · cases hz
    cases h1 with
    | tup a1 a2 => exact ⟨_, _, rfl, .inr ⟨seqT_same gh a1, q _ _ _ (Ext.refl gh) (.tup a1 a2)⟩⟩
theorem rd_list : RDs X.K (fun xs H Q => ∃ p ys, xs = [.ref p] ∧ (SqL X.K H p ys ∨ SqT X.K H p ys) ∧ ∀ l, H l = none → Q (.ref l) (upd H l (.lst ys))) (app1 bList) := by
  refine rds1 fun G H x d z Q gh h1 hz q => ?_
  cases d <;> first | (cases hz; done) | skip
  · cases hz
    cases h1 with
    | lst a1 a2 => exact ⟨_, _, rfl, .inl (gh.seq a1), fun p hp => q _ _ _ (Ext.new gh hp) (.lst (SqL.of upd_same) (dpAll_same (Ext.new gh hp).g _ _ a2))⟩
  · cases hz
    cases h1 with
    | tup a1 a2 => exact ⟨_, _, rfl, .inr (seqT_same gh a1), fun p hp => q _ _ _ (Ext.new gh hp) (.lst (SqL.of upd_same) (dpAll_same (Ext.new gh hp).g _ _ a2))⟩
def leS (x y : Str) : Prop := x.cps.toList ≤ y.cps.toList
instance (x y : Str) : Decidable (leS x y) := inferInstanceAs (Decidable (x.cps.toList ≤ y.cps.toList))
theorem leS_trans {x y z : Str} (h : leS x y) (q : leS y z) : leS x z := List.le_trans h q
theorem leS_total (x y : Str) : leS x y ∨ leS y x := List.le_total _ _
theorem leS_anti {x y : Str} (h : leS x y) (q : leS y x) : x = y := by
  have e : x.cps.toList = y.cps.toList := List.le_antisymm h q
  cases x; cases y
  congr 1
  exact Array.toList_inj.mp e
def insS (x : Str) : List Str → List Str
  | [] => [x]
  | y :: r => if leS x y then x :: y :: r else y :: insS x r
def sortS : List Str → List Str
  | [] => []
  | x :: r => insS x (sortS r)
theorem insS_perm (x : Str) : ∀ l : List Str, (insS x l).Perm (x :: l)
  | [] => List.Perm.refl _
  | y :: r => by
    unfold insS
    split
    · exact List.Perm.refl _
    · exact ((insS_perm x r).cons y).trans (List.Perm.swap x y r)
theorem sortS_perm : ∀ l : List Str, (sortS l).Perm l
  | [] => List.Perm.refl _
  | x :: r => (insS_perm x _).trans ((sortS_perm r).cons x)
theorem insS_sorted (x : Str) : ∀ l : List Str, l.Pairwise leS → (insS x l).Pairwise leS
  | [], _ => by simp [insS]
  | y :: r, h => by
    have hy : ∀ {z : Str}, z ∈ r → leS y z := fun hz => List.rel_of_pairwise_cons h hz
    unfold insS
    split
    · rename_i hx
      refine List.Pairwise.cons (fun z hz => ?_) h
      rcases List.mem_cons.mp hz with rfl | hz
      · exact hx
      · exact leS_trans hx (hy hz)
    · rename_i hx
      have hx' : leS y x := (leS_total y x).resolve_right hx
      refine List.Pairwise.cons (fun z hz => ?_) (insS_sorted x r h.of_cons)
      rcases List.mem_cons.mp ((insS_perm x r).mem_iff.mp hz) with rfl | hz
      · exact hx'
      · exact hy hz
theorem sortS_sorted : ∀ l : List Str, (sortS l).Pairwise leS
  | [] => .nil
  | x :: r => insS_sorted x _ (sortS_sorted r)
theorem sorted_unique : ∀ {xs ys : List Str}, xs.Perm ys → xs.Pairwise leS → ys.Pairwise leS → xs = ys
  | [], ys, p, _, _ => (List.Perm.nil_eq p)
  | x :: xs, [], p, _, _ => by have := p.length_eq; simp at this
  | x :: xs, y :: ys, p, h, q => by
    have e : x = y := by
      have h1 : x ∈ y :: ys := p.mem_iff.mp List.mem_cons_self
      have h2 : y ∈ x :: xs := p.mem_iff.mpr List.mem_cons_self
      rcases List.mem_cons.mp h1 with z | z
      · exact z
      · rcases List.mem_cons.mp h2 with w | w
        · exact w.symm
        · exact leS_anti (List.rel_of_pairwise_cons h w) (List.rel_of_pairwise_cons q z)
    subst e
    rw [sorted_unique (List.Perm.cons_inv p) h.of_cons q.of_cons]
theorem rising_pairwise : ∀ (l : List Str) (p : Str), PyProof.Rows.risingS p l = true → (p :: l).Pairwise leS
  | [], p, _ => by simp
  | x :: r, p, h => by
    have hh : (PySem.Spec.ltCps x.cps.toList p.cps.toList = false) ∧ PyProof.Rows.risingS x r = true := by
      simp only [PyProof.Rows.risingS, Bool.and_eq_true, Bool.not_eq_true'] at h
      exact h
    have le : leS p x := by
      have := hh.1
      rw [ltCps_eq] at this
      exact List.not_lt.mp (of_decide_eq_false this)
    have ih := rising_pairwise r x hh.2
    refine List.Pairwise.cons (fun z hz => ?_) ih
    rcases List.mem_cons.mp hz with rfl | hz
    · exact le
    · exact leS_trans le (List.rel_of_pairwise_cons ih hz)
theorem sortedS_eq {xs ys : List Str} (p : ys.Perm xs) (h : PyProof.Rows.sortedS ys = true) : ys = sortS xs := by
  refine sorted_unique (p.trans (sortS_perm xs).symm) ?_ (sortS_sorted xs)
  cases ys with
  | nil => exact .nil
  | cons y r => exact rising_pairwise r y h
def strsOf : List PyData → Option (List Str)
  | [] => some []
  | .str x :: r => (strsOf r).map (x :: ·)
  | _ => none
theorem strsOf_eq : ∀ {ds : List PyData} {xs : List Str}, strsOf ds = some xs → ds = xs.map PyData.str
  | [], xs, h => by cases h; rfl
  | d :: ds, xs, h => by
    cases d <;> first | (cases h; done) | skip
    rename_i x
    cases e : strsOf ds with
    | none => simp [strsOf, e] at h
    | some zs =>
      simp [strsOf, e] at h
      subst h
      rw [strsOf_eq e]
      rfl
theorem strs_dp {K : PySem.W.Frag} {G : Hp} : ∀ {xs : List Str} {vs : List V}, DqAll K G vs (xs.map PyData.str) → vs = xs.map V.str
  | [], _, h => by cases h; rfl
  | x :: xs, _, h => by
    cases h with
    | cons h1 h2 =>
      cases h1
      rw [strs_dp h2]
      rfl
theorem dp_strs {K : PySem.W.Frag} {G : Hp} : ∀ xs : List Str, DqAll K G (xs.map V.str) (xs.map PyData.str)
  | [] => .nil
  | x :: xs => .cons (.str x) (dp_strs xs)
def bSorted : PyData → Option PyData
  | .list ds => match strsOf ds with
    | some xs => if xs.length < 64 then some (.list ((sortS xs).map PyData.str)) else none
    | none => none
  | _ => none
theorem rd_sorted : RDs X.K (rSortedS X.K) (app1 bSorted) := by
  refine rds1 fun G H x d z Q gh h1 hz q => ?_
  cases d <;> first | (cases hz; done) | skip
  rename_i ds
  unfold bSorted at hz
  dsimp only at hz
  cases e : strsOf ds with
  | none => rw [e] at hz; cases hz
  | some xs =>
    rw [e] at hz
    obtain ⟨hl, rfl⟩ := of_if hz
    have e2 := strsOf_eq e
    subst e2
    cases h1 with
    | lst a1 a2 =>
      have ev := strs_dp a2
      subst ev
      refine ⟨_, xs, rfl, gh.seq a1, hl, fun ys p hp hs hn => ?_⟩
      rw [sortedS_eq hp hs]
      exact q _ _ _ (Ext.new gh hn) (.lst (SqL.of upd_same) (dpAll_same (Ext.new gh hn).g _ _ (dp_strs _)))
end
end DL
namespace DL
open PySem PySem.Spec PyProof.Rows L2 RT
def keyOf : PyData → Option Key
  | .int i => some (.inl i)
  | .str x => some (.inr x)
  | _ => none
def valD (kvs : List (Key × PyData)) (k : Key) : Option PyData := (kvs.find? fun kv => decide (kv.1 = k)).map (·.2)
def putD (kvs : List (Key × PyData)) (k : Key) (v : PyData) : List (Key × PyData) :=
  if (kvs.any fun kv => decide (kv.1 = k)) = true then kvs.map (fun kv => if kv.1 = k then (kv.1, v) else kv) else kvs ++ [(k, v)]
theorem key_dp {K : PySem.W.Frag} {G : Hp} {v : V} {d : PyData} {k : Key} (h : Dq K G v d) (e : keyOf d = some k) : v = kV k := by
  cases d <;> first | (cases e; done) | skip
  · cases e; cases h; rfl
  · cases e; cases h; rfl
section
variable {K : PySem.W.Frag} {G : Hp}
theorem kd_val {vs : List (Key × V)} {kvs : List (Key × PyData)} (r : DK K G vs kvs) (k : Key) : match valD kvs k with
    | some d => ∃ v, valV vs k = some v ∧ Dq K G v d
    | none => valV vs k = none := by
  induction r with
  | nil => exact rfl
  | @cons p q ps qs h t ih =>
    obtain ⟨h1, h2⟩ := h
    by_cases e : p.1 = k
    · have e' : q.1 = k := h1.symm.trans e
      have b : valD (q :: qs) k = some q.2 := by simp [valD, List.find?_cons, e']
      rw [b]
      exact ⟨p.2, valV_pos e, h2⟩
    · have e' : ¬ q.1 = k := fun z => e (h1.trans z)
      have b : valD (q :: qs) k = valD qs k := by simp [valD, List.find?_cons, e']
      rw [b, valV_neg e]
      exact ih
theorem kd_any {vs : List (Key × V)} {kvs : List (Key × PyData)} (r : DK K G vs kvs) (k : Key) : (vs.any fun kv => decide (kv.1 = k)) = kvs.any fun kv => decide (kv.1 = k) := by
  induction r with
  | nil => rfl
  | cons h t ih => rw [List.any_cons, List.any_cons, ih, h.1]
theorem kd_len {vs : List (Key × V)} {kvs : List (Key × PyData)} (r : DK K G vs kvs) : vs.length = kvs.length := Paired.length r
theorem kd_keys {vs : List (Key × V)} {kvs : List (Key × PyData)} (r : DK K G vs kvs) : vs.map (·.1) = kvs.map (·.1) := by
  induction r with
  | nil => rfl
  | cons h t ih => rw [List.map_cons, List.map_cons, ih, h.1]
theorem kd_repl {vs : List (Key × V)} {kvs : List (Key × PyData)} (r : DK K G vs kvs) (k : Key) {y : V} {u : PyData} (ry : Dq K G y u) :
    DK K G (vs.map fun kv => if kv.1 = k then (kv.1, y) else kv) (kvs.map fun kv => if kv.1 = k then (kv.1, u) else kv) := by
  induction r with
  | nil => exact .nil
  | @cons p q ps qs h t ih =>
    rw [List.map_cons, List.map_cons]
    refine .cons ?_ ih
    obtain ⟨h1, h2⟩ := h
    by_cases e : p.1 = k
    · rw [if_pos e, if_pos (h1.symm.trans e)]; exact ⟨h1, ry⟩
    · rw [if_neg e, if_neg (fun z => e (h1.trans z))]; exact ⟨h1, h2⟩
theorem kd_put {vs : List (Key × V)} {kvs : List (Key × PyData)} (r : DK K G vs kvs) (k : Key) {y : V} {u : PyData} (ry : Dq K G y u) : DK K G (putK vs k y) (putD kvs k u) := by
  unfold putK putD
  rw [kd_any r k]
  by_cases e : (kvs.any fun kv => decide (kv.1 = k)) = true
  · rw [if_pos e, if_pos e]; exact kd_repl r k ry
  · rw [if_neg e, if_neg e]; exact Paired.snoc r ⟨rfl, ry⟩
end
def dEnt : Option Ent → Option (List (Key × PyData))
  | some (.dct kvs) => some kvs
  | some (.rdd kvs) => some kvs
  | _ => none
def isDct : Option Ent → Bool
  | some (.dct _) => true
  | _ => false
section
variable {m : KM} {B : Bx} {G H : Hp} {σ : L2.St} {ρ : Rho}
theorem DEnv.dict (E : DEnv m B G H σ ρ) {i : Nat} {kvs : List (Key × PyData)} (h : dEnt ρ[i]? = some kvs) : ∃ a vs, σ[i]? = some (some (.ref a)) ∧ H a = some (.dK vs) ∧ DK m.K G vs kvs := by
  cases e : ρ[i]? with
  | none => rw [e] at h; cases h
  | some z =>
    rw [e] at h
    have q := E.ent i z e
    generalize hs : σ[i]? = o at q
    cases q with
    | dct h1 h2 h3 h4 => cases h; exact ⟨_, _, rfl, h1, h4⟩
    | rdd h1 h4 => cases h; exact ⟨_, _, rfl, h1, h4⟩
    | _ => cases h
end
section
variable {X : L2.Cx} {B : Bx} {W : WX} {pos : Pos} {a b e f : Expr} {F F1 F2 Fk Fv Fz : Rho → Res PyData}
theorem hu1 {k : Nat} {A : Around} (hr : Room k A) : A.units + 1 < cLine := by have := hr.un; omega
def newDS (i : Nat) : Rho → Out := fun ρ => if i < ρ.length then .nx (ρ.set i (.dct [])) else .bad
theorem pd_newD (i : Nat) {x : Str} {pos' p2 : Pos} (hN : X.N.Nodup) (hi : X.N[i]? = some x := by rfl) (hx : Loc X.env.scope x := by first | exact Or.inl rfl | exact Or.inr rfl) (hs : swapsWith (.Dict [] [] p2) (some (.Name x pos')) pos.line X.env = pure false := by rfl) (hf : X.fn x = true ∨ X.env.scope.names.lookup x = some .local := by first | exact .inl rfl | exact .inr rfl | assumption) :
    PS X (.Assign [.Name x pos'] (.Dict [] [] p2) pos) (tDS (km X) B W (newDS i)) := by
  refine (ps_set hN hi hx pe_dnewK hs hf).of ?_
  rintro D σ H ⟨G, ρ, E, S⟩
  intro p hp
  unfold newDS at S
  by_cases hl : i < ρ.length
  · rw [if_pos hl] at S
    exact S _ _ _ (E.putDct hl hp .nil) (Same.refl _)
  · rw [if_neg hl] at S
    exact S.elim
def putS (i : Nat) (Fk Fv : Rho → Res PyData) : Rho → Out := fun ρ => (Fv ρ).out fun v ρ => if isDct ρ[i]? = true then (Fk ρ).out fun k ρ => match ρ[i]?, keyOf k with
  | some (.dct kvs), some k => if kvs.length < sizeLine then .nx (ρ.set i (.dct (putD kvs k v))) else .bad
  | _, _ => .bad
  else .bad
theorem isDct_of {o : Option Ent} (h : isDct o = true) : ∃ kvs, o = some (.dct kvs) := by
  cases o with
  | none => cases h
  | some z => cases z <;> first | (cases h; done) | exact ⟨_, rfl⟩
theorem pd_put (i : Nat) {x : Str} {px pos' : Pos} (hr : X.A.units + 1 < cLine) (hk : PE X e (tD (km X) B W Fk)) (hv : PE X f (tD (km X) B W Fv)) (hN : X.N[i]? = some x := by rfl) (hvs : Vis X.env.scope x := by first | exact Or.inl rfl | exact Or.inr (Or.inl rfl) | exact Or.inr (Or.inr rfl)) (hd : (x == ("__debug__" : Str)) = false := by decide)
    (hcd : (x == ("__classdict__" : Str)) = false := by decide) (hs : swapsWith f (some (.Subscript (.Name x px) e pos')) pos.line X.env = pure false := by rfl) : PS X (.Assign [.Subscript (.Name x px) e pos'] f pos) (tDS (km X) B W (putS i Fk Fv)) := by
  refine (ps_dput hr (pe_var hN hvs hd hcd) hk hv hs).of ?_
  rintro D σ H ⟨G, ρ, E, S⟩
  refine ⟨G, ρ, E, (SatS.out S).imp fun v ρ1 s1 u G1 H1 E1 g1 dp1 => ?_⟩
  by_cases hD : isDct ρ1[i]? = true
  · rw [if_pos hD] at s1
    obtain ⟨kv0, e0⟩ := isDct_of hD
    obtain ⟨a, vs, h1, h2, h3⟩ := E1.dict (i := i) (kvs := kv0) (by rw [e0]; rfl)
    refine ⟨_, h1, G1, ρ1, E1, ((SatS.out s1).up g1).imp fun k ρ2 s2 y G2 H2 E2 g2 dp2 => ?_⟩
    split at s2
    · rename_i kvs key e1 e2
      have q := E2.ent i _ e1
      rw [h1] at q
      cases q with
      | dct k1 k2 k3 k4 =>
        by_cases hl : kvs.length < sizeLine
        · rw [if_pos hl] at s2
          obtain rfl := key_dp dp2 e2
          exact ⟨a, _, rfl, DPut.k k1 (by rw [kd_len k4]; exact hl), s2 _ _ _ (E2.changeD e1 h1 (kd_put k4 key (dp_same g2 _ _ dp1))) (g1.trans g2)⟩
        · rw [if_neg hl] at s2
          exact s2.elim
    · exact s2.elim
  · rw [if_neg hD] at s1
    exact s1.elim
def dixF (i : Nat) (Fk : Rho → Res PyData) : Rho → Res PyData := fun ρ => if (dEnt ρ[i]?).isSome = true then (Fk ρ).bind fun k ρ => match dEnt ρ[i]?, keyOf k with
  | some kvs, some k => optR (valD kvs k) ρ
  | _, _ => .bad
  else .bad
theorem pd_dix (i : Nat) {x : Str} {px : Pos} (hr : X.A.units + 1 < cLine) (hk : PE X e (tD (km X) B W Fk)) (hN : X.N[i]? = some x := by rfl) (hvs : Vis X.env.scope x := by first | exact Or.inl rfl | exact Or.inr (Or.inl rfl) | exact Or.inr (Or.inr rfl)) (hd : (x == ("__debug__" : Str)) = false := by decide)
    (hcd : (x == ("__classdict__" : Str)) = false := by decide) (hs : NoSl e := by exact fun _ _ => rfl) : PE X (.Subscript (.Name x px) e pos) (tD (km X) B W (dixF i Fk)) := by
  refine (pe_dget hr (pe_var hN hvs hd hcd) hk hs).of ?_
  rintro σ H Q ⟨G, ρ, E, S⟩
  unfold dixF at S
  cases hD : dEnt ρ[i]? with
  | none => rw [hD, if_neg (by decide)] at S; exact S.elim
  | some kv0 =>
    rw [hD, Option.isSome_some, if_pos rfl] at S
    obtain ⟨a, vs, h1, h2, h3⟩ := E.dict hD
    refine ⟨_, h1, G, ρ, E, (Sat.bind S).imp fun k ρ1 s1 y G1 H1 E1 g1 dp1 => ?_⟩
    split at s1
    · rename_i kvs key e1 e2
      obtain ⟨a', us, k1, k2, k3⟩ := E1.dict e1
      rw [h1] at k1
      cases k1
      obtain ⟨d, hd', q⟩ := sat_opt s1
      have hv := kd_val k3 key
      rw [hd'] at hv
      obtain ⟨v, hv, dv⟩ := hv
      obtain rfl := key_dp dp1 e2
      exact ⟨a, v, rfl, hv ▸ DGet.k k2, q v G1 H1 E1 g1 dv⟩
    · exact s1.elim
def dgetF (i : Nat) (Fk Fz : Rho → Res PyData) : Rho → Res PyData := fun ρ => if (dEnt ρ[i]?).isSome = true then (Fk ρ).bind fun k ρ => (Fz ρ).bind fun z ρ => match dEnt ρ[i]?, keyOf k with
  | some kvs, some k => .ok ((valD kvs k).getD z) ρ
  | _, _ => .bad
  else .bad
theorem pd_dget (i : Nat) {x : Str} {px apos : Pos} (hr : X.A.units + 1 < cLine) (hk : PE X e (tD (km X) B W Fk)) (hz : PE X f (tD (km X) B W Fz)) (mm : M2 X (.Name x px) "get" apos e f pos) (hN : X.N[i]? = some x := by rfl) (hvs : Vis X.env.scope x := by first | exact Or.inl rfl | exact Or.inr (Or.inl rfl) | exact Or.inr (Or.inr rfl)) (hd : (x == ("__debug__" : Str)) = false := by decide)
    (hcd : (x == ("__classdict__" : Str)) = false := by decide) : PE X (.Call (.Attribute (.Name x px) "get" apos) [e, f] [] pos) (tD (km X) B W (dgetF i Fk Fz)) := by
  refine (pe_dget2 hr (pe_var hN hvs hd hcd) hk hz mm).of ?_
  rintro σ H Q ⟨G, ρ, E, S⟩
  unfold dgetF at S
  cases hD : dEnt ρ[i]? with
  | none => rw [hD, if_neg (by decide)] at S; exact S.elim
  | some kv0 =>
    rw [hD, Option.isSome_some, if_pos rfl] at S
    obtain ⟨a, vs, h1, h2, h3⟩ := E.dict hD
    refine ⟨_, h1, a, rfl, .inl ⟨_, .of h2⟩, G, ρ, E, (Sat.bind S).imp fun k ρ1 s1 y G1 H1 E1 g1 dp1 => ⟨G1, ρ1, E1, ((Sat.bind s1).up g1).imp fun z ρ2 s2 u G2 H2 E2 g2 dp2 => ?_⟩⟩
    split at s2
    · rename_i kvs key e1 e2
      obtain ⟨a', us, k1, k2, k3⟩ := E2.dict e1
      rw [h1] at k1
      cases k1
      obtain rfl := key_dp dp1 e2
      have hv := kd_val k3 key
      cases hd' : valD kvs key with
      | none =>
        rw [hd'] at hv s2
        exact ⟨none, hv ▸ DGet.k k2, s2 u G2 H2 E2 (g1.trans g2) dp2⟩
      | some d =>
        rw [hd'] at hv s2
        obtain ⟨v, hv, dv⟩ := hv
        exact ⟨some v, hv ▸ DGet.k k2, s2 v G2 H2 E2 (g1.trans g2) dv⟩
    · exact s2.elim
def insI (x : Int) : List Int → List Int
  | [] => [x]
  | y :: r => if x ≤ y then x :: y :: r else y :: insI x r
def sortI : List Int → List Int
  | [] => []
  | x :: r => insI x (sortI r)
theorem insI_perm (x : Int) : ∀ l : List Int, (insI x l).Perm (x :: l)
  | [] => .refl _
  | y :: r => by
    unfold insI
    split
    · exact .refl _
    · exact ((insI_perm x r).cons y).trans (.swap x y r)
theorem sortI_perm : ∀ l : List Int, (sortI l).Perm l
  | [] => .refl _
  | x :: r => (insI_perm x _).trans ((sortI_perm r).cons x)
theorem insI_sorted (x : Int) : ∀ l : List Int, l.Pairwise (· ≤ ·) → (insI x l).Pairwise (· ≤ ·)
  | [], _ => by simp [insI]
  | y :: r, h => by
    obtain ⟨h1, h2⟩ := List.pairwise_cons.mp h
    unfold insI
    split
    · rename_i hx
      refine List.pairwise_cons.mpr ⟨fun z hz => ?_, h⟩
      rcases List.mem_cons.mp hz with rfl | hz
      · exact hx
      · exact Int.le_trans hx (h1 z hz)
    · rename_i hx
      refine List.pairwise_cons.mpr ⟨fun z hz => ?_, insI_sorted x r h2⟩
      rcases List.mem_cons.mp ((insI_perm x r).mem_iff.mp hz) with rfl | hz
      · omega
      · exact h1 z hz
theorem sortI_sorted : ∀ l : List Int, (sortI l).Pairwise (· ≤ ·)
  | [] => .nil
  | x :: r => insI_sorted x _ (sortI_sorted r)
theorem sortI_unique : ∀ {xs ys : List Int}, xs.Perm ys → xs.Pairwise (· ≤ ·) → ys.Pairwise (· ≤ ·) → xs = ys
  | [], ys, p, _, _ => List.Perm.nil_eq p
  | x :: xs, [], p, _, _ => by have := p.length_eq; simp at this
  | x :: xs, y :: ys, p, h, q => by
    obtain ⟨h1, h2⟩ := List.pairwise_cons.mp h
    obtain ⟨q1, q2⟩ := List.pairwise_cons.mp q
    have e : x = y := by
      have a1 : x ∈ y :: ys := p.mem_iff.mp List.mem_cons_self
      have a2 : y ∈ x :: xs := p.mem_iff.mpr List.mem_cons_self
      rcases List.mem_cons.mp a1 with z | z
      · exact z
      · rcases List.mem_cons.mp a2 with w | w
        · exact w.symm
        · have := h1 y w; have := q1 x z; omega
    subst e
    rw [sortI_unique (List.Perm.cons_inv p) h2 q2]
theorem sortI_eq {xs ys : List Int} (p : ys.Perm xs) (h : ys.Pairwise (· ≤ ·)) : ys = sortI xs := sortI_unique (p.trans (sortI_perm xs).symm) h (sortI_sorted xs)
def keysS : List (Key × PyData) → Option (List Str)
  | [] => some []
  | (.inr x, _) :: r => (keysS r).map (x :: ·)
  | _ => none
theorem keysS_eq : ∀ {kvs : List (Key × PyData)} {ks : List Str}, keysS kvs = some ks → kvs.map (·.1) = ks.map Sum.inr
  | [], ks, h => by cases h; rfl
  | (.inl i, _) :: r, ks, h => by cases h
  | (.inr x, _) :: r, ks, h => by
    cases e : keysS r with
    | none => simp [keysS, e] at h
    | some zs =>
      simp [keysS, e] at h
      subst h
      rw [List.map_cons, List.map_cons, keysS_eq e]
def keysI : List (Key × PyData) → Option (List Int)
  | [] => some []
  | (.inl x, _) :: r => (keysI r).map (x :: ·)
  | _ => none
theorem keysI_eq : ∀ {kvs : List (Key × PyData)} {ks : List Int}, keysI kvs = some ks → kvs.map (·.1) = ks.map Sum.inl
  | [], ks, h => by cases h; rfl
  | (.inr i, _) :: r, ks, h => by cases h
  | (.inl x, _) :: r, ks, h => by
    cases e : keysI r with
    | none => simp [keysI, e] at h
    | some zs =>
      simp [keysI, e] at h
      subst h
      rw [List.map_cons, List.map_cons, keysI_eq e]
def dsortF (i : Nat) : Rho → Res PyData := fun ρ => match (dEnt ρ[i]?).bind keysS with
  | some ks => if ks.length < 64 then .ok (.list ((sortS ks).map PyData.str)) ρ else .bad
  | none => match (dEnt ρ[i]?).bind keysI with
    | some ks => if ks.length < 64 then .ok (.list ((sortI ks).map PyData.int)) ρ else .bad
    | none => .bad
theorem pd_dsort (i : Nat) {x : Str} {px p : Pos} (hc : X.calm = true) (hm : X.mg "sorted" = none) (hN : X.N[i]? = some x := by rfl) (hvs : Vis X.env.scope x := by first | exact Or.inl rfl | exact Or.inr (Or.inl rfl) | exact Or.inr (Or.inr rfl)) (hd : (x == ("__debug__" : Str)) = false := by decide)
    (hcd : (x == ("__classdict__" : Str)) = false := by decide) (hg : Gl X "sorted" := by rfl) (he : starEach [.Name x px] X.env = (false, eval (.Name x px) X.env) :: starEach [] X.env := by rfl) (hpl : (backTo pos (starEach [] X.env)).any (·.1) = false := by rfl) :
    PE X (.Call (.Name "sorted" p) [.Name x px] [] pos) (tD (km X) B W (dsortF i)) := by
  refine (pe_callB (callR_or (call_sortedD hc) (call_sortedDI hc)) hg hm (by decide +kernel) (pa_cons (pe_var hN hvs hd hcd) pa_nil he) (by decide) (by decide) he hpl).of ?_
  rintro σ H Q ⟨G, ρ, E, S⟩
  unfold dsortF at S
  cases hD : dEnt ρ[i]? with
  | none => rw [hD] at S; exact S.elim
  | some kvs =>
    rw [hD, Option.bind_some] at S
    obtain ⟨a, us, k1, k2, k3⟩ := E.dict hD
    cases hk : keysS kvs with
    | none =>
      rw [hk] at S
      have S1 : Sat (km X) B W G σ (match keysI kvs with
        | some ks => if ks.length < 64 then Res.ok (PyData.list ((sortI ks).map PyData.int)) ρ else .bad
        | none => .bad) _ := S
      cases hi : keysI kvs with
      | none => rw [hi] at S1; exact S1.elim
      | some ks =>
        rw [hi] at S1
        by_cases hl : ks.length < 64
        · have S2 : Sat (km X) B W G σ (if ks.length < 64 then Res.ok (PyData.list ((sortI ks).map PyData.int)) ρ else .bad) _ := S1
          rw [if_pos hl] at S2
          refine ⟨_, k1, .inr ⟨a, us, ks, rfl, .of k2, by rw [kd_keys k3]; exact keysI_eq hi, hl, fun ys p hp hs hn => ?_⟩⟩
          rw [sortI_eq hp hs]
          have x := Ext.new (o := .lst ((sortI ks).map V.int)) E.base.gh hn
          exact S2 _ _ _ (E.ext x) x.g (.lst (SqL.of upd_same) (DqAll.ints _))
        · have S2 : Sat (km X) B W G σ (if ks.length < 64 then Res.ok (PyData.list ((sortI ks).map PyData.int)) ρ else .bad) _ := S1
          rw [if_neg hl] at S2
          exact S2.elim
    | some ks =>
      rw [hk] at S
      by_cases hl : ks.length < 64
      · have S2 : Sat (km X) B W G σ (if ks.length < 64 then Res.ok (PyData.list ((sortS ks).map PyData.str)) ρ else .bad) _ := S
        rw [if_pos hl] at S2
        refine ⟨_, k1, .inl ⟨a, us, ks, rfl, .of k2, by rw [kd_keys k3]; exact keysS_eq hk, hl, fun ys p hp hs hn => ?_⟩⟩
        rw [sortedS_eq hp hs]
        have x := Ext.new (o := .lst ((sortS ks).map V.str)) E.base.gh hn
        exact S2 _ _ _ (E.ext x) x.g (.lst (SqL.of upd_same) (dp_strs _))
      · have S2 : Sat (km X) B W G σ (if ks.length < 64 then Res.ok (PyData.list ((sortS ks).map PyData.str)) ρ else .bad) _ := S
        rw [if_neg hl] at S2
        exact S2.elim
def mergeD (kvs more : List (Key × PyData)) : List (Key × PyData) := more.foldl (fun acc kv => putD acc kv.1 kv.2) kvs
theorem kd_merge {K : PySem.W.Frag} {G : Hp} {more : List (Key × V)} {more' : List (Key × PyData)} (m : DK K G more more') : ∀ {kvs : List (Key × V)} {kvs' : List (Key × PyData)}, DK K G kvs kvs' → DK K G (mergeK kvs more) (mergeD kvs' more') := by
  induction m with
  | nil => exact fun h => h
  | @cons p q ps qs h t ih =>
    intro kvs kvs' r
    have z : DK K G (putK kvs p.1 p.2) (putD kvs' q.1 q.2) := by
      have z := kd_put r p.1 h.2
      rw [← h.1]
      exact z
    exact ih z
end
end DL
namespace DL
open PySem PySem.Spec PyProof.Rows L2 RT
section
variable {X : L2.Cx} {B : Bx} {W : WX} {pos : Pos} {a b e f : Expr} {F F1 F2 Fk Fv Fz : Rho → Res PyData}
def tNL (m : KM) (B : Bx) (W : WX) (F : Rho → Res (List PyData)) : TE := fun σ H Q => ∃ G ρ, DEnv m B G H σ ρ ∧ Sat m B W G σ (F ρ) fun ds ρ' => ∀ p vs G' H', DEnv m B G' H' σ ρ' → Same G G' → H' p = none → DqAll m.K G' vs ds → Q (.ref p) (upd H' p (.lst vs))
def newS (F : Rho → Res (List PyData)) (i : Nat) : Rho → Out := fun ρ => (F ρ).out fun ds ρ => if i < ρ.length then .nx (ρ.set i (.own ds)) else .bad
theorem pd_setNL (i : Nat) {L : Rho → Res (List PyData)} {x : Str} {pos' : Pos} (hN : X.N.Nodup) (he : PE X e (tNL (km X) B W L)) (hi : X.N[i]? = some x := by rfl) (hx : Loc X.env.scope x := by first | exact Or.inl rfl | exact Or.inr rfl) (hs : swapsWith e (some (.Name x pos')) pos.line X.env = pure false := by rfl) (hf : X.fn x = true ∨ X.env.scope.names.lookup x = some .local := by first | exact .inl rfl | exact .inr rfl | assumption) :
    PS X (.Assign [.Name x pos'] e pos) (tDS (km X) B W (newS L i)) := by
  refine (ps_set hN hi hx he hs hf).of ?_
  rintro D σ H ⟨G, ρ, E, S⟩
  refine ⟨G, ρ, E, (SatS.out S).imp fun ds ρ1 s1 p vs G1 H1 E1 g1 hp dp1 => ?_⟩
  by_cases hl : i < ρ1.length
  · rw [if_pos hl] at s1
    exact s1 _ _ _ (E1.putOwn hl hp dp1) g1
  · rw [if_neg hl] at s1
    exact s1.elim
def cutL (F : Rho → Res PyData) (L U : Po) : Rho → Res (List PyData) := fun ρ => (F ρ).bind fun d ρ => (L ρ).bind fun l ρ => (U ρ).bind fun u ρ => match d with
  | .list xs => .ok (cutD xs l u) ρ
  | _ => .bad
def catL (F1 F2 : Rho → Res PyData) : Rho → Res (List PyData) := fun ρ => (F1 ρ).bind fun d ρ => (F2 ρ).bind fun e ρ => match d, e with
  | .list xs, .list ys => if xs.length + ys.length ≤ sizeLine then .ok (xs ++ ys) ρ else .bad
  | _, _ => .bad
theorem nl_cat (ha : PE X a (tD (km X) B W F1)) (hb : PE X b (tD (km X) B W F2)) : PE X (.BinOp a .Add b pos) (tNL (km X) B W (catL F1 F2)) := by
  refine (pe_op op_catS ha hb).of ?_
  rintro σ H Q ⟨G, ρ, E, S⟩
  refine ⟨G, ρ, E, (Sat.bind S).imp fun d ρ1 s1 v G1 H1 E1 g1 dp1 => ⟨G1, ρ1, E1, ((Sat.bind s1).up g1).imp fun e ρ2 s2 u G2 H2 E2 g2 dp2 => ?_⟩⟩
  have dp1' := dp_same g2 _ _ dp1
  cases d <;> cases e <;> first | exact s2.elim | skip
  rename_i xs ys
  by_cases hl : xs.length + ys.length ≤ sizeLine
  · have s3 : Sat (km X) B W G σ (if xs.length + ys.length ≤ sizeLine then Res.ok (xs ++ ys) ρ2 else .bad) _ := s2
    rw [if_pos hl] at s3
    cases dp1' with
    | lst a1 a2 =>
      cases dp2 with
      | lst b1 b2 =>
        exact ⟨_, _, _, _, rfl, rfl, E2.base.gh.seq a1, E2.base.gh.seq b1, by rw [a2.len, b2.len]; exact hl, fun p hp => s3 p _ _ _ E2 (g1.trans g2) hp (a2.append b2)⟩
  · have s3 : Sat (km X) B W G σ (if xs.length + ys.length ≤ sizeLine then Res.ok (xs ++ ys) ρ2 else .bad) _ := s2
    rw [if_neg hl] at s3
    exact s3.elim
def lsetS (i : Nat) (Fk Fv : Rho → Res PyData) : Rho → Out := fun ρ => (Fv ρ).out fun v ρ => if isOwn ρ[i]? = true then (Fk ρ).out fun k ρ => match ρ[i]?, k with
  | some (.own xs), .int k => (match ixN xs.length k with
    | some j => .nx (ρ.set i (.own (xs.set j v)))
    | none => .bad)
  | _, _ => .bad
  else .bad
theorem isOwn_of {o : Option Ent} (h : isOwn o = true) : ∃ xs, o = some (.own xs) := by
  cases o with
  | none => cases h
  | some z => cases z <;> first | (cases h; done) | exact ⟨_, rfl⟩
def bStr : PyData → Option PyData
  | .int i => if i.natAbs.log2 < 1920 then some (.str (toString i)) else none
  | _ => none
def isS : PyData → Bool
  | .str _ => true
  | _ => false
def isaD (T : String) (d : PyData) : Option PyData := match d with
  | .list _ => if T = "list" then some (.bool true) else none
  | .tuple _ => if T = "tuple" then some (.bool true) else none
  | .bool _ => if T = "bool" then some (.bool true) else none
  | .int _ => if T = "int" then some (.bool true) else none
  | .str _ => if T = "str" then some (.bool true) else none
  | _ => none
def isaF (T : String) (F : Rho → Res PyData) : Rho → Res PyData := fun ρ => (F ρ).bind fun d ρ => optR (isaD T d) ρ
theorem kit_same {K : PySem.W.Frag} {T : String} : PySem.W.kitOne K (.type T) (.type T) = some true := by
  unfold PySem.W.kitOne
  have e : ((Value.type T) == (Value.type T)) = true := beq_self_eq_true _
  rw [if_pos e]
theorem sqL_ty {K : PySem.W.Frag} {H : Hp} {a : Addr} {xs : List V} (h : SqL K H a xs) : TyX K H (.ref a) (.type "list") := by
  rcases h with (h | ⟨o, h⟩) | ⟨o, its, n, h, hc, _⟩
  · exact .base (.lst h)
  · exact .base (.frz h)
  · exact .kList h hc
theorem sqT_ty {K : PySem.W.Frag} {H : Hp} {a : Addr} {xs : List V} (h : SqT K H a xs) : TyX K H (.ref a) (.type "tuple") := by
  rcases h with (h | ⟨o, h⟩) | ⟨o, its, n, h, hc, _⟩
  · exact .base (.tup h)
  · exact .fTuple h
  · exact .kTuple h hc
theorem pd_isa (T : String) {x : Str} {p p2 : Pos} (hm : X.mg "isinstance" = none) (hx : X.mg x = none) (hv : bootBuiltins x = some (.type T)) (ha : PE X e (tD (km X) B W F)) (hg : Gl X "isinstance" := by rfl) (hgx : Gl X x := by rfl) (hn : x ≠ "__name__" := by decide) (hdx : (x == ("__debug__" : Str)) = false := by decide)
    (he : starEach [e, .Name x p2] X.env = (false, eval e X.env) :: starEach [.Name x p2] X.env := by rfl) (he2 : starEach [.Name x p2] X.env = (false, eval (.Name x p2) X.env) :: starEach [] X.env := by rfl) (hpl : (backTo pos (starEach [.Name x p2] X.env)).any (·.1) = false := by rfl) :
    PE X (.Call (.Name "isinstance" p) [e, .Name x p2] [] pos) (tD (km X) B W (isaF T F)) := by
  refine (pe_callB call_isi hg hm (by decide +kernel) (pa_cons ha (pa_cons (pe_bltn (v := .ty T) hgx hx hv rfl hn hdx) pa_nil he2) he) (by decide) (by decide) he hpl).of ?_
  rintro σ H Q ⟨G, ρ, E, S⟩
  refine ⟨G, ρ, E, (Sat.bind S).imp fun d ρ1 s1 v G1 H1 E1 g1 dp1 => ?_⟩
  obtain ⟨z, hz, q⟩ := sat_opt s1
  have gh := E1.base.gh
  cases d <;> first | (cases hz; done) | skip
  · obtain ⟨rfl, rfl⟩ := of_if hz
    cases dp1
    exact ⟨_, _, _, _, true, rfl, .ty _, .base (.bl _), kit_same, q _ _ _ E1 g1 (.bl _)⟩
  · obtain ⟨rfl, rfl⟩ := of_if hz
    cases dp1
    exact ⟨_, _, _, _, true, rfl, .ty _, .base (.int _), kit_same, q _ _ _ E1 g1 (.bl _)⟩
  · obtain ⟨rfl, rfl⟩ := of_if hz
    cases dp1
    exact ⟨_, _, _, _, true, rfl, .ty _, .base (.str _), kit_same, q _ _ _ E1 g1 (.bl _)⟩
  · obtain ⟨rfl, rfl⟩ := of_if hz
    cases dp1 with
    | lst h1 h2 => exact ⟨_, _, _, _, true, rfl, .ty _, sqL_ty (gh.seq h1), kit_same, q _ _ _ E1 g1 (.bl _)⟩
  · obtain ⟨rfl, rfl⟩ := of_if hz
    cases dp1 with
    | tup h1 h2 => exact ⟨_, _, _, _, true, rfl, .ty _, sqT_ty (seqT_same gh h1), kit_same, q _ _ _ E1 g1 (.bl _)⟩
def rInT (K : PySem.W.Frag) : R2 := fun x y H Q => ∃ d ds, Dp K H x d ∧ Dp K H y (.tuple ds) ∧ SeqAt.shaped d = true ∧ SeqAt.shaped (.tuple ds) = true ∧ Q (.bl (ds.any fun z => PyData.eqv z d)) H
def rNotInT (K : PySem.W.Frag) : R2 := fun x y H Q => ∃ d ds, Dp K H x d ∧ Dp K H y (.tuple ds) ∧ SeqAt.shaped d = true ∧ SeqAt.shaped (.tuple ds) = true ∧ Q (.bl (!ds.any fun z => PyData.eqv z d)) H
theorem op_inT (hu : X.A.units + 65 < cLine) : OpR X (compareOp .In) (rInT X.K) := by
  intro pins s σ H x y v u Q I rx ry h
  obtain ⟨d, ds, hd, he, sd, se, q⟩ := h
  obtain ⟨as, r1⟩ := Dp.reads I d x v hd rx
  obtain ⟨bs, r2⟩ := Dp.reads I (.tuple ds) y u he ry
  exact SeqAt.in_tuple_reads r2 r1 (SeqAt.canLay_of_shaped se) (SeqAt.canLay_of_shaped sd) (room_in_shaped sd hu) ⟨.bl _, H, I, rfl, q⟩
theorem op_notInT (hu : X.A.units + 65 < cLine) : OpR X (compareOp .NotIn) (rNotInT X.K) := by
  intro pins s σ H x y v u Q I rx ry h
  obtain ⟨d, ds, hd, he, sd, se, q⟩ := h
  obtain ⟨as, r1⟩ := Dp.reads I d x v hd rx
  obtain ⟨bs, r2⟩ := Dp.reads I (.tuple ds) y u he ry
  exact SeqAt.notIn_tuple_reads r2 r1 (SeqAt.canLay_of_shaped se) (SeqAt.canLay_of_shaped sd) (room_in_shaped sd hu) ⟨.bl _, H, I, rfl, q⟩
def hasS (i j : Str) : Bool := !(Builtin.Str.occurrences j i 0 j.length 1).isEmpty
def dIn3 (d e : PyData) : Option PyData := match e with
  | .list ds => if SeqAt.shaped d = true ∧ SeqAt.shaped (.list ds) = true then some (.bool (ds.any fun z => PyData.eqv z d)) else none
  | .tuple ds => if SeqAt.shaped d = true ∧ SeqAt.shaped (.tuple ds) = true then some (.bool (ds.any fun z => PyData.eqv z d)) else none
  | .str j => (match d with
    | .str i => some (.bool (hasS i j))
    | _ => none)
  | _ => none
def dNotIn3 (d e : PyData) : Option PyData := match e with
  | .list ds => if SeqAt.shaped d = true ∧ SeqAt.shaped (.list ds) = true then some (.bool (!ds.any fun z => PyData.eqv z d)) else none
  | .tuple ds => if SeqAt.shaped d = true ∧ SeqAt.shaped (.tuple ds) = true then some (.bool (!ds.any fun z => PyData.eqv z d)) else none
  | .str j => (match d with
    | .str i => some (.bool (!hasS i j))
    | _ => none)
  | _ => none
theorem op_in3 (hu : X.A.units + 65 < cLine) : OpR X (compareOp .In) (fun x y H Q => rInD X.K x y H Q ∨ rInT X.K x y H Q ∨ ∃ i j, x = .str i ∧ y = .str j ∧ Q (.bl (hasS i j)) H) := (op_inD hu).or ((op_inT hu).or op_in_str)
theorem op_notIn3 (hu : X.A.units + 65 < cLine) : OpR X (compareOp .NotIn) (fun x y H Q => rNotInD X.K x y H Q ∨ rNotInT X.K x y H Q ∨ ∃ i j, x = .str i ∧ y = .str j ∧ Q (.bl (!hasS i j)) H) := (op_notInD hu).or ((op_notInT hu).or L2.op_notIn_str)
theorem rd_in3 : RD X.K (fun x y H Q => rInD X.K x y H Q ∨ rInT X.K x y H Q ∨ ∃ i j, x = .str i ∧ y = .str j ∧ Q (.bl (hasS i j)) H) dIn3 := by
  intro G H x y d e z Q gh hx hy hz q
  cases e <;> first | (cases hz; done) | skip
  · cases d <;> first | (cases hz; done) | skip
    cases hz; cases hx; cases hy
    exact .inr (.inr ⟨_, _, rfl, rfl, q _ _ _ (Ext.refl gh) (.bl _)⟩)
  · obtain ⟨⟨h1, h2⟩, rfl⟩ := of_if hz
    exact .inl ⟨d, _, (dp_same gh _ _ hx).p, (dp_same gh _ _ hy).p, h1, h2, q _ _ _ (Ext.refl gh) (.bl _)⟩
  · obtain ⟨⟨h1, h2⟩, rfl⟩ := of_if hz
    exact .inr (.inl ⟨d, _, (dp_same gh _ _ hx).p, (dp_same gh _ _ hy).p, h1, h2, q _ _ _ (Ext.refl gh) (.bl _)⟩)
theorem rd_notIn3 : RD X.K (fun x y H Q => rNotInD X.K x y H Q ∨ rNotInT X.K x y H Q ∨ ∃ i j, x = .str i ∧ y = .str j ∧ Q (.bl (!hasS i j)) H) dNotIn3 := by
  intro G H x y d e z Q gh hx hy hz q
  cases e <;> first | (cases hz; done) | skip
  · cases d <;> first | (cases hz; done) | skip
    cases hz; cases hx; cases hy
    exact .inr (.inr ⟨_, _, rfl, rfl, q _ _ _ (Ext.refl gh) (.bl _)⟩)
  · obtain ⟨⟨h1, h2⟩, rfl⟩ := of_if hz
    exact .inl ⟨d, _, (dp_same gh _ _ hx).p, (dp_same gh _ _ hy).p, h1, h2, q _ _ _ (Ext.refl gh) (.bl _)⟩
  · obtain ⟨⟨h1, h2⟩, rfl⟩ := of_if hz
    exact .inr (.inl ⟨d, _, (dp_same gh _ _ hx).p, (dp_same gh _ _ hy).p, h1, h2, q _ _ _ (Ext.refl gh) (.bl _)⟩)
end
end DL
namespace DL
open PySem PySem.Spec PyProof.Rows L2 RT
section
variable {X : L2.Cx}
theorem pairs_of2 {pins : List (Addr × Obj)} {σ : L2.St} {H : Hp} {s : Shared} (I : Inv X pins σ H s) : ∀ {ps : List Addr} {kvs : List (Key × V)}, Paired (fun p kv => SqT X.K H p [kV kv.1, kv.2]) ps kvs →
    ∃ (prs : List (Key × Value)) (qs : List (Value × Value)), KV kvs prs ∧ prs.length = ps.length ∧ qs.length = ps.length ∧ ∀ (j : Nat) (k v : Value), qs[j]? = some (k, v) → ∃ (b : Addr) (key : Key), ps[j]? = some b ∧ IsTup s.heap b #[k, v] ∧ prs[j]? = some (key, v) ∧ (mixKind X.prog X.w).is key k = true
  | _, _, .nil => ⟨[], [], .nil, rfl, rfl, fun j k v e => by simp at e⟩
  | _, _, .cons (a := p) (b := kv) h t => by
    obtain ⟨prs, qs, r, hl, hl2, hp⟩ := pairs_of2 I t
    obtain ⟨its, rv, ht, _⟩ := I.tuple h
    obtain ⟨u, y, ei, ru, ry⟩ := vals2 rv
    subst ei
    refine ⟨(kv.1, y) :: prs, (u, y) :: qs, .cons ⟨rfl, ry⟩ r, by rw [List.length_cons, List.length_cons, hl], by rw [List.length_cons, List.length_cons, hl2], fun j k v e => ?_⟩
    cases j with
    | zero =>
      have e' : (u, y) = (k, v) := Option.some.inj e
      cases e'
      exact ⟨p, kv.1, rfl, ht, rfl, kV_is ru⟩
    | succ j =>
      obtain ⟨b, key, e1, e2, e3, e4⟩ := hp j k v (by simpa using e)
      exact ⟨b, key, by simpa using e1, e2, by simpa using e3, e4⟩
theorem sqN_plain {pins : List (Addr × Obj)} {σ : L2.St} {H : Hp} {s : Shared} {a : Addr} {xs : List V} (I : Inv X pins σ H s) (h : SqN X.K H a xs) : ∃ its : List Value, Vals xs its ∧ PlainSeq "tuple" s.heap a its.toArray ∧ xs.length ≤ sizeLine := by
  rcases h with ⟨o, hd, h⟩ | ⟨o, its, n, hd, hk, hc, hs, hz, r⟩
  · obtain ⟨h1, z, its, r, ⟨o2, h2, hc, n, hs⟩⟩ := I.hok a _ h
    rw [h1] at h2
    cases h2
    exact ⟨its, r, ⟨o, n, h1, hc, hd, hs⟩, z⟩
  · refine ⟨its.toList, r, ⟨o, n, I.kIn a o hk, hc, hd, by simpa using hs⟩, ?_⟩
    have e := r.length
    simp only [Array.length_toList] at e
    omega
theorem call_dictN (hcalm : X.calm = true) : CallR X (.type "dict") (fun xs H Q => ∃ (a : Addr) (ps : List Addr) (kvs : List (Key × V)), xs = [.ref a] ∧ SqN X.K H a (ps.map V.ref) ∧ Paired (fun p kv => SqT X.K H p [kV kv.1, kv.2]) ps kvs ∧
    ∀ p, H p = none → Q (.ref p) (upd H p (.dK (mergeK [] kvs)))) := by
  intro pins s σ H xs us Q I r q
  obtain ⟨a, ps, kvs, ex, hq, hp, q⟩ := q
  subst ex
  obtain ⟨u, eu, rx⟩ := vals1 r
  subst eu
  cases rx
  obtain ⟨its, rv, pl, hz⟩ := sqN_plain I hq
  have ei := refs_at rv
  subst ei
  rw [List.length_map] at hz
  obtain ⟨prs, qs, rel, hl, hl2, hpr⟩ := pairs_of2 I hp
  refine PySem.call_dict_pairs (knd := mixKind X.prog X.w) (kvs := prs) (PairArg.tuple a (ps.map Value.ref).toArray (fun j => ps.getD j 0) qs) (I.ok.hd hcalm) ⟨pl, ?_, ?_⟩ ⟨?_, ?_⟩ ?_ ?_
  · simp [hl2]
  · intro j k v e
    obtain ⟨b, key, e1, e2, e3, e4⟩ := hpr j k v e
    have eb : ps.getD j 0 = b := by simp [List.getD, e1]
    refine ⟨by simp [e1, eb], .inl ?_⟩
    show s.heap.IsTuple (ps.getD j 0) #[k, v]
    rw [eb]
    exact e2
  · rw [hl, hl2]
  · intro i key v e
    obtain ⟨b, k, e1, e2, e3, e4⟩ := hpr i key v e
    exact ⟨k, e3, e4⟩
  · rw [hl2]; exact hz
  · intro h' tk hd' k
    have hm : (s.heap.objs.size == sysModules) = false := beq_eq_false_iff_ne.mpr (Nat.ne_of_gt I.big)
    have hlen : (mergeK [] kvs).length ≤ sizeLine := by
      refine Nat.le_trans (length_mergeK kvs []) ?_
      rw [List.length_nil, Nat.zero_add, rel.length, hl]
      exact hz
    exact ⟨.ref s.heap.objs.size, upd H s.heap.objs.size (.dK (mergeK [] kvs)), I.laid (t' := tk) (fun b o e => k b o (by simp) e) (Nat.le_refl _) (show ObjOk X.prog X.w _ _ _ (.dK (mergeK [] kvs)) from ⟨hlen, hm, merged [] prs, KV.merge rel .nil, hd'⟩), rfl, q _ (I.hok.fresh (Nat.le_refl _))⟩
def pairD : PyData → Option (Key × PyData)
  | .tuple [k, v] => (keyOf k).map fun k => (k, v)
  | _ => none
def pairsD : List PyData → Option (List (Key × PyData))
  | [] => some []
  | d :: r => (pairD d).bind fun p => (pairsD r).map (p :: ·)
theorem pairD_dp {K : PySem.W.Frag} {G : Hp} {v : V} {d : PyData} {q : Key × PyData} (h : Dq K G v d) (e : pairD d = some q) : ∃ (p : Addr) (y : V), v = .ref p ∧ SqN K G p [kV q.1, y] ∧ Dq K G y q.2 := by
  unfold pairD at e
  split at e
  · rename_i k x
    cases ek : keyOf k with
    | none => rw [ek] at e; cases e
    | some key =>
      rw [ek] at e
      cases e
      cases h with
      | tup h1 h2 =>
        cases h2 with
        | cons a1 a2 =>
          cases a2 with
          | cons b1 b2 =>
            cases b2
            obtain rfl := key_dp a1 ek
            exact ⟨_, _, rfl, h1, b1⟩
  · cases e
theorem pairsD_dp {K : PySem.W.Frag} {G : Hp} : ∀ {ds : List PyData} {vs : List V} {qs : List (Key × PyData)}, DqAll K G vs ds → pairsD ds = some qs → ∃ (ps : List Addr) (kvs : List (Key × V)), vs = ps.map V.ref ∧ Paired (fun p kv => SqN K G p [kV kv.1, kv.2]) ps kvs ∧ DK K G kvs qs
  | [], _, _, h, e => by cases h; cases e; exact ⟨[], [], rfl, .nil, .nil⟩
  | d :: ds, _, qs, h, e => by
    cases h with
    | cons h1 h2 =>
      cases e1 : pairD d with
      | none => simp [pairsD, e1] at e
      | some q =>
        cases e2 : pairsD ds with
        | none => simp [pairsD, e1, e2] at e
        | some r =>
          simp [pairsD, e1, e2] at e
          subst e
          obtain ⟨p, y, rfl, a1, a2⟩ := pairD_dp h1 e1
          obtain ⟨ps, kvs, rfl, b1, b2⟩ := pairsD_dp h2 e2
          exact ⟨p :: ps, (q.1, y) :: kvs, rfl, .cons a1 b1, .cons ⟨rfl, a2⟩ b2⟩
theorem paired_t {K : PySem.W.Frag} {G H : Hp} (gh : Same G H) : ∀ {ps : List Addr} {kvs : List (Key × V)}, Paired (fun p kv => SqN K G p [kV kv.1, kv.2]) ps kvs → Paired (fun p kv => SqT K H p [kV kv.1, kv.2]) ps kvs
  | _, _, .nil => .nil
  | _, _, .cons h t => .cons (seqT_same gh h) (paired_t gh t)
variable {B : Bx} {W : WX} {pos : Pos} {e : Expr} {F : Rho → Res PyData}
def itemsOf : PyData → Option (List PyData)
  | .list ds => some ds
  | .tuple ds => some ds
  | _ => none
def dictS (F : Rho → Res PyData) (i : Nat) : Rho → Out := fun ρ => (F ρ).out fun d ρ => match (itemsOf d).bind pairsD with
  | some kvs => if i < ρ.length then .nx (ρ.set i (.dct (mergeD [] kvs))) else .bad
  | none => .bad
theorem pd_dict (i : Nat) {x : Str} {pos' p p2 : Pos} (hc : X.calm = true) (hN : X.N.Nodup) (hm : X.mg "dict" = none) (ha : PE X e (tD (km X) B W F)) (hi : X.N[i]? = some x := by rfl) (hx : Loc X.env.scope x := by first | exact Or.inl rfl | exact Or.inr rfl) (hg : Gl X "dict" := by rfl)
    (he : starEach [e] X.env = (false, eval e X.env) :: starEach [] X.env := by rfl) (hpl : (backTo p2 (starEach [] X.env)).any (·.1) = false := by rfl)
    (hs : swapsWith (.Call (.Name "dict" p) [e] [] p2) (some (.Name x pos')) pos.line X.env = pure false := by rfl) (hf : X.fn x = true ∨ X.env.scope.names.lookup x = some .local := by first | exact .inl rfl | exact .inr rfl | assumption) :
    PS X (.Assign [.Name x pos'] (.Call (.Name "dict" p) [e] [] p2) pos) (tDS (km X) B W (dictS F i)) := by
  refine (ps_set hN hi hx (pe_callTy (callR_or (call_dictP hc) (call_dictN hc)) hg hm (by decide +kernel) (pa_cons ha pa_nil he) (by decide) (by decide) he hpl) hs hf).of ?_
  rintro D σ H ⟨G, ρ, E, S⟩
  refine ⟨G, ρ, E, (SatS.out S).imp fun d ρ1 s1 v G1 H1 E1 g1 dp1 => ?_⟩
  cases hD : (itemsOf d).bind pairsD with
  | none => rw [hD] at s1; exact s1.elim
  | some qs =>
    rw [hD] at s1
    have s2 : SatS (km X) B W G D (if i < ρ1.length then .nx (ρ1.set i (.dct (mergeD [] qs))) else .bad) := s1
    by_cases hl : i < ρ1.length
    · rw [if_pos hl] at s2
      cases d <;> first | (cases hD; done) | skip
      · cases dp1 with
        | lst h1 h2 =>
          obtain ⟨ps, kvs, rfl, b1, b2⟩ := pairsD_dp h2 hD
          exact .inl ⟨_, ps, kvs, rfl, E1.base.gh.seq h1, paired_t E1.base.gh b1, fun p hp => s2 _ _ _ (E1.putDct hl hp (kd_merge b2 .nil)) g1⟩
      · cases dp1 with
        | tup h1 h2 =>
          obtain ⟨ps, kvs, rfl, b1, b2⟩ := pairsD_dp h2 hD
          exact .inr ⟨_, ps, kvs, rfl, h1.same E1.base.gh, paired_t E1.base.gh b1, fun p hp => s2 _ _ _ (E1.putDct hl hp (kd_merge b2 .nil)) g1⟩
    · rw [if_neg hl] at s2
      exact s2.elim
def badS : Rho → Out := fun _ => .bad
end
end DL
namespace DL
open PySem PySem.Spec PyProof.Rows L2 RT
section
variable {X : L2.Cx} {B : Bx} {W : WX} {pos : Pos} {a b c e : Expr} {F F1 F2 F3 : Rho → Res PyData}
end
end DL
namespace DL
open PySem PySem.Spec PyProof.Rows L2 RT
def fn1 (g : PyData → FR) : Fn
  | [a0] => g a0
  | _ => .bad
theorem fn1_len (g : PyData → FR) : ∀ ds, fn1 g ds ≠ .bad → ds.length = 1 := fun ds h => by
  unfold fn1 at h
  split at h
  · rfl
  · exact absurd rfl h
theorem fn1_body {g : PyData → FR} {S : Rho → Out} {k : Nat} (q : ∀ a0, outFR (S (startR k [a0])) = g a0) : ∀ ds, fn1 g ds ≠ .bad → outFR (S (startR k ds)) = fn1 g ds := fun ds h => by
  unfold fn1 at h ⊢
  split at h
  · exact q _
  · exact absurd rfl h
def fn2 (g : PyData → PyData → FR) : Fn
  | [a0, a1] => g a0 a1
  | _ => .bad
theorem fn2_len (g : PyData → PyData → FR) : ∀ ds, fn2 g ds ≠ .bad → ds.length = 2 := fun ds h => by
  unfold fn2 at h
  split at h
  · rfl
  · exact absurd rfl h
theorem fn2_body {g : PyData → PyData → FR} {S : Rho → Out} {k : Nat} (q : ∀ a0 a1, outFR (S (startR k [a0, a1])) = g a0 a1) : ∀ ds, fn2 g ds ≠ .bad → outFR (S (startR k ds)) = fn2 g ds := fun ds h => by
  unfold fn2 at h ⊢
  split at h
  · exact q _ _
  · exact absurd rfl h
def fn3 (g : PyData → PyData → PyData → FR) : Fn
  | [a0, a1, a2] => g a0 a1 a2
  | _ => .bad
theorem fn3_len (g : PyData → PyData → PyData → FR) : ∀ ds, fn3 g ds ≠ .bad → ds.length = 3 := fun ds h => by
  unfold fn3 at h
  split at h
  · rfl
  · exact absurd rfl h
theorem fn3_body {g : PyData → PyData → PyData → FR} {S : Rho → Out} {k : Nat} (q : ∀ a0 a1 a2, outFR (S (startR k [a0, a1, a2])) = g a0 a1 a2) : ∀ ds, fn3 g ds ≠ .bad → outFR (S (startR k ds)) = fn3 g ds := fun ds h => by
  unfold fn3 at h ⊢
  split at h
  · exact q _ _ _
  · exact absurd rfl h
def fn4 (g : PyData → PyData → PyData → PyData → FR) : Fn
  | [a0, a1, a2, a3] => g a0 a1 a2 a3
  | _ => .bad
def DefOk (P : Program) (w : World) (K : PySem.W.Frag) (mg : Str → Option Value) (base : Heap) (x : Str) (k : Nat) (fn : Fn) : Prop :=
  ∃ f fd ps, FnOk P w K mg base (L2.CX P w) k f fd ps (spD ⟨K, mg, w⟩ fn) ∧ mg x = some (.ref f) ∧ PySem.W.keepIn K (.ref f) = true ∧ Binds K fd ps []
section
variable {X : L2.Cx} {B : Bx} {W : WX} {pos : Pos} {e : Expr} {es : List Expr} {A : Rho → Res (List PyData)}
theorem pd_call {k : Nat} {fn : Fn} {x : Str} {p : Pos} (D : DefOk X.prog X.w X.K X.mg X.base x k fn) (hr : Room k X.A) (tk : Takes X W)
    (ha : PA X (e :: es) (tDA (km X) B W A)) (hg : Gl X x := by rfl) (hdb : (x == ("__debug__" : Str)) = false := by decide) (he : starEach (e :: es) X.env = (false, eval e X.env) :: starEach es X.env := by rfl) (hpl : (backTo pos (starEach es X.env)).any (·.1) = false := by rfl) :
    PE X (.Call (.Name x p) (e :: es) [] pos) (tD (km X) B W (callF fn A)) := by
  obtain ⟨f, fd, ps, F, hm, hk, hb⟩ := D
  exact pd_call1 F hr hm hk hb (fun σ => passAt tk σ) ha hg hdb he hpl
end
structure ExcTxt (K : PySem.W.Frag) (mg : Str → Option Value) (x : Str) (C : Addr) : Prop where
  gP : mg x = some (.ref C)
  xP : PySem.W.excIn K C [.type "ValueError", .type "Exception", .type "BaseException", .type "object"] "ValueError.__new__" = true
  kP : PySem.W.keepIn K (.ref C) = true
  bP : PySem.W.subIn K (.ref C) (.type "BaseException") = some true
  tP : PySem.W.typeIn K (.ref C) = some (.type "type")
  iP : PySem.W.isClsIn K C = true
  sP : PySem.W.subIn K (.ref C) (.ref C) = some true
end DL
namespace DL
open PySem PySem.Spec PyProof.Rows L2 RT
section
variable {α β : Type} {ρ : Rho} {i j n : Nat} {x y z : PyData} {xs ds : List PyData}
@[simp] theorem bind_ok {a : α} {f : α → Rho → Res β} : (Res.ok a ρ).bind f = f a ρ := id rfl
@[simp] theorem out_ok {a : α} {f : α → Rho → Out} : (Res.ok a ρ).out f = f a ρ := id rfl
@[simp] theorem obind_nx {f : Rho → Out} : (Out.nx ρ).bind f = f ρ := id rfl
@[simp] theorem obind_rt {f : Rho → Out} : (Out.rt x).bind f = .rt x := id rfl
@[simp] theorem optR_some {a : α} : optR (some a) ρ = .ok a ρ := id rfl
theorem varF_ap : varF i ρ = (match ρ[i]? with
  | some (.d x) => .ok x ρ
  | some (.own xs) => .ok (.list xs) (ρ.set i (.d (.list xs)))
  | _ => .bad) := id rfl
@[simp] theorem varF_apc {e0 : Ent} : varF i (e0 :: ρ) = (match (e0 :: ρ)[i]? with
  | some (.d x) => .ok x (e0 :: ρ)
  | some (.own xs) => .ok (.list xs) ((e0 :: ρ).set i (.d (.list xs)))
  | _ => .bad) := varF_ap
variable {F F1 F2 : Rho → Res PyData} {A : Rho → Res (List PyData)} {T1 T2 : Rho → Res Bool} {S1 S2 : Rho → Out} {T : Tg} {g2 : PyData → PyData → Option PyData} {g1 : PyData → Option PyData} {gs : List PyData → Option PyData} {fn : Fn}
theorem cF_ap : cF x ρ = .ok x ρ := id rfl
@[simp] theorem cF_apc {e0 : Ent} : cF x (e0 :: ρ) = .ok x (e0 :: ρ) := cF_ap
theorem binF_ap : binF g2 F1 F2 ρ = (F1 ρ).bind fun d ρ => (F2 ρ).bind fun e ρ => optR (g2 d e) ρ := id rfl
@[simp] theorem binF_apc {e0 : Ent} : binF g2 F1 F2 (e0 :: ρ) = (F1 (e0 :: ρ)).bind fun d ρ => (F2 ρ).bind fun e ρ => optR (g2 d e) ρ := binF_ap
theorem unF_ap : unF g1 F ρ = (F ρ).bind fun d ρ => optR (g1 d) ρ := id rfl
@[simp] theorem unF_apc {e0 : Ent} : unF g1 F (e0 :: ρ) = (F (e0 :: ρ)).bind fun d ρ => optR (g1 d) ρ := unF_ap
@[simp] theorem isB_b {b : Bool} : isB (.bool b) = some b := id rfl
theorem testF_ap : testF F ρ = (F ρ).bind fun d ρ => optR (isB d) ρ := id rfl
@[simp] theorem testF_apc {e0 : Ent} : testF F (e0 :: ρ) = (F (e0 :: ρ)).bind fun d ρ => optR (isB d) ρ := testF_ap
theorem truF_ap : truF F ρ = (F ρ).bind fun d ρ => optR (truth d) ρ := id rfl
@[simp] theorem truF_apc {e0 : Ent} : truF F (e0 :: ρ) = (F (e0 :: ρ)).bind fun d ρ => optR (truth d) ρ := truF_ap
@[simp] theorem truth_b {b : Bool} : truth (.bool b) = some b := id rfl
@[simp] theorem truth_l : truth (.list xs) = some (!xs.isEmpty) := id rfl
@[simp] theorem truth_t : truth (.tuple xs) = some (!xs.isEmpty) := id rfl
@[simp] theorem itemsQ_apc {e0 : Ent} : itemsQ F (e0 :: ρ) = (F (e0 :: ρ)).bind fun d ρ => match d with
  | .list ds => .ok ds ρ
  | .tuple ds => .ok ds ρ
  | .str x => .ok (charsD x) ρ
  | _ => .bad := id rfl
@[simp] theorem bTuple_l : bTuple (.list xs) = some (.tuple xs) := id rfl
@[simp] theorem bList_t : bList (.tuple xs) = some (.list xs) := id rfl
theorem andT_ap : andT T1 T2 ρ = (T1 ρ).bind fun b ρ => if b = true then T2 ρ else .ok false ρ := id rfl
@[simp] theorem andT_apc {e0 : Ent} : andT T1 T2 (e0 :: ρ) = (T1 (e0 :: ρ)).bind fun b ρ => if b = true then T2 ρ else .ok false ρ := andT_ap
theorem orT_ap : orT T1 T2 ρ = (T1 ρ).bind fun b ρ => if b = true then .ok true ρ else T2 ρ := id rfl
@[simp] theorem orT_apc {e0 : Ent} : orT T1 T2 (e0 :: ρ) = (T1 (e0 :: ρ)).bind fun b ρ => if b = true then .ok true ρ else T2 ρ := orT_ap
theorem notT_ap : notT T1 ρ = (T1 ρ).bind fun b ρ => .ok (!b) ρ := id rfl
@[simp] theorem notT_apc {e0 : Ent} : notT T1 (e0 :: ρ) = (T1 (e0 :: ρ)).bind fun b ρ => .ok (!b) ρ := notT_ap
theorem andV_ap : andV F1 F2 ρ = (testF F1 ρ).bind fun b ρ => if b = true then F2 ρ else .ok (.bool false) ρ := id rfl
@[simp] theorem andV_apc {e0 : Ent} : andV F1 F2 (e0 :: ρ) = (testF F1 (e0 :: ρ)).bind fun b ρ => if b = true then F2 ρ else .ok (.bool false) ρ := andV_ap
theorem orV_ap : orV F1 F2 ρ = (testF F1 ρ).bind fun b ρ => if b = true then .ok (.bool true) ρ else F2 ρ := id rfl
@[simp] theorem orV_apc {e0 : Ent} : orV F1 F2 (e0 :: ρ) = (testF F1 (e0 :: ρ)).bind fun b ρ => if b = true then .ok (.bool true) ρ else F2 ρ := orV_ap
theorem notV_ap : notV F ρ = (testF F ρ).bind fun b ρ => .ok (.bool (!b)) ρ := id rfl
@[simp] theorem notV_apc {e0 : Ent} : notV F (e0 :: ρ) = (testF F (e0 :: ρ)).bind fun b ρ => .ok (.bool (!b)) ρ := notV_ap
theorem nilA_ap : nilA ρ = .ok [] ρ := id rfl
@[simp] theorem nilA_apc {e0 : Ent} : nilA (e0 :: ρ) = .ok [] (e0 :: ρ) := nilA_ap
theorem consA_ap : consA F A ρ = (F ρ).bind fun d ρ => (A ρ).bind fun ds ρ => .ok (d :: ds) ρ := id rfl
@[simp] theorem consA_apc {e0 : Ent} : consA F A (e0 :: ρ) = (F (e0 :: ρ)).bind fun d ρ => (A ρ).bind fun ds ρ => .ok (d :: ds) ρ := consA_ap
theorem tupF_ap : tupF A ρ = (A ρ).bind fun ds ρ => if ds.length ≤ 16777216 then .ok (.tuple ds) ρ else .bad := by
  unfold tupF; rw [sizeLine_eq]
@[simp] theorem tupF_apc {e0 : Ent} : tupF A (e0 :: ρ) = (A (e0 :: ρ)).bind fun ds ρ => if ds.length ≤ 16777216 then .ok (.tuple ds) ρ else .bad := tupF_ap
theorem lstF_ap : lstF A ρ = (A ρ).bind fun ds ρ => if ds.length ≤ 16777216 then .ok (.list ds) ρ else .bad := by
  unfold lstF; rw [sizeLine_eq]
@[simp] theorem lstF_apc {e0 : Ent} : lstF A (e0 :: ρ) = (A (e0 :: ρ)).bind fun ds ρ => if ds.length ≤ 16777216 then .ok (.list ds) ρ else .bad := lstF_ap
theorem appF_ap : appF gs A ρ = (A ρ).bind fun ds ρ => optR (gs ds) ρ := id rfl
@[simp] theorem appF_apc {e0 : Ent} : appF gs A (e0 :: ρ) = (A (e0 :: ρ)).bind fun ds ρ => optR (gs ds) ρ := appF_ap
def frR : FR → Rho → Res PyData
  | .ok d, ρ => .ok d ρ
  | .ex e, ρ => .ex e ρ
  | .bad, _ => .bad
@[simp] theorem frR_ok : frR (.ok x) ρ = .ok x ρ := id rfl
theorem callF_ap : callF fn A ρ = (A ρ).bind fun ds ρ => frR (fn ds) ρ := by
  unfold callF
  congr 1
  funext ds ρ
  cases fn ds <;> rfl
@[simp] theorem callF_apc {e0 : Ent} : callF fn A (e0 :: ρ) = (A (e0 :: ρ)).bind fun ds ρ => frR (fn ds) ρ := callF_ap
@[simp] theorem app1_ap : app1 g1 [x] = g1 x := id rfl
@[simp] theorem app2_ap : app2 g2 [x, y] = g2 x y := id rfl
theorem seqS_ap : seqS S1 S2 ρ = (S1 ρ).bind S2 := id rfl
@[simp] theorem seqS_apc {e0 : Ent} : seqS S1 S2 (e0 :: ρ) = (S1 (e0 :: ρ)).bind S2 := seqS_ap
theorem nxS_ap : nxS ρ = .nx ρ := id rfl
@[simp] theorem nxS_apc {e0 : Ent} : nxS (e0 :: ρ) = .nx (e0 :: ρ) := nxS_ap
@[simp] theorem optS_some : optS (some ρ) = .nx ρ := id rfl
theorem asgS_ap : asgS F T ρ = (F ρ).out fun d ρ => optS (T d ρ) := id rfl
@[simp] theorem asgS_apc {e0 : Ent} : asgS F T (e0 :: ρ) = (F (e0 :: ρ)).out fun d ρ => optS (T d ρ) := asgS_ap
@[simp] theorem nameT_ap : nameT i x ρ = if i < ρ.length then some (ρ.set i (.d x)) else none := id rfl
@[simp] theorem nilTs_ap : nilTs [] ρ = some ρ := id rfl
@[simp] theorem consTs_ap {U : Tgs} : consTs T U (x :: ds) ρ = (T x ρ).bind fun ρ => U ds ρ := id rfl
@[simp] theorem tupT_ap {U : Tgs} : tupT n U (.tuple ds) ρ = if ds.length = n then U ds ρ else none := id rfl
theorem ownS_ap : ownS A i ρ = (A ρ).out fun ds ρ => if ds.length ≤ 16777216 ∧ i < ρ.length then .nx (ρ.set i (.own ds)) else .bad := by
  unfold ownS; rw [sizeLine_eq]
@[simp] theorem ownS_apc {e0 : Ent} : ownS A i (e0 :: ρ) = (A (e0 :: ρ)).out fun ds ρ => if ds.length ≤ 16777216 ∧ i < ρ.length then .nx (ρ.set i (.own ds)) else .bad := ownS_ap
theorem parS_ap : parS A i j ρ = (A ρ).out fun ds ρ => match ds with
  | [d, e] => if i < ρ.length ∧ j < ρ.length then .nx ((ρ.set i (.d d)).set j (.d e)) else .bad
  | _ => .bad := id rfl
@[simp] theorem parS_apc {e0 : Ent} : parS A i j (e0 :: ρ) = (A (e0 :: ρ)).out fun ds ρ => match ds with
  | [d, e] => if i < ρ.length ∧ j < ρ.length then .nx ((ρ.set i (.d d)).set j (.d e)) else .bad
  | _ => .bad := parS_ap
theorem retS_ap : retS F ρ = (F ρ).out fun d _ => .rt d := id rfl
@[simp] theorem retS_apc {e0 : Ent} : retS F (e0 :: ρ) = (F (e0 :: ρ)).out fun d _ => .rt d := retS_ap
theorem ifS_ap : ifS T1 S1 S2 ρ = (T1 ρ).out fun b ρ => if b = true then S1 ρ else S2 ρ := id rfl
@[simp] theorem ifS_apc {e0 : Ent} : ifS T1 S1 S2 (e0 :: ρ) = (T1 (e0 :: ρ)).out fun b ρ => if b = true then S1 ρ else S2 ρ := ifS_ap
@[simp] theorem newDS_apc {e0 : Ent} : newDS i (e0 :: ρ) = if i < (e0 :: ρ).length then .nx ((e0 :: ρ).set i (.dct [])) else .bad := id rfl
@[simp] theorem isDct_dct {kvs : List (Key × PyData)} : isDct (some (.dct kvs)) = true := id rfl
@[simp] theorem dEnt_dct {kvs : List (Key × PyData)} : dEnt (some (.dct kvs)) = some kvs := id rfl
@[simp] theorem dEnt_rdd {kvs : List (Key × PyData)} : dEnt (some (.rdd kvs)) = some kvs := id rfl
@[simp] theorem keyOf_s {x : Str} : keyOf (.str x) = some (.inr x) := id rfl
theorem putS_ap {Fk Fv : Rho → Res PyData} : putS i Fk Fv ρ = (Fv ρ).out fun v ρ => if isDct ρ[i]? = true then (Fk ρ).out fun k ρ => match ρ[i]?, keyOf k with
  | some (.dct kvs), some k => if kvs.length < 16777216 then .nx (ρ.set i (.dct (putD kvs k v))) else .bad
  | _, _ => .bad
  else .bad := by
  unfold putS; rw [sizeLine_eq] <;> rfl
@[simp] theorem putS_apc {Fk Fv : Rho → Res PyData} {e0 : Ent} : putS i Fk Fv (e0 :: ρ) = (Fv (e0 :: ρ)).out fun v ρ => if isDct ρ[i]? = true then (Fk ρ).out fun k ρ => match ρ[i]?, keyOf k with
  | some (.dct kvs), some k => if kvs.length < 16777216 then .nx (ρ.set i (.dct (putD kvs k v))) else .bad
  | _, _ => .bad
  else .bad := putS_ap
@[simp] theorem dixF_apc {Fk : Rho → Res PyData} {e0 : Ent} : dixF i Fk (e0 :: ρ) = if (dEnt (e0 :: ρ)[i]?).isSome = true then (Fk (e0 :: ρ)).bind fun k ρ => match dEnt ρ[i]?, keyOf k with
  | some kvs, some k => optR (valD kvs k) ρ
  | _, _ => .bad
  else .bad := by unfold dixF; exact id rfl
@[simp] theorem dgetF_apc {Fk Fz : Rho → Res PyData} {e0 : Ent} : dgetF i Fk Fz (e0 :: ρ) = if (dEnt (e0 :: ρ)[i]?).isSome = true then (Fk (e0 :: ρ)).bind fun k ρ => (Fz ρ).bind fun z ρ => match dEnt ρ[i]?, keyOf k with
  | some kvs, some k => .ok ((valD kvs k).getD z) ρ
  | _, _ => .bad
  else .bad := by unfold dgetF; exact id rfl
@[simp] theorem dsortF_apc {e0 : Ent} : dsortF i (e0 :: ρ) = match (dEnt (e0 :: ρ)[i]?).bind keysS with
  | some ks => if ks.length < 64 then .ok (.list ((sortS ks).map PyData.str)) (e0 :: ρ) else .bad
  | none => match (dEnt (e0 :: ρ)[i]?).bind keysI with
    | some ks => if ks.length < 64 then .ok (.list ((sortI ks).map PyData.int)) (e0 :: ρ) else .bad
    | none => .bad := by unfold dsortF; exact id rfl
@[simp] theorem newS_apc {L : Rho → Res (List PyData)} {e0 : Ent} : newS L i (e0 :: ρ) = (L (e0 :: ρ)).out fun ds ρ => if i < ρ.length then .nx (ρ.set i (.own ds)) else .bad := id rfl
@[simp] theorem cutL_apc {L U : Po} {e0 : Ent} : cutL F L U (e0 :: ρ) = (F (e0 :: ρ)).bind fun d ρ => (L ρ).bind fun l ρ => (U ρ).bind fun u ρ => match d with
  | .list xs => .ok (cutD xs l u) ρ
  | _ => .bad := by unfold cutL; exact id rfl
theorem catL_ap : catL F1 F2 ρ = (F1 ρ).bind fun d ρ => (F2 ρ).bind fun e ρ => match d, e with
  | .list xs, .list ys => if xs.length + ys.length ≤ 16777216 then .ok (xs ++ ys) ρ else .bad
  | _, _ => .bad := by unfold catL; rw [sizeLine_eq] <;> rfl
@[simp] theorem catL_apc {e0 : Ent} : catL F1 F2 (e0 :: ρ) = (F1 (e0 :: ρ)).bind fun d ρ => (F2 ρ).bind fun e ρ => match d, e with
  | .list xs, .list ys => if xs.length + ys.length ≤ 16777216 then .ok (xs ++ ys) ρ else .bad
  | _, _ => .bad := catL_ap
@[simp] theorem lsetS_apc {Fk Fv : Rho → Res PyData} {e0 : Ent} : lsetS i Fk Fv (e0 :: ρ) = (Fv (e0 :: ρ)).out fun v ρ => if isOwn ρ[i]? = true then (Fk ρ).out fun k ρ => match ρ[i]?, k with
  | some (.own xs), .int k => (match ixN xs.length k with
    | some j => .nx (ρ.set i (.own (xs.set j v)))
    | none => .bad)
  | _, _ => .bad
  else .bad := by unfold lsetS; exact id rfl
@[simp] theorem isaF_apc {T : String} {e0 : Ent} : isaF T F (e0 :: ρ) = (F (e0 :: ρ)).bind fun d ρ => optR (isaD T d) ρ := id rfl
@[simp] theorem dictS_apc {e0 : Ent} : dictS F i (e0 :: ρ) = (F (e0 :: ρ)).out fun d ρ => match (itemsOf d).bind pairsD with
  | some kvs => if i < ρ.length then .nx (ρ.set i (.dct (mergeD [] kvs))) else .bad
  | none => .bad := by unfold dictS; exact id rfl
@[simp] theorem itemsOf_t : itemsOf (.tuple xs) = some xs := id rfl
@[simp] theorem isOwn_own : isOwn (some (.own xs)) = true := id rfl
theorem appendS_ap : appendS i F ρ = if isOwn ρ[i]? = true then (F ρ).out fun d ρ => match ρ[i]? with
  | some (.own xs) => if xs.length < 16777216 then .nx (ρ.set i (.own (xs ++ [d]))) else .bad
  | _ => .bad
  else .bad := by
  unfold appendS; rw [sizeLine_eq] <;> rfl
@[simp] theorem appendS_apc {e0 : Ent} : appendS i F (e0 :: ρ) = if isOwn (e0 :: ρ)[i]? = true then (F (e0 :: ρ)).out fun d ρ => match ρ[i]? with
  | some (.own xs) => if xs.length < 16777216 then .nx (ρ.set i (.own (xs ++ [d]))) else .bad
  | _ => .bad
  else .bad := appendS_ap
theorem forS_ap {Fi : Rho → Res (List PyData)} : forS Fi T S1 ρ = (Fi ρ).out fun ds ρ => loopS T S1 ds ρ := id rfl
@[simp] theorem forS_apc {Fi : Rho → Res (List PyData)} {e0 : Ent} : forS Fi T S1 (e0 :: ρ) = (Fi (e0 :: ρ)).out fun ds ρ => loopS T S1 ds ρ := forS_ap
@[simp] theorem loopS_nil : loopS T S1 [] ρ = .nx ρ := id rfl
@[simp] theorem range1F_apc {e0 : Ent} : range1F A (e0 :: ρ) = (A (e0 :: ρ)).bind rng1 := id rfl
theorem rng1_ok {j : Int} (h0 : -1000000 ≤ j) (h1 : j ≤ 1000000) : rng1 [.int j] ρ = .ok (rangeL 0 j.toNat) ρ := by
  exact iteC_pos (by constructor <;> omega)
theorem rng1_nat {n : Nat} (h : n ≤ 1000000) : rng1 [.int (n : Int)] ρ = .ok (rangeL 0 n) ρ := by
  rw [rng1_ok (by omega) (by omega)]
  simp
@[simp] theorem outFR_rt : outFR (.rt x) = .ok x := id rfl
@[simp] theorem dAdd_i {a b : Int} : dAdd (.int a) (.int b) = some (.int (a + b)) := id rfl
@[simp] theorem dSub_i {a b : Int} : dSub (.int a) (.int b) = some (.int (a - b)) := id rfl
theorem dMod_i {a b : Int} : dMod (.int a) (.int b) = if b ≠ 0 then some (.int (a.fmod b)) else none := id rfl
theorem dPow_ok {a b : Int} (h : 0 ≤ b ∧ b ≤ 1000000 ∧ a.natAbs < 2 ^ 64) : dPow (.int a) (.int b) = some (.int (a ^ b.toNat)) := iteC_pos h
@[simp] theorem dNeg_i {a : Int} : dNeg (.int a) = some (.int (-a)) := id rfl
@[simp] theorem dLt_i {a b : Int} : dLt (.int a) (.int b) = some (.bool (decide (a < b))) := id rfl
@[simp] theorem dLe_i {a b : Int} : dLe (.int a) (.int b) = some (.bool (decide (a ≤ b))) := id rfl
@[simp] theorem dGt_i {a b : Int} : dGt (.int a) (.int b) = some (.bool (decide (b < a))) := id rfl
@[simp] theorem dGe_i {a b : Int} : dGe (.int a) (.int b) = some (.bool (decide (b ≤ a))) := id rfl
@[simp] theorem dEq_i {a b : Int} : dEq (.int a) (.int b) = some (.bool (a == b)) := id rfl
@[simp] theorem dNe_i {a b : Int} : dNe (.int a) (.int b) = some (.bool (!(a == b))) := id rfl
@[simp] theorem bLen_l : bLen (.list xs) = some (.int xs.length) := id rfl
@[simp] theorem bLen_t : bLen (.tuple xs) = some (.int xs.length) := id rfl
@[simp] theorem bMax_i {a b : Int} : bMax (.int a) (.int b) = some (.int (if b > a then b else a)) := id rfl
@[simp] theorem bMin_i {a b : Int} : bMin (.int a) (.int b) = some (.int (if b < a then b else a)) := id rfl
@[simp] theorem bGcd_i {a b : Int} : bGcd (.int a) (.int b) = some (.int ((Nat.gcd a.natAbs b.natAbs : Nat) : Int)) := id rfl
def Sm (a : Int) : Prop := a.natAbs.log2 < 400000
def Sd (a : Int) : Prop := a ≠ 0 ∧ a.natAbs.log2 < 9000
theorem dMul_ok {a b : Int} (ha : Sm a) (hb : Sm b) : dMul (.int a) (.int b) = some (.int (a * b)) := by
  refine iteC_pos ?_
  unfold Sm at ha hb
  omega
theorem dDiv_ok {a b : Int} (hb : Sd b) : dDiv (.int a) (.int b) = some (.int (a.fdiv b)) := by
  exact iteC_pos hb
theorem dMod_ok {a b : Int} (hb : b ≠ 0) : dMod (.int a) (.int b) = some (.int (a.fmod b)) := by
  rw [dMod_i, if_pos hb]
def Bt (n : Nat) (a : Int) : Prop := a.natAbs < 2 ^ n
theorem Bt.log {n : Nat} {a : Int} (h : Bt n a) (h0 : 0 < n) : a.natAbs.log2 < n := PySem.Flt.log2_lt_of h0 h
theorem Bt.sm {n : Nat} {a : Int} (h : Bt n a) (hn : n ≤ 400000) : Sm a := by
  unfold Sm
  have : Bt (n + 1) a := Nat.lt_of_lt_of_le h (Nat.pow_le_pow_right (by decide) (Nat.le_succ n))
  by_cases h0 : 0 < n
  · exact Nat.lt_of_lt_of_le (h.log h0) hn
  · have e : n = 0 := by omega
    subst e
    unfold Bt at h
    have : a.natAbs = 0 := by simpa using h
    rw [this]
    decide
theorem Bt.sd {n : Nat} {a : Int} (h : Bt n a) (ha : a ≠ 0) (h0 : 0 < n) (hn : n ≤ 9000) : Sd a := ⟨ha, Nat.lt_of_lt_of_le (h.log h0) hn⟩
theorem Bt.mono {n k : Nat} {a : Int} (h : Bt n a) (hn : n ≤ k) : Bt k a := Nat.lt_of_lt_of_le h (Nat.pow_le_pow_right (by decide) hn)
theorem Bt.mul {n k : Nat} {a b : Int} (h : Bt n a) (q : Bt k b) : Bt (n + k) (a * b) := wide_lt h q
theorem Bt.add {n : Nat} {a b : Int} (h : Bt n a) (q : Bt n b) : Bt (n + 1) (a + b) := by
  unfold Bt at *
  rw [Nat.pow_succ]
  omega
theorem Bt.neg {n : Nat} {a : Int} (h : Bt n a) : Bt n (-a) := by
  unfold Bt at *
  omega
theorem Bt.le {n : Nat} {a b : Int} (h : Bt n b) (q : a.natAbs ≤ b.natAbs) : Bt n a := Nat.lt_of_le_of_lt q h
@[simp] theorem dIx_l0 : dIx (.list (x :: xs)) (.int 0) = some x := by
  show atI (x :: xs) ((0 : Nat) : Int) = _
  exact atI_nat rfl
@[simp] theorem dIx_t0 : dIx (.tuple (x :: xs)) (.int 0) = some x := by
  show atI (x :: xs) ((0 : Nat) : Int) = _
  exact atI_nat rfl
theorem dIx_l (h : xs[i]? = some x) : dIx (.list xs) (.int (i : Int)) = some x := atI_nat h
theorem dIx_t (h : xs[i]? = some x) : dIx (.tuple xs) (.int (i : Int)) = some x := atI_nat h
@[simp] theorem dIx_t1 : dIx (.tuple (x :: y :: xs)) (.int 1) = some y := dIx_t (i := 1) rfl
@[simp] theorem dIx_t2 : dIx (.tuple (x :: y :: z :: xs)) (.int 2) = some z := dIx_t (i := 2) rfl
@[simp] theorem dIx_l1 : dIx (.list (x :: y :: xs)) (.int 1) = some y := dIx_l (i := 1) rfl
theorem loopS_cons {d : PyData} {ρ1 : Rho} (h : T d ρ = some ρ1) : loopS T S1 (d :: ds) ρ = match S1 ρ1 with
      | .nx ρ2 => loopS T S1 ds ρ2
      | .ct ρ2 => loopS T S1 ds ρ2
      | .bk ρ2 => .nx ρ2
      | o => o := by
  show (match T d ρ with
    | none => _
    | some ρ1 => _) = _
  rw [h] <;> rfl
theorem loopS_inv (I : Nat → Rho → Prop) (ds : List PyData) (h : ∀ (k : Nat) (d : PyData) (ρ : Rho), ds[k]? = some d → I k ρ → ∃ ρ1 ρ2, T d ρ = some ρ1 ∧ S1 ρ1 = .nx ρ2 ∧ I (k + 1) ρ2) :
    ∀ ρ, I 0 ρ → ∃ ρ', loopS T S1 ds ρ = .nx ρ' ∧ I ds.length ρ' := by
  induction ds generalizing I with
  | nil => intro ρ h0; exact ⟨ρ, rfl, h0⟩
  | cons d ds ih =>
    intro ρ h0
    obtain ⟨ρ1, ρ2, h1, h2, h3⟩ := h 0 d ρ rfl h0
    obtain ⟨ρ', e, q⟩ := ih (fun k => I (k + 1)) (fun k d ρ hd => h (k + 1) d ρ (by simpa using hd)) ρ2 h3
    refine ⟨ρ', ?_, q⟩
    rw [loopS_cons h1, h2]
    exact e
theorem rangeL_get {a : Int} {n k : Nat} {d : PyData} (h : (rangeL a n)[k]? = some d) : d = .int (a + k) ∧ k < n := by
  unfold rangeL at h
  rw [List.getElem?_map] at h
  have hk : k < n := by
    apply Classical.byContradiction
    intro z
    rw [List.getElem?_eq_none (by simp; omega)] at h
    cases h
  rw [List.getElem?_range hk] at h
  cases h
  exact ⟨rfl, hk⟩
@[simp] theorem rangeL_len {a : Int} {n : Nat} : (rangeL a n).length = n := by unfold rangeL; simp
end
end DL
namespace DL
open PySem PySem.Spec PyProof.Rows L2 RT
noncomputable def lS_cell : Rho → Out := (seqS (ifS (testF (binF dLt (varF 1) (appF (app1 bLen) (consA (varF 0) nilA)))) (retS (binF dIx (varF 0) (varF 1))) nxS) (retS (cF (.int 0))))
noncomputable def lB_cell (a0 a1 : PyData) : FR := outFR (lS_cell [.d a0, .d a1])
noncomputable def lm_cell : Fn := fn2 lB_cell
noncomputable def lS_draw : Rho → Out := (seqS (asgS (callF lm_cell (consA (varF 0) (consA (varF 1) nilA))) (nameT 3)) (seqS (ifS (testF (binF dLt (varF 3) (cF (.int 0)))) (asgS (unF dNeg (varF 3)) (nameT 3)) nxS) (seqS (ownS nilA 4) (seqS (ifS (testF (binF dGe (varF 3) (binF dPow (cF (.int 10)) (cF (.int 18))))) (seqS (asgS (binF dSub (varF 3) (binF dPow (cF (.int 10)) (cF (.int 18)))) (nameT 3)) (seqS (forS (itemsQ (varF 2)) (nameT 5) (seqS (appendS 4 (binF dMod (varF 3) (varF 5))) (asgS (binF dDiv (varF 3) (varF 5)) (nameT 3)))) (retS (varF 4)))) nxS) (seqS (asgS (binF dMod (binF dAdd (binF dAdd (varF 3) (cF (.int 1))) (binF dMul (cF (.int 31)) (varF 1))) (cF (.int 2147483647))) (nameT 6)) (seqS (forS (range1F (consA (appF (app1 bLen) (consA (varF 2) nilA)) nilA)) (nameT 7) (seqS (asgS (binF dMod (binF dAdd (binF dAdd (binF dMul (varF 6) (cF (.int 48271))) (cF (.int 11))) (varF 7)) (cF (.int 2147483647))) (nameT 6)) (seqS (asgS (binF dMod (binF dAdd (binF dMul (varF 6) (cF (.int 69621))) (cF (.int 3))) (cF (.int 2147483647))) (nameT 6)) (appendS 4 (binF dMod (binF dDiv (varF 6) (cF (.int 7))) (binF dIx (varF 2) (varF 7))))))) (retS (varF 4))))))))
noncomputable def lB_draw (a0 a1 a2 : PyData) : FR := outFR (lS_draw [.d a0, .d a1, .d a2, .un, .un, .un, .un, .un])
noncomputable def lm_draw : Fn := fn3 lB_draw
noncomputable def lS_f : Rho → Out := (seqS (ifS (testF (binF dLt (varF 1) (cF (.int 0)))) (seqS (asgS (unF dNeg (varF 0)) (nameT 0)) (asgS (unF dNeg (varF 1)) (nameT 1))) nxS) (seqS (asgS (appF (app2 bMax) (consA (varF 0) (consA (unF dNeg (varF 0)) nilA))) (nameT 2)) (seqS (asgS (varF 1) (nameT 3)) (seqS (whileS (testF (binF dNe (varF 3) (cF (.int 0)))) (parS (consA (varF 3) (consA (binF dMod (varF 2) (varF 3)) nilA)) 2 3)) (retS (tupF (consA (binF dDiv (varF 0) (varF 2)) (consA (binF dDiv (varF 1) (varF 2)) nilA))))))))
noncomputable def lB_f (a0 a1 : PyData) : FR := outFR (lS_f [.d a0, .d a1, .un, .un])
noncomputable def lm_f : Fn := fn2 lB_f
abbrev iL (ns : List Int) : PyData := .list (ns.map PyData.int)
def Dig : List Int → List Int → Prop
  | [], [] => True
  | d :: ds, z :: zs => (0 ≤ d ∧ d < z) ∧ Dig ds zs
  | _, _ => False
theorem Dig.snoc : ∀ {ds zs : List Int} {d z : Int}, Dig ds zs → 0 ≤ d → d < z → Dig (ds ++ [d]) (zs ++ [z])
  | [], [], _, _, _, h1, h2 => ⟨⟨h1, h2⟩, trivial⟩
  | _ :: _, _ :: _, _, _, h, h1, h2 => ⟨h.1, Dig.snoc h.2 h1 h2⟩
  | [], _ :: _, _, _, h, _, _ => h.elim
  | _ :: _, [], _, _, h, _, _ => h.elim
theorem cell_ok (ns : List Int) (k : Nat) : ∃ c : Int, lB_cell (iL ns) (.int k) = .ok (.int c) := by
  by_cases h : k < ns.length
  · have e : (ns.map PyData.int)[k]? = some (.int ns[k]) := by simp [h]
    refine ⟨ns[k], ?_⟩
    simp [lB_cell, lS_cell, iL, h, dIx_l e]
  · refine ⟨0, ?_⟩
    simp [lB_cell, lS_cell, iL, h]
theorem fmod_digit {c z : Int} (hz : 0 < z) : 0 ≤ c.fmod z ∧ c.fmod z < z := by
  rw [Int.fmod_eq_emod_of_nonneg c (by omega)]
  exact ⟨Int.emod_nonneg c (by omega), Int.emod_lt_of_pos c hz⟩
theorem loop1 (e0 e1 e2 e6 e7 : Ent) : ∀ (zs acc : List Int) (c : Int) (e5 : Ent), (∀ z ∈ zs, 0 < z ∧ z < 1073741824) → acc.length + zs.length ≤ 1000 →
    ∃ ds e5' c', loopS (nameT 5) (seqS (appendS 4 (binF dMod (varF 3) (varF 5))) (asgS (binF dDiv (varF 3) (varF 5)) (nameT 3))) (zs.map PyData.int) [e0, e1, e2, .d (.int c), .own (acc.map PyData.int), e5, e6, e7] =
      .nx [e0, e1, e2, .d (.int c'), .own ((acc ++ ds).map PyData.int), e5', e6, e7] ∧ Dig ds zs
  | [], acc, c, e5, _, _ => ⟨[], e5, c, by simp, trivial⟩
  | z :: zs, acc, c, e5, hz, hl => by
    obtain ⟨hz1, hz2⟩ := hz z List.mem_cons_self
    have hl' : acc.length + (zs.length + 1) ≤ 1000 := hl
    obtain ⟨ds, e5', c', h1, h2⟩ := loop1 e0 e1 e2 e6 e7 zs (acc ++ [c.fmod z]) (c.fdiv z) (.d (.int z)) (fun y hy => hz y (List.mem_cons_of_mem _ hy)) (by simp; omega)
    refine ⟨c.fmod z :: ds, e5', c', ?_, ⟨fmod_digit hz1, h2⟩⟩
    have sd : Sd z := Bt.sd (n := 30) (by unfold Bt; omega) (by omega) (by decide) (by decide)
    have zn : z ≠ 0 := by omega
    have lt : acc.length < 16777216 := by omega
    rw [List.map_cons, loopS_cons (ρ1 := [e0, e1, e2, .d (.int c), .own (acc.map PyData.int), .d (.int z), e6, e7]) (by simp)]
    simp [dMod_ok, dDiv_ok, sd, zn, lt]
    simpa using h1
theorem Dig.len : ∀ {ds zs : List Int}, Dig ds zs → ds.length = zs.length
  | [], [], _ => rfl
  | _ :: _, _ :: _, h => by simp [Dig.len h.2]
  | [], _ :: _, h => h.elim
  | _ :: _, [], h => h.elim
theorem loop2 (M : Int) (hM : 0 < M ∧ M < 2147483648) (e0 e1 e3 e5 : Ent) (zs : List Int) (hz : ∀ z ∈ zs, 0 < z ∧ z < 1073741824) (hl : zs.length ≤ 1000) (s7 : Int) (h0 : 0 ≤ s7 ∧ s7 < M) (e7 : Ent) :
    ∃ ρ', loopS (nameT 7) (seqS (asgS (binF dMod (binF dAdd (binF dAdd (binF dMul (varF 6) (cF (.int 48271))) (cF (.int 11))) (varF 7)) (cF (.int M))) (nameT 6)) (seqS (asgS (binF dMod (binF dAdd (binF dMul (varF 6) (cF (.int 69621))) (cF (.int 3))) (cF (.int M))) (nameT 6)) (appendS 4 (binF dMod (binF dDiv (varF 6) (cF (.int 7))) (binF dIx (varF 2) (varF 7))))))
      (rangeL 0 zs.length) [e0, e1, .d (iL zs), e3, .own [], e5, .d (.int s7), e7] = .nx ρ' ∧ ∃ (ds : List Int) (s8 : Int) (e8 : Ent), ρ' = [e0, e1, .d (iL zs), e3, .own (ds.map PyData.int), e5, .d (.int s8), e8] ∧ Dig ds zs := by
  have L := loopS_inv (T := nameT 7) (S1 := (seqS (asgS (binF dMod (binF dAdd (binF dAdd (binF dMul (varF 6) (cF (.int 48271))) (cF (.int 11))) (varF 7)) (cF (.int M))) (nameT 6)) (seqS (asgS (binF dMod (binF dAdd (binF dMul (varF 6) (cF (.int 69621))) (cF (.int 3))) (cF (.int M))) (nameT 6)) (appendS 4 (binF dMod (binF dDiv (varF 6) (cF (.int 7))) (binF dIx (varF 2) (varF 7)))))))
    (fun k ρ => ∃ (ds : List Int) (s8 : Int) (e8 : Ent), ρ = [e0, e1, .d (iL zs), e3, .own (ds.map PyData.int), e5, .d (.int s8), e8] ∧ (0 ≤ s8 ∧ s8 < M) ∧ Dig ds (zs.take k)) (rangeL 0 zs.length) (fun k d ρ hd ⟨ds, s8, e8, hρ, hs, hg⟩ => ?_) [e0, e1, .d (iL zs), e3, .own [], e5, .d (.int s7), e7] ⟨[], s7, e7, rfl, h0, trivial⟩
  · obtain ⟨ρ', h1, ds, s8, e8, h2, _, h4⟩ := L
    rw [rangeL_len, List.take_length] at h4
    exact ⟨ρ', h1, ds, s8, e8, h2, h4⟩
  · obtain ⟨rfl, hk⟩ := rangeL_get hd
    subst hρ
    have sm1 : Sm s8 := Bt.sm (n := 31) (by unfold Bt; omega) (by decide)
    have sm2 : ∀ a : Int, Sm (a.fmod M) := fun a => by
      have := fmod_digit (c := a) (z := M) hM.1
      exact Bt.sm (n := 31) (by unfold Bt; omega) (by decide)
    have c1 : Sm 48271 := Bt.sm (n := 31) (by unfold Bt; decide) (by decide)
    have c2 : Sm 69621 := Bt.sm (n := 31) (by unfold Bt; decide) (by decide)
    have mn : M ≠ 0 := by omega
    have c7 : Sd 7 := Bt.sd (n := 31) (by unfold Bt; decide) (by decide) (by decide) (by decide)
    have ez : (zs.map PyData.int)[k]? = some (.int zs[k]) := by simp [hk]
    obtain ⟨hz1, hz2⟩ := hz zs[k] (List.getElem_mem hk)
    have zn : zs[k] ≠ 0 := by omega
    have hlen : ds.length < 16777216 := by
      rw [hg.len, List.length_take]
      omega
    have q := fmod_digit (c := ((s8 * 48271 + 11 + k).fmod M * 69621 + 3).fmod M |>.fdiv 7) hz1
    refine ⟨[e0, e1, .d (iL zs), e3, .own (ds.map PyData.int), e5, .d (.int s8), .d (.int (k : Int))],
      [e0, e1, .d (iL zs), e3, .own ((ds ++ [((((s8 * 48271 + 11 + k).fmod M * 69621 + 3).fmod M).fdiv 7).fmod zs[k]]).map PyData.int), e5, .d (.int (((s8 * 48271 + 11 + k).fmod M * 69621 + 3).fmod M)), .d (.int (k : Int))], by simp, ?_, _, _, _, rfl, fmod_digit hM.1, ?_⟩
    · simp [dMod_ok, dMul_ok, dDiv_ok, sm1, sm2, c1, c2, c7, dIx_l ez, zn, hlen, mn]
    · rw [List.take_succ_eq_append_getElem hk]
      exact hg.snoc q.1 q.2
theorem e18 : (10 : Int) ^ 18 = 1000000000000000000 := by decide +kernel
def e18I : Int := 1000000000000000000
theorem p10 : dPow (.int 10) (.int 18) = some (.int e18I) := by
  have : (10 : Int) ^ (18 : Int).toNat = e18I := e18
  rw [dPow_ok (by decide), this]
noncomputable def drawTail (M : Int) : Rho → Out := (seqS (ownS nilA 4) (seqS (ifS (testF (binF dGe (varF 3) (binF dPow (cF (.int 10)) (cF (.int 18))))) (seqS (asgS (binF dSub (varF 3) (binF dPow (cF (.int 10)) (cF (.int 18)))) (nameT 3)) (seqS (forS (itemsQ (varF 2)) (nameT 5) (seqS (appendS 4 (binF dMod (varF 3) (varF 5))) (asgS (binF dDiv (varF 3) (varF 5)) (nameT 3)))) (retS (varF 4)))) nxS) (seqS (asgS (binF dMod (binF dAdd (binF dAdd (varF 3) (cF (.int 1))) (binF dMul (cF (.int 31)) (varF 1))) (cF (.int M))) (nameT 6)) (seqS (forS (range1F (consA (appF (app1 bLen) (consA (varF 2) nilA)) nilA)) (nameT 7) (seqS (asgS (binF dMod (binF dAdd (binF dAdd (binF dMul (varF 6) (cF (.int 48271))) (cF (.int 11))) (varF 7)) (cF (.int M))) (nameT 6)) (seqS (asgS (binF dMod (binF dAdd (binF dMul (varF 6) (cF (.int 69621))) (cF (.int 3))) (cF (.int M))) (nameT 6)) (appendS 4 (binF dMod (binF dDiv (varF 6) (cF (.int 7))) (binF dIx (varF 2) (varF 7))))))) (retS (varF 4))))))
theorem lS_draw_eq : lS_draw = seqS (asgS (callF lm_cell (consA (varF 0) (consA (varF 1) nilA))) (nameT 3)) (seqS (ifS (testF (binF dLt (varF 3) (cF (.int 0)))) (asgS (unF dNeg (varF 3)) (nameT 3)) nxS) (drawTail 2147483647)) := rfl
section
variable (M : Int) (hM : 0 < M ∧ M < 2147483648) (ns : List Int) (k : Nat) (hk : k < 1000) (zs : List Int) (hz : ∀ z ∈ zs, 0 < z ∧ z < 1073741824) (hl : zs.length ≤ 1000) (c : Int)
include hz hl
theorem draw_a (h2 : e18I ≤ c) : ∃ ds : List Int, outFR (drawTail M [.d (iL ns), .d (.int k), .d (iL zs), .d (.int c), .un, .un, .un, .un]) = .ok (iL ds) ∧ Dig ds zs := by
  obtain ⟨ds, e5', c', h3, h4⟩ := loop1 (.d (iL ns)) (.d (.int k)) (.d (iL zs)) .un .un zs [] (c - e18I) .un hz (by simpa using hl)
  refine ⟨ds, ?_, h4⟩
  simp only [List.map_nil] at h3
  simp [drawTail, p10, h2, h3]
include hk hM
theorem draw_b (h2 : ¬ e18I ≤ c) : ∃ ds : List Int, outFR (drawTail M [.d (iL ns), .d (.int k), .d (iL zs), .d (.int c), .un, .un, .un, .un]) = .ok (iL ds) ∧ Dig ds zs := by
  have mn : M ≠ 0 := by omega
  have sk : Sm (k : Int) := Bt.sm (n := 31) (by unfold Bt; omega) (by decide)
  have c31 : Sm 31 := Bt.sm (n := 31) (by unfold Bt; decide) (by decide)
  obtain ⟨ρ', h3, ds, s8, e8, h4, h5⟩ := loop2 M hM (.d (iL ns)) (.d (.int k)) (.d (.int c)) .un zs hz hl ((c + 1 + 31 * k).fmod M) (fmod_digit hM.1) .un
  subst h4
  refine ⟨ds, ?_, h5⟩
  have hr : rng1 [.int ((zs.length : Nat) : Int)] = fun ρ => .ok (rangeL 0 zs.length) ρ := by
    funext ρ
    exact rng1_nat (by omega)
  simp [drawTail, p10, h2, dMul_ok, sk, c31, dMod_ok, iL, hr, mn] at h3 ⊢
  simp [h3]
omit hM in
theorem draw_ok : ∃ ds : List Int, lB_draw (iL ns) (.int k) (iL zs) = .ok (iL ds) ∧ Dig ds zs := by
  obtain ⟨c, hc⟩ := cell_ok ns k
  have hc2 : lm_cell [iL ns, .int k] = .ok (.int c) := hc
  have main : ∀ c : Int, ∃ ds : List Int, outFR (drawTail 2147483647 [.d (iL ns), .d (.int k), .d (iL zs), .d (.int c), .un, .un, .un, .un]) = .ok (iL ds) ∧ Dig ds zs := fun c => by
    by_cases h2 : e18I ≤ c
    · exact draw_a _ ns k zs hz hl c h2
    · exact draw_b _ (by decide) ns k hk zs hz hl c h2
  by_cases h1 : c < 0
  · obtain ⟨ds, e, q⟩ := main (-c)
    refine ⟨ds, ?_, q⟩
    rw [← e]
    simp [lB_draw, lS_draw_eq, hc2, h1]
  · obtain ⟨ds, e, q⟩ := main c
    refine ⟨ds, ?_, q⟩
    rw [← e]
    simp [lB_draw, lS_draw_eq, hc2, h1]
end
end DL
namespace DL
open PySem PySem.Spec PyProof.Rows L2 RT
def nrm (t b : Int) : Int × Int := if b < 0 then (-t / (Nat.gcd t.natAbs b.natAbs : Int), -b / (Nat.gcd t.natAbs b.natAbs : Int)) else (t / (Nat.gcd t.natAbs b.natAbs : Int), b / (Nat.gcd t.natAbs b.natAbs : Int))
abbrev N (p : Int × Int) : PyData := .tuple [.int p.1, .int p.2]
@[simp] theorem nn_shaped (a b : Int) : SeqAt.shaped (.tuple [.int a, .int b]) = true := id rfl
@[simp] theorem eqv_nn (a b c d : Int) : PyData.eqv (.tuple [.int a, .int b]) (.tuple [.int c, .int d]) = (a == c && b == d) := by
  simp [PyData.eqv, PyData.eqvAll]
@[simp] theorem dNe_nn (a b c d : Int) : dNe (.tuple [.int a, .int b]) (.tuple [.int c, .int d]) = some (.bool (!(a == c && b == d))) := by
  simp [dNe]
@[simp] theorem dEq_nn (a b c d : Int) : dEq (.tuple [.int a, .int b]) (.tuple [.int c, .int d]) = some (.bool (a == c && b == d)) := by
  simp [dEq]
theorem gcd_pos {t b : Int} (hb : b ≠ 0) : 0 < (Nat.gcd t.natAbs b.natAbs : Int) := by
  have : 0 < Nat.gcd t.natAbs b.natAbs := Nat.gcd_pos_of_pos_right _ (by omega)
  omega
theorem gcd_dvd_t {t b : Int} : (Nat.gcd t.natAbs b.natAbs : Int) ∣ t := Int.natAbs_dvd_natAbs.mp (by simpa using Nat.gcd_dvd_left t.natAbs b.natAbs)
theorem gcd_dvd_b {t b : Int} : (Nat.gcd t.natAbs b.natAbs : Int) ∣ b := Int.natAbs_dvd_natAbs.mp (by simpa using Nat.gcd_dvd_right t.natAbs b.natAbs)
theorem gcd_bt {n : Nat} {t b : Int} (hb : b ≠ 0) (h : Bt n b) : Bt n (Nat.gcd t.natAbs b.natAbs : Int) := by
  refine h.le ?_
  have : Nat.gcd t.natAbs b.natAbs ≤ b.natAbs := Nat.le_of_dvd (by omega) (Nat.gcd_dvd_right _ _)
  simpa using this
theorem fdiv_exact {x g : Int} (hg : 0 < g) (h : g ∣ x) : x.fdiv g = x / g := Int.fdiv_eq_ediv_of_nonneg x (by omega)
theorem fdiv_exact_neg {x g : Int} (hg : 0 < g) (h : g ∣ x) : x.fdiv (-g) = -x / g := by
  obtain ⟨y, rfl⟩ := h
  have e : -(g * y) = g * (-y) := by rw [Int.mul_neg]
  rw [e, Int.mul_ediv_cancel_left _ (by omega)]
  have : g * y = (-g) * (-y) := by rw [Int.neg_mul_neg]
  rw [this, Int.mul_fdiv_cancel_left _ (by omega)]
theorem euclid_loop (e0 e1 : Ent) : ∀ (n : Nat) (m : Nat), whileS (testF (binF dNe (varF 3) (cF (.int 0)))) (parS (consA (varF 3) (consA (binF dMod (varF 2) (varF 3)) nilA)) 2 3) [e0, e1, .d (.int (m : Int)), .d (.int (n : Int))] =
    .nx [e0, e1, .d (.int (Nat.gcd n m : Int)), .d (.int 0)] := by
  intro n
  induction n using Nat.strongRecOn with
  | _ n ih =>
    intro m
    rw [whileS_eq]
    by_cases h : n = 0
    · subst h
      simp
    · have h' : (n : Int) ≠ 0 := by omega
      have e : (m : Int).fmod (n : Int) = ((m % n : Nat) : Int) := by
        rw [Int.fmod_eq_emod_of_nonneg _ (by omega)]
        simp
      simp [h, dMod_ok, h', e]
      have q := ih (m % n) (Nat.mod_lt _ (by omega)) n
      rw [Nat.gcd_rec n m]
      simpa using q
theorem lawf_ok {t b : Int} (hb : b ≠ 0) {n : Nat} (h0 : 0 < n) (hn : n ≤ 9000) (h : Bt n b) : lB_f (.int t) (.int b) = .ok (N (nrm t b)) := by
  have g0 := gcd_pos (t := t) hb
  have sg : Sd (Nat.gcd t.natAbs b.natAbs : Int) := (gcd_bt hb h).sd (by omega) h0 hn
  unfold nrm
  by_cases h1 : b < 0
  · have eb : (-b) = ((-b).natAbs : Int) := by omega
    have et : (if -(-t) > -t then -(-t) else -t) = ((t.natAbs : Nat) : Int) := by split <;> omega
    have L := euclid_loop (.d (.int (-t))) (.d (.int (-b))) (-b).natAbs t.natAbs
    rw [Int.natAbs_neg] at L
    have e2 : ((b.natAbs : Nat) : Int) = -b := by omega
    rw [e2, Nat.gcd_comm] at L
    have sg' : Sd ((Nat.gcd b.natAbs t.natAbs : Nat) : Int) := by rw [Nat.gcd_comm]; exact sg
    have f1 : (-t).fdiv (Nat.gcd t.natAbs b.natAbs : Int) = -t / (Nat.gcd t.natAbs b.natAbs : Int) := Int.fdiv_eq_ediv_of_nonneg _ (by omega)
    have f2 : (-b).fdiv (Nat.gcd t.natAbs b.natAbs : Int) = -b / (Nat.gcd t.natAbs b.natAbs : Int) := Int.fdiv_eq_ediv_of_nonneg _ (by omega)
    have et' : (if -t < - -t then - -t else -t) = ((t.natAbs : Nat) : Int) := by split <;> omega
    rw [Int.neg_neg] at et'
    simp [lB_f, lS_f, h1, et', L, dDiv_ok, sg, f1, f2, N]
  · have et' : (if t < -t then -t else t) = ((t.natAbs : Nat) : Int) := by split <;> omega
    have L := euclid_loop (.d (.int t)) (.d (.int b)) b.natAbs t.natAbs
    have e2 : ((b.natAbs : Nat) : Int) = b := by omega
    rw [e2, Nat.gcd_comm] at L
    have f1 : t.fdiv (Nat.gcd t.natAbs b.natAbs : Int) = t / (Nat.gcd t.natAbs b.natAbs : Int) := Int.fdiv_eq_ediv_of_nonneg _ (by omega)
    have f2 : b.fdiv (Nat.gcd t.natAbs b.natAbs : Int) = b / (Nat.gcd t.natAbs b.natAbs : Int) := Int.fdiv_eq_ediv_of_nonneg _ (by omega)
    simp [lB_f, lS_f, h1, et', L, dDiv_ok, sg, f1, f2, N]
theorem nrm_pos {t b : Int} (hb : b ≠ 0) : 0 < (nrm t b).2 := by
  have g0 := gcd_pos (t := t) hb
  unfold nrm
  by_cases h : b < 0
  · rw [if_pos h]
    obtain ⟨y, hy⟩ := gcd_dvd_b (t := t) (b := b)
    generalize (Nat.gcd t.natAbs b.natAbs : Int) = g at *
    show 0 < -b / g
    rw [hy, ← Int.mul_neg, Int.mul_ediv_cancel_left _ (by omega)]
    apply Classical.byContradiction
    intro z
    have : 0 ≤ g * y := Int.mul_nonneg (by omega) (by omega)
    omega
  · rw [if_neg h]
    obtain ⟨y, hy⟩ := gcd_dvd_b (t := t) (b := b)
    generalize (Nat.gcd t.natAbs b.natAbs : Int) = g at *
    show 0 < b / g
    rw [hy, Int.mul_ediv_cancel_left _ (by omega)]
    apply Classical.byContradiction
    intro z
    have : 0 ≤ g * (-y) := Int.mul_nonneg (by omega) (by omega)
    rw [Int.mul_neg] at this
    omega
theorem nrm_cross {t b : Int} (hb : b ≠ 0) : (nrm t b).1 * b = t * (nrm t b).2 := by
  have g0 := gcd_pos (t := t) hb
  obtain ⟨y, hy⟩ := gcd_dvd_b (t := t) (b := b)
  obtain ⟨x, hx⟩ := gcd_dvd_t (t := t) (b := b)
  unfold nrm
  generalize (Nat.gcd t.natAbs b.natAbs : Int) = g at *
  by_cases h : b < 0
  · rw [if_pos h]
    show -t / g * b = t * (-b / g)
    rw [hx, hy, ← Int.mul_neg, Int.mul_ediv_cancel_left _ (by omega), ← Int.mul_neg, Int.mul_ediv_cancel_left _ (by omega)]
    rw [Int.neg_mul, Int.mul_neg, Int.neg_inj, Int.mul_left_comm, Int.mul_assoc]
  · rw [if_neg h]
    show t / g * b = t * (b / g)
    rw [hx, hy, Int.mul_ediv_cancel_left _ (by omega), Int.mul_ediv_cancel_left _ (by omega), Int.mul_left_comm, Int.mul_assoc]
theorem ediv_natAbs_le {x g : Int} (hg : 0 < g) (h : g ∣ x) : (x / g).natAbs ≤ x.natAbs := by
  obtain ⟨y, rfl⟩ := h
  rw [Int.mul_ediv_cancel_left _ (by omega), Int.natAbs_mul]
  exact Nat.le_mul_of_pos_left _ (by omega)
theorem nrm_bt1 {n : Nat} {t b : Int} (hb : b ≠ 0) (h : Bt n t) : Bt n (nrm t b).1 := by
  have g0 := gcd_pos (t := t) hb
  refine h.le ?_
  unfold nrm
  by_cases h : b < 0
  · rw [if_pos h]
    have := ediv_natAbs_le g0 (Int.dvd_neg.mpr (gcd_dvd_t (t := t) (b := b)))
    rw [Int.natAbs_neg] at this
    exact this
  · rw [if_neg h]
    exact ediv_natAbs_le g0 gcd_dvd_t
theorem nrm_bt2 {n : Nat} {t b : Int} (hb : b ≠ 0) (h : Bt n b) : Bt n (nrm t b).2 := by
  have g0 := gcd_pos (t := t) hb
  refine h.le ?_
  unfold nrm
  by_cases h : b < 0
  · rw [if_pos h]
    have := ediv_natAbs_le g0 (Int.dvd_neg.mpr (gcd_dvd_b (t := t) (b := b)))
    rw [Int.natAbs_neg] at this
    exact this
  · rw [if_neg h]
    exact ediv_natAbs_le g0 gcd_dvd_b
end DL
namespace DL
open PySem PySem.Spec PyProof.Rows L2 RT
section
variable {X : L2.Cx} {B : Bx} {W : WX}
def rLcm : List V → Hp → VK → Prop := fun vs H Q => ∃ a b : Int, vs = [.int a, .int b] ∧ (a.natAbs.log2 < 9000 ∧ b.natAbs.log2 < 9000) ∧ Q (.int ((Nat.lcm a.natAbs b.natAbs : Nat) : Int)) H
theorem log_max {a b : Nat} (ha : a.log2 < 9000) (hb : b.log2 < 9000) : (max a b).log2 < 9000 := by
  rcases Nat.le_total a b with h | h
  · rw [Nat.max_eq_right h]; exact hb
  · rw [Nat.max_eq_left h]; exact ha
theorem log2_lt_pow {a n : Nat} (h0 : 0 < n) (h : a.log2 < n) : a < 2 ^ n := by
  by_cases h1 : a = 0
  · subst h1; exact Nat.pow_pos (by decide)
  · exact (Nat.log2_lt h1).mp h
theorem cr_lcm : CallR X (.builtin "math.lcm") rLcm := by
  intro pins s σ H vs us Q I r h
  obtain ⟨a, b, rfl, hl, q⟩ := h
  obtain ⟨t, u, rfl⟩ := Vals.int2 r
  have h1 : (max 1 a.natAbs).log2 < 9000 := log_max (by decide) hl.1
  have h2 : (max a.natAbs b.natAbs).log2 < 9000 := log_max hl.1 hl.2
  have e : (Nat.lcm 1 a.natAbs).lcm b.natAbs = Nat.lcm a.natAbs b.natAbs := by rw [Nat.lcm_one_left]
  have hsz : (((Nat.lcm 1 a.natAbs).lcm b.natAbs : Nat) : Int).natAbs.log2 < bitsLine := by
    rw [e, Int.natAbs_natCast]
    have l1 : Nat.lcm a.natAbs b.natAbs ≤ a.natAbs * b.natAbs := Nat.div_le_self _ _
    have l2 : a.natAbs * b.natAbs < 2 ^ 18000 := by
      have := Nat.mul_lt_mul'' (log2_lt_pow (by decide) hl.1) (log2_lt_pow (by decide) hl.2)
      rw [← Nat.pow_add] at this
      exact this
    have l3 : (Nat.lcm a.natAbs b.natAbs).log2 < 18000 := PySem.Flt.log2_lt_of (by decide) (Nat.lt_of_le_of_lt l1 l2)
    have l4 : 18000 ≤ bitsLine := by decide
    omega
  refine call_function_meets PySem.W.MGF.kind_lcm PySem.W.MGF.plain_lcm PySem.W.MGF.entry_lcm (PySem.W.MGF.args_lcm _ _) (PySem.W.mg_run_lcm a t b u (by omega) (by omega) hsz).meets ?_
  rw [e]
  exact ⟨.int _, H, I.tok _, ⟨_, rfl⟩, q⟩
noncomputable def bLcm : PyData → PyData → Option PyData
  | .int a, .int b => iteC (a.natAbs.log2 < 9000 ∧ b.natAbs.log2 < 9000) (some (.int ((Nat.lcm a.natAbs b.natAbs : Nat) : Int))) none
  | _, _ => none
theorem rd_lcm : RDs X.K rLcm (app2 bLcm) := by
  refine rds2 fun G H x y d e z Q gh h1 h2 hz q => ?_
  cases d <;> cases e <;> first | (cases hz; done) | skip
  rename_i a b
  by_cases hc : a.natAbs.log2 < 9000 ∧ b.natAbs.log2 < 9000
  · rw [show bLcm (.int a) (.int b) = some (.int ((Nat.lcm a.natAbs b.natAbs : Nat) : Int)) from iteC_pos hc] at hz
    cases h1; cases h2; cases hz
    exact ⟨_, _, rfl, hc, q _ _ _ (Ext.refl gh) (.int _)⟩
  · rw [show bLcm (.int a) (.int b) = none from iteC_neg hc] at hz
    cases hz
end
theorem bLcm_ok {a b : Int} {n : Nat} (ha : Bt n a) (hb : Bt n b) (h0 : 0 < n) (hn : n ≤ 9000) : bLcm (.int a) (.int b) = some (.int ((Nat.lcm a.natAbs b.natAbs : Nat) : Int)) :=
  iteC_pos ⟨Nat.lt_of_lt_of_le (ha.log h0) hn, Nat.lt_of_lt_of_le (hb.log h0) hn⟩
section
variable {X : L2.Cx} {B : Bx} {W : WX}
def orL (F1 F2 : Rho → Res PyData) : Rho → Res PyData := fun ρ => (F1 ρ).bind fun d ρ => (optR (truth d) ρ).bind fun b ρ => if b = true then .ok d ρ else F2 ρ
@[simp] theorem orL_apc {F1 F2 : Rho → Res PyData} {e0 : Ent} {ρ : Rho} : orL F1 F2 (e0 :: ρ) = (F1 (e0 :: ρ)).bind fun d ρ => (optR (truth d) ρ).bind fun b ρ => if b = true then .ok d ρ else F2 ρ := id rfl
theorem truV_of {G H : Hp} {v : V} {d : PyData} {k : Bool} (dp1 : Dq X.K G v d) (gh : Same G H) (hk : truth d = some k) : TruV X.K v H k := by
  cases d <;> first | (cases hk; done) | skip
  · cases hk; cases dp1; exact rfl
  · cases hk; cases dp1; exact rfl
  · cases hk; cases dp1; exact rfl
  · cases dp1
    obtain ⟨hl, rfl⟩ := of_if hk
    exact ⟨hl, rfl⟩
  · cases hk
    cases dp1 with
    | lst a1 a2 => exact .inl ⟨_, gh.seq a1, by rw [empty_dp a2]⟩
  · cases hk
    cases dp1 with
    | tup a1 a2 => exact .inr (.inl ⟨_, seqT_same gh a1, by rw [empty_dp a2]⟩)
variable {a b : Expr} {rest : List Expr} {pos : Pos} {F1 F2 : Rho → Res PyData}
theorem pd_orL (ha : PE X a (tD (km X) B W F1)) (hb : PE X (.BoolOp .Or (b :: rest) pos) (tD (km X) B W F2)) : PE X (.BoolOp .Or (a :: b :: rest) pos) (tD (km X) B W (orL F1 F2)) := by
  refine (pe_orT ha hb).of ?_
  rintro σ H Q ⟨G, ρ, E, S⟩
  refine ⟨G, ρ, E, (Sat.bind S).imp fun d ρ1 s1 v G1 H1 E1 g1 dp1 => ?_⟩
  obtain ⟨k, hk, q⟩ := sat_opt (Sat.bind s1)
  refine ⟨k, truV_of dp1 E1.base.gh hk, ?_⟩
  cases k with
  | true =>
    rw [if_pos rfl] at q ⊢
    exact q v G1 H1 E1 g1 dp1
  | false =>
    rw [if_neg (by decide)] at q ⊢
    exact ⟨G1, ρ1, E1, (q.up g1).imp fun c2 ρ2 s2 v G2 H2 E2 g2 => s2 v G2 H2 E2 (g1.trans g2)⟩
end
def hidE : Ent → Ent
  | .own _ => .un
  | e => e
def hid (ρ : Rho) : Rho := ρ.map hidE
def blkO (ρ : Rho) : Rho := (hid ρ).map roE
section
variable {m : KM} {B : Bx} {G H G' H' : Hp} {σ : L2.St} {ρ : Rho}
theorem hid_get {i : Nat} {e : Ent} (h : (hid ρ)[i]? = some e) : ∃ e', ρ[i]? = some e' ∧ e = hidE e' := by
  unfold hid at h
  rw [List.getElem?_map] at h
  cases q : ρ[i]? with
  | none => rw [q] at h; cases h
  | some z => rw [q] at h; cases h; exact ⟨z, rfl, rfl⟩
theorem hid_noOwn (ρ : Rho) : noOwn (hid ρ) := fun i xs h => by
  obtain ⟨e', _, h2⟩ := hid_get h
  cases e' <;> cases h2
theorem DEnv.hid (E : DEnv m B G H σ ρ) : DEnv m B G H σ (DL.hid ρ) := by
  refine ⟨E.base, by unfold DL.hid; rw [List.length_map]; exact E.len, fun i e h => ?_, fun i j a xs ys h => absurd h (hid_noOwn ρ i xs), ?_⟩
  · obtain ⟨e', h1, rfl⟩ := hid_get h
    have q := E.ent i e' h1
    cases e' <;> first | exact .un | exact q
  · intro i j a kvs f h1 h2 h3
    obtain ⟨e1, a1, b1⟩ := hid_get h1
    obtain ⟨e2, a2, b2⟩ := hid_get h2
    have c1 : e1 = .dct kvs := by cases e1 <;> first | exact b1.symm | cases b1
    have c2 : dE e2 = true := by rw [b2] at h3; cases e2 <;> first | exact h3 | cases h3
    exact E.disD i j a kvs e2 (by rw [a1, c1]) a2 c2
theorem DEnv.frzNew2 {D : Addr} {o : List V} (E : DEnv m B G H σ ρ) (n : ∀ (i : Nat) (a : Addr) (xs : List PyData), ρ[i]? = some (.own xs) → σ[i]? = some (some (.ref a)) → a ≠ D) (hG : G D = none) (hH : H D = some (.lst o)) (hB : B.H D = none) : DEnv m B (upd G D (.lst o)) H σ ρ := by
  have sg : Same G (upd G D (.lst o)) := upd_same_of hG
  refine ⟨⟨E.base.g.trans sg, E.base.h, fun b u e => ?_, fun b h1 h2 => ?_⟩, E.len, fun i e h => ?_, E.dis, E.disD⟩
  · by_cases hb : b = D
    · subst hb; rw [upd_same] at e; cases e; exact hH
    · rw [upd_ne hb] at e; exact E.base.gh _ _ e
  · rw [upd_ne (fun z => h1 (by rw [z]; exact hB))]
    exact E.base.cap b h1 h2
  · have q := E.ent i e h
    generalize hs : σ[i]? = o2 at q
    cases q with
    | un => exact .un
    | d z => exact .d (dp_same sg _ _ z)
    | own z1 z2 z3 z4 =>
      refine .own z1 ?_ z3 (dpAll_same sg _ _ z4)
      rw [upd_ne (n i _ _ h hs)]
      exact z2
    | dct z1 z2 z3 z4 =>
      refine .dct z1 ?_ z3 (dk_same sg z4)
      rw [upd_ne (ne_of z1 hH fun z => nomatch z)]
      exact z2
    | rdd z1 z4 => exact .rdd z1 (dk_same sg z4)
    | ndc z1 z2 z3 z4 =>
      refine .ndc z1 ?_ z3 (ndk_same sg z4)
      rw [upd_ne (ne_of z1 hH fun z => nomatch z)]
      exact z2
end
section
variable {X : L2.Cx} {B : Bx} {W : WX} {pos : Pos} {vs : List Nat}
theorem t_lcO {Fi : Rho → Res (List PyData)} {T : Tg} {Tt : Rho → Res Bool} {F : Rho → Res PyData} {σ : L2.St} {H G : Hp} {ρ : Rho} {Q : VK} (E : DEnv (km X) B G H σ ρ) (S : Sat (km X) B W G σ (Fi ρ) fun ds ρ1 => (∀ v ∈ vs, v < ρ1.length) ∧ ∃ r, compL T Tt F (wipeR (blkO ρ1) vs) ds [] = some r ∧
      ∀ D accV G' H', DEnv (km X) B G' H' σ ρ1 → (∀ (i : Nat) (a : Addr) (xs : List PyData), ρ1[i]? = some (.own xs) → σ[i]? = some (some (.ref a)) → a ≠ D) → Same G G' → H' D = some (.lst accV) → G' D = none → B.H D = none → DqAll X.K G' accV r → Q (.ref D) H') :
    tLc (iD (km X) B W Fi) (gW (km X) vs T) (exT (km X) Tt) (exE (km X) F) vs σ H Q := by
  refine ⟨G, ρ, E, S.imp fun ds ρ1 s1 J G1 H1 E1 g1 wk D hD => ?_⟩
  obtain ⟨hv, r, hr, q⟩ := s1
  have Ef := E1.hid
  have no := hid_noOwn ρ1
  have hD0 : B.H D = none := E1.base.h.free hD
  have nd : ∀ (i : Nat) (a : Addr) (xs : List PyData), ρ1[i]? = some (.own xs) → σ[i]? = some (some (.ref a)) → a ≠ D := fun i a xs h hs e => by
    have q := E1.ent i _ h
    rw [hs] at q
    cases q with
    | own z1 z2 z3 z4 => rw [e, hD] at z1; cases z1
  refine ⟨fun i m H => m = ds.length - i ∧ i ≤ ds.length ∧ ∃ G acc accV, Ext G1 H1 G H ∧ H D = some (.lst accV) ∧ G D = none ∧ DqAll X.K G accV acc ∧ compL T Tt F (wipeR (blkO ρ1) vs) (ds.drop i) acc = some r,
    ⟨_, rfl, Nat.zero_le _, G1, [], [], Ext.newOwn Ef.base.gh hD, upd_same, Ef.base.gh.free hD, .nil, hr⟩, ?_⟩
  rintro i m H2 ⟨rfl, hi, G2, acc, accV, x2, hH, hG, da, hc⟩
  by_cases hl : i < ds.length
  · have hd : ds[i]? = some ds[i] := List.getElem?_eq_getElem hl
    obtain ⟨w1, w2⟩ := wk.go i _ G2 H2 x2.g x2.gh hd
    refine .inr ⟨w1, fun H' => ∃ G acc accV, Ext G1 H1 G H' ∧ H' D = some (.lst accV) ∧ G D = none ∧ DqAll X.K G accV acc ∧ compL T Tt F (wipeR (blkO ρ1) vs) (ds.drop (i + 1)) acc = some r, fun H' n => ⟨ds.length - (i + 1), by omega, rfl, hl, n⟩, fun v H3 y => ?_⟩
    obtain ⟨G3, x3, dp⟩ := w2 v H3 y
    have hH3 : H3 D = some (.lst accV) := x3.h _ _ hH
    have hG3 : G3 D = none := x3.cap D (by rw [hH]; exact fun z => nomatch z) hG
    have E3 : DEnv (km X) ⟨G3, H3⟩ G3 H3 σ (blkO ρ1) := Ef.anew no (x2.g.trans x3.g) (x2.h.trans x3.h) x3.gh
    have E3w := (E3.wipe vs (by unfold blkO DL.hid; rw [List.length_map, List.length_map]; exact hv)).1
    rw [List.drop_eq_getElem_cons hl] at hc
    unfold compL at hc
    cases hT : T ds[i] (wipeR (blkO ρ1) vs) with
    | none => rw [hT] at hc; cases hc
    | some ρ2 =>
      rw [hT] at hc
      dsimp only at hc
      refine ⟨⟨G3, H3⟩, G3, _, ds[i], ρ2, E3w, dp, hT, fun σ2 E2 w => ⟨?_, ?_⟩⟩
      · exact w.trans wipe_idem
      · refine ⟨⟨G3, H3⟩, G3, ρ2, E2, ?_⟩
        cases hTt : Tt ρ2 with
        | bad => rw [hTt] at hc; cases hc
        | ex x ρ3 => rw [hTt] at hc; cases hc
        | ok b ρ3 =>
          rw [hTt] at hc
          intro G4 H4 E4 g4
          have x4 : Ext G3 H3 G4 H4 := E4.base
          cases b with
          | false =>
            rw [if_neg (by decide)]
            exact ⟨G4, acc, accV, x2.trans (x3.trans x4), x4.h _ _ hH3, x4.cap D (by rw [hH3]; exact fun z => nomatch z) hG3, dpAll_same (x3.g.trans x4.g) _ _ da, hc⟩
          | true =>
            rw [if_pos rfl]
            dsimp only at hc
            refine ⟨⟨G3, H3⟩, G4, ρ3, E4, ?_⟩
            cases hF : F ρ3 with
            | bad => rw [hF] at hc; cases hc
            | ex x ρ4 => rw [hF] at hc; cases hc
            | ok y ρ4 =>
              rw [hF] at hc
              intro u G5 H5 E5 g5 dp5
              dsimp only at hc
              have x5 : Ext G3 H3 G5 H5 := E5.base
              have hH5 : H5 D = some (.lst accV) := x5.h _ _ hH3
              have hG5 : G5 D = none := x5.cap D (by rw [hH3]; exact fun z => nomatch z) hG3
              have x : Ext G1 H1 G5 H5 := x2.trans (x3.trans x5)
              by_cases hlen : acc.length < sizeLine
              · rw [if_pos hlen] at hc
                refine ⟨accV, hH5, by rw [da.len]; exact hlen, G5, acc ++ [y], accV ++ [u], ⟨x.g, fun b o e => ?_, fun b o e => ?_, x.cap⟩, upd_same, hG5, (dpAll_same (x3.g.trans x5.g) _ _ da).append (.cons dp5 .nil), hc⟩
                · rw [upd_ne (ne_of_none e hD)]
                  exact x.h _ _ e
                · rw [upd_ne (ne_of_none e hG5)]
                  exact x.gh _ _ e
              · rw [if_neg hlen] at hc
                cases hc
  · have hi' : i = ds.length := by omega
    subst hi'
    rw [List.drop_length] at hc
    unfold compL at hc
    cases hc
    exact .inl ⟨wk.stop _ G2 H2 x2.g x2.gh rfl, q D accV G2 H2 (E1.ext x2) nd (g1.trans x2.g) hH hG hD0 da⟩
def lcO (vs : List Nat) (Fi : Rho → Res (List PyData)) (T : Tg) (Tt : Rho → Res Bool) (F : Rho → Res PyData) : Rho → Res PyData := fun ρ => (Fi ρ).bind fun ds ρ1 =>
  if (∀ v ∈ vs, v < ρ1.length) then (match compL T Tt F (wipeR (blkO ρ1) vs) ds [] with
    | some r => .ok (.list r) ρ1
    | none => .bad) else .bad
theorem pd_lcO {elt tg iter : Expr} {ifs : List Expr} {scope : Scope} {own : List (Str × Nat)} {Fi : Rho → Res (List PyData)} {T : Tg} {Tt : Rho → Res Bool} {F : Rho → Res PyData} (hc : X.calm = true) (hN : X.N.Nodup) (hi : PI X tg iter (iD (km X) B W Fi)) (ok : BlkOk X.N X.env.scope scope own)
    (hg : ∀ (s : Shared) (H : Hp) (C : Addr) (cl : List (Str × Addr)) (fp : List Addr), PG (X.blk s H scope (compEnvC scope cl C X.env) fp) tg (gW (km X) (own.map (·.2)) T)) (ht : ∀ (s : Shared) (H : Hp) (C : Addr) (cl : List (Str × Addr)) (fp : List Addr), PTs (X.blk s H scope (compEnvC scope cl C X.env) fp) ifs (exT (km X) Tt))
    (he : ∀ (s : Shared) (H : Hp) (C : Addr) (cl : List (Str × Addr)) (fp : List Addr) (B : Bx), PE (X.blk s H scope (compEnvC scope cl C X.env) fp) elt (tD (km X) B (fun _ _ _ _ => False) F)) (hs : ∀ x, foldedSetIterable iter X.env x = pure x := by intro _; rfl) :
    PE X (.ListComp elt [⟨tg, iter, ifs, 0⟩] scope pos) (tD (km X) B W (lcO (own.map (·.2)) Fi T Tt F)) := by
  refine (pe_lc (te := exE (km X) F) hc hN hi ok hg ht (fun s H C cl fp => pe_ex (X := X.blk s H scope (compEnvC scope cl C X.env) fp) (he s H C cl fp)) hs).of ?_
  rintro σ H Q ⟨G, ρ, E, S⟩
  refine t_lcO E ((Sat.bind S).imp fun ds ρ1 s1 => ?_)
  by_cases hv : ∀ v ∈ own.map (·.2), v < ρ1.length
  · rw [if_pos hv] at s1
    refine ⟨hv, ?_⟩
    cases hr : compL T Tt F (wipeR (blkO ρ1) (own.map (·.2))) ds [] with
    | none => rw [hr] at s1; exact s1.elim
    | some r =>
      rw [hr] at s1
      refine ⟨r, rfl, fun D accV G' H' E' nd g' hH hG hB da => ?_⟩
      have sg : Same G' (upd G' D (.lst accV)) := upd_same_of hG
      exact s1 (.ref D) (upd G' D (.lst accV)) H' (E'.frzNew2 nd hG hH hB) (g'.trans sg) (.lst (SqL.of upd_same) (dpAll_same sg _ _ da))
  · rw [if_neg hv] at s1
    exact s1.elim
end
@[simp] theorem lcO_apc {vs : List Nat} {Fi : Rho → Res (List PyData)} {T : Tg} {Tt : Rho → Res Bool} {F : Rho → Res PyData} {e0 : Ent} {ρ : Rho} : lcO vs Fi T Tt F (e0 :: ρ) = (Fi (e0 :: ρ)).bind fun ds ρ1 =>
  if (∀ v ∈ vs, v < ρ1.length) then (match compL T Tt F (wipeR (blkO ρ1) vs) ds [] with
    | some r => .ok (.list r) ρ1
    | none => .bad) else .bad := id rfl
@[simp] theorem hidE_d {x : PyData} : hidE (.d x) = .d x := id rfl
@[simp] theorem hidE_own {xs : List PyData} : hidE (.own xs) = .un := id rfl
@[simp] theorem blkO_nil : blkO [] = [] := id rfl
@[simp] theorem blkO_cons {e : Ent} {ρ : Rho} : blkO (e :: ρ) = roE (hidE e) :: blkO ρ := id rfl
end DL
namespace DL
open PySem PySem.Spec PyProof.Rows L2 RT
noncomputable def PG.S_number : Rho → Out := (seqS (ifS (testF (binF dEq (varF 1) (cF (.int 0)))) (raiseS "NumberError") nxS) (seqS (asgS (appF (app2 bGcd) (consA (varF 0) (consA (varF 1) nilA))) (nameT 2)) (seqS (ifS (testF (binF dLt (varF 1) (cF (.int 0)))) (asgS (unF dNeg (varF 2)) (nameT 2)) nxS) (retS (tupF (consA (binF dDiv (varF 0) (varF 2)) (consA (binF dDiv (varF 1) (varF 2)) nilA)))))))
noncomputable def PG.B_number (a0 a1 : PyData) : FR := outFR (PG.S_number [.d a0, .d a1, .un])
noncomputable def PG.m_number : Fn := fn2 PG.B_number
noncomputable def PG.S_plus : Rho → Out := (seqS (asgS (varF 0) (tupT 2 (consTs (nameT 2) (consTs (nameT 3) nilTs)))) (seqS (asgS (varF 1) (tupT 2 (consTs (nameT 4) (consTs (nameT 5) nilTs)))) (retS (callF PG.m_number (consA (binF dAdd (binF dMul (varF 2) (varF 5)) (binF dMul (varF 4) (varF 3))) (consA (binF dMul (varF 3) (varF 5)) nilA))))))
noncomputable def PG.B_plus (a0 a1 : PyData) : FR := outFR (PG.S_plus [.d a0, .d a1, .un, .un, .un, .un])
noncomputable def PG.m_plus : Fn := fn2 PG.B_plus
noncomputable def PG.S_minus : Rho → Out := (seqS (asgS (varF 0) (tupT 2 (consTs (nameT 2) (consTs (nameT 3) nilTs)))) (seqS (asgS (varF 1) (tupT 2 (consTs (nameT 4) (consTs (nameT 5) nilTs)))) (retS (callF PG.m_number (consA (binF dSub (binF dMul (varF 2) (varF 5)) (binF dMul (varF 4) (varF 3))) (consA (binF dMul (varF 3) (varF 5)) nilA))))))
noncomputable def PG.B_minus (a0 a1 : PyData) : FR := outFR (PG.S_minus [.d a0, .d a1, .un, .un, .un, .un])
noncomputable def PG.m_minus : Fn := fn2 PG.B_minus
noncomputable def PG.S_times : Rho → Out := (retS (callF PG.m_number (consA (binF dMul (binF dIx (varF 0) (cF (.int 0))) (binF dIx (varF 1) (cF (.int 0)))) (consA (binF dMul (binF dIx (varF 0) (cF (.int 1))) (binF dIx (varF 1) (cF (.int 1)))) nilA))))
noncomputable def PG.B_times (a0 a1 : PyData) : FR := outFR (PG.S_times [.d a0, .d a1])
noncomputable def PG.m_times : Fn := fn2 PG.B_times
noncomputable def PG.S_compare : Rho → Out := (seqS (asgS (binF dMul (binF dIx (varF 0) (cF (.int 0))) (binF dIx (varF 1) (cF (.int 1)))) (nameT 2)) (seqS (asgS (binF dMul (binF dIx (varF 1) (cF (.int 0))) (binF dIx (varF 0) (cF (.int 1)))) (nameT 3)) (seqS (ifS (testF (binF dLt (varF 2) (varF 3))) (retS (unF dNeg (cF (.int 1)))) nxS) (seqS (ifS (testF (binF dGt (varF 2) (varF 3))) (retS (cF (.int 1))) nxS) (retS (cF (.int 0)))))))
noncomputable def PG.B_compare (a0 a1 : PyData) : FR := outFR (PG.S_compare [.d a0, .d a1, .un, .un])
noncomputable def PG.m_compare : Fn := fn2 PG.B_compare
noncomputable def PG.L_whole_factor_1 : Rho → Out := (seqS (asgS (appF (app2 bGcd) (consA (varF 1) (consA (varF 3) nilA))) (nameT 1)) (asgS (appF (app2 bLcm) (consA (varF 2) (consA (varF 4) nilA))) (nameT 2)))
noncomputable def PG.S_whole_factor : Rho → Out := (seqS (asgS (tupF (consA (cF (.int 0)) (consA (cF (.int 1)) nilA))) (tupT 2 (consTs (nameT 1) (consTs (nameT 2) nilTs)))) (seqS (forS (itemsQ (varF 0)) (tupT 2 (consTs (nameT 3) (consTs (nameT 4) nilTs))) PG.L_whole_factor_1) (retS (callF PG.m_number (consA (varF 2) (consA (varF 1) nilA))))))
noncomputable def PG.B_whole_factor (a0 : PyData) : FR := outFR (PG.S_whole_factor [.d a0, .un, .un, .un, .un])
noncomputable def PG.m_whole_factor : Fn := fn1 PG.B_whole_factor
noncomputable def PG.S_multiplied : Rho → Out := (retS (appF (app1 bTuple) (consA (lcF [2, 3] (itemsQ (varF 0)) (tupT 2 (consTs (nameT 2) (consTs (nameT 3) nilTs))) yesT (tupF (consA (varF 2) (consA (callF PG.m_times (consA (varF 3) (consA (varF 1) nilA))) nilA)))) nilA)))
noncomputable def PG.B_multiplied (a0 a1 : PyData) : FR := outFR (PG.S_multiplied [.d a0, .d a1, .un, .un])
noncomputable def PG.m_multiplied : Fn := fn2 PG.B_multiplied
noncomputable def PG.S_normal_factor : Rho → Out := (seqS (asgS (varF 0) (tupT 3 (consTs (nameT 1) (consTs (nameT 2) (consTs (nameT 3) nilTs))))) (seqS (ifS (andT (notT (truF (varF 1))) (testF (binF dEq (varF 3) (cF (.tuple [.int 0, .int 1]))))) (retS (cF (.tuple [.int 1, .int 1]))) nxS) (seqS (asgS (orL (lcF [5, 6] (itemsQ (varF 1)) (tupT 2 (consTs (nameT 5) (consTs (nameT 6) nilTs))) yesT (varF 6)) (lstF (consA (varF 3) nilA))) (nameT 4)) (seqS (asgS (callF PG.m_whole_factor (consA (varF 4) nilA)) (nameT 7)) (seqS (ifS (andT (testF (binF dEq (varF 2) (cF (.str "=")))) (testF (binF dLt (callF PG.m_compare (consA (binF dIx (varF 4) (cF (.int 0))) (consA (cF (.tuple [.int 0, .int 1])) nilA))) (cF (.int 0))))) (retS (callF PG.m_minus (consA (cF (.tuple [.int 0, .int 1])) (consA (varF 7) nilA)))) nxS) (retS (varF 7)))))))
noncomputable def PG.B_normal_factor (a0 : PyData) : FR := outFR (PG.S_normal_factor [.d a0, .un, .un, .un, .un, .un, .un, .un])
noncomputable def PG.m_normal_factor : Fn := fn1 PG.B_normal_factor
noncomputable def PG.S_normal : Rho → Out := (seqS (asgS (varF 0) (tupT 3 (consTs (nameT 1) (consTs (nameT 2) (consTs (nameT 3) nilTs))))) (seqS (asgS (callF PG.m_normal_factor (consA (varF 0) nilA)) (nameT 4)) (retS (tupF (consA (callF PG.m_multiplied (consA (varF 1) (consA (varF 4) nilA))) (consA (varF 2) (consA (callF PG.m_times (consA (varF 3) (consA (varF 4) nilA))) nilA)))))))
noncomputable def PG.B_normal (a0 : PyData) : FR := outFR (PG.S_normal [.d a0, .un, .un, .un, .un])
noncomputable def PG.m_normal : Fn := fn1 PG.B_normal
noncomputable def PG.L_value_1 : Rho → Out := (asgS (callF PG.m_plus (consA (varF 3) (consA (callF PG.m_times (consA (varF 6) (consA (dgetF 4 (varF 5) (cF (.tuple [.int 0, .int 1]))) nilA))) nilA))) (nameT 3))
noncomputable def PG.S_value : Rho → Out := (seqS (asgS (varF 0) (tupT 2 (consTs (nameT 2) (consTs (nameT 3) nilTs)))) (seqS (dictS (varF 1) 4) (seqS (forS (itemsQ (varF 2)) (tupT 2 (consTs (nameT 5) (consTs (nameT 6) nilTs))) PG.L_value_1) (retS (varF 3)))))
noncomputable def PG.B_value (a0 a1 : PyData) : FR := outFR (PG.S_value [.d a0, .d a1, .un, .un, .un, .un, .un])
noncomputable def PG.m_value : Fn := fn2 PG.B_value
noncomputable def PG.S_holds : Rho → Out := (seqS (asgS (varF 0) (tupT 3 (consTs (nameT 2) (consTs (nameT 3) (consTs (nameT 4) nilTs))))) (seqS (asgS (callF PG.m_compare (consA (callF PG.m_value (consA (tupF (consA (varF 2) (consA (cF (.tuple [.int 0, .int 1])) nilA))) (consA (varF 1) nilA))) (consA (varF 4) nilA))) (nameT 5)) (seqS (ifS (testF (binF dEq (varF 3) (cF (.str "=")))) (retS (binF dEq (varF 5) (cF (.int 0)))) nxS) (seqS (ifS (testF (binF dEq (varF 3) (cF (.str "<")))) (retS (binF dLt (varF 5) (cF (.int 0)))) nxS) (retS (binF dLe (varF 5) (cF (.int 0))))))))
noncomputable def PG.B_holds (a0 a1 : PyData) : FR := outFR (PG.S_holds [.d a0, .d a1, .un, .un, .un, .un])
noncomputable def PG.m_holds : Fn := fn2 PG.B_holds
noncomputable def PG.L_is_paper_1 : Rho → Out := (seqS (ifS (orT (testF (binF dLe (varF 3) (varF 2))) (testF (binF dGe (varF 3) (appF (app1 bLen) (consA (varF 0) nilA))))) (retS (cF (.bool false))) nxS) (seqS (asgS (callF PG.m_compare (consA (varF 4) (consA (cF (.tuple [.int 0, .int 1])) nilA))) (nameT 5)) (seqS (ifS (orT (testF (binF dEq (varF 5) (cF (.int 0)))) (andT (testF (binF dLt (varF 5) (cF (.int 0)))) (testF (binF dNe (binF dIx (binF dIx (varF 0) (varF 3)) (cF (.int 1))) (cF (.str "=")))))) (retS (cF (.bool false))) nxS) (asgS (varF 3) (nameT 2)))))
noncomputable def PG.S_is_paper : Rho → Out := (seqS (asgS (unF dNeg (cF (.int 1))) (nameT 2)) (seqS (forS (itemsQ (varF 1)) (tupT 2 (consTs (nameT 3) (consTs (nameT 4) nilTs))) PG.L_is_paper_1) (retS (cF (.bool true)))))
noncomputable def PG.B_is_paper (a0 a1 : PyData) : FR := outFR (PG.S_is_paper [.d a0, .d a1, .un, .un, .un, .un])
noncomputable def PG.m_is_paper : Fn := fn2 PG.B_is_paper
noncomputable def LH.S_add : Rho → Out := (retS (callF lm_f (consA (binF dAdd (binF dMul (binF dIx (varF 0) (cF (.int 0))) (binF dIx (varF 1) (cF (.int 1)))) (binF dMul (binF dIx (varF 1) (cF (.int 0))) (binF dIx (varF 0) (cF (.int 1))))) (consA (binF dMul (binF dIx (varF 0) (cF (.int 1))) (binF dIx (varF 1) (cF (.int 1)))) nilA))))
noncomputable def LH.B_add (a0 a1 : PyData) : FR := outFR (LH.S_add [.d a0, .d a1])
noncomputable def LH.m_add : Fn := fn2 LH.B_add
noncomputable def LH.S_sub : Rho → Out := (retS (callF lm_f (consA (binF dSub (binF dMul (binF dIx (varF 0) (cF (.int 0))) (binF dIx (varF 1) (cF (.int 1)))) (binF dMul (binF dIx (varF 1) (cF (.int 0))) (binF dIx (varF 0) (cF (.int 1))))) (consA (binF dMul (binF dIx (varF 0) (cF (.int 1))) (binF dIx (varF 1) (cF (.int 1)))) nilA))))
noncomputable def LH.B_sub (a0 a1 : PyData) : FR := outFR (LH.S_sub [.d a0, .d a1])
noncomputable def LH.m_sub : Fn := fn2 LH.B_sub
noncomputable def LH.S_mul : Rho → Out := (retS (callF lm_f (consA (binF dMul (binF dIx (varF 0) (cF (.int 0))) (binF dIx (varF 1) (cF (.int 0)))) (consA (binF dMul (binF dIx (varF 0) (cF (.int 1))) (binF dIx (varF 1) (cF (.int 1)))) nilA))))
noncomputable def LH.B_mul (a0 a1 : PyData) : FR := outFR (LH.S_mul [.d a0, .d a1])
noncomputable def LH.m_mul : Fn := fn2 LH.B_mul
noncomputable def LH.S_div : Rho → Out := (retS (callF lm_f (consA (binF dMul (binF dIx (varF 0) (cF (.int 0))) (binF dIx (varF 1) (cF (.int 1)))) (consA (binF dMul (binF dIx (varF 0) (cF (.int 1))) (binF dIx (varF 1) (cF (.int 0)))) nilA))))
noncomputable def LH.B_div (a0 a1 : PyData) : FR := outFR (LH.S_div [.d a0, .d a1])
noncomputable def LH.m_div : Fn := fn2 LH.B_div
noncomputable def LH.S_less : Rho → Out := (retS (binF dLt (binF dMul (binF dIx (varF 0) (cF (.int 0))) (binF dIx (varF 1) (cF (.int 1)))) (binF dMul (binF dIx (varF 1) (cF (.int 0))) (binF dIx (varF 0) (cF (.int 1))))))
noncomputable def LH.B_less (a0 a1 : PyData) : FR := outFR (LH.S_less [.d a0, .d a1])
noncomputable def LH.m_less : Fn := fn2 LH.B_less
noncomputable def LH.S_scaled : Rho → Out := (retS (tupF (consA (appF (app1 bTuple) (consA (lcF [2, 3] (itemsQ (binF dIx (varF 0) (cF (.int 0)))) (tupT 2 (consTs (nameT 2) (consTs (nameT 3) nilTs))) yesT (tupF (consA (varF 2) (consA (callF LH.m_mul (consA (varF 3) (consA (varF 1) nilA))) nilA)))) nilA)) (consA (binF dIx (varF 0) (cF (.int 1))) (consA (callF LH.m_mul (consA (binF dIx (varF 0) (cF (.int 2))) (consA (varF 1) nilA))) nilA)))))
noncomputable def LH.B_scaled (a0 a1 : PyData) : FR := outFR (LH.S_scaled [.d a0, .d a1, .un, .un])
noncomputable def LH.m_scaled : Fn := fn2 LH.B_scaled
noncomputable def LH.L_factor_1 : Rho → Out := (asgS (binF dMul (varF 5) (binF dIx (varF 7) (cF (.int 1)))) (nameT 5))
noncomputable def LH.L_factor_2 : Rho → Out := (parS (consA (varF 10) (consA (binF dMod (varF 9) (varF 10)) nilA)) 9 10)
noncomputable def LH.L_factor_3 : Rho → Out := (seqS (asgS (binF dMul (appF (app2 bMax) (consA (binF dIx (varF 7) (cF (.int 0))) (consA (unF dNeg (binF dIx (varF 7) (cF (.int 0)))) nilA))) (binF dDiv (varF 5) (binF dIx (varF 7) (cF (.int 1))))) (nameT 9)) (seqS (asgS (varF 8) (nameT 10)) (seqS (whileS (testF (binF dNe (varF 10) (cF (.int 0)))) LH.L_factor_2) (asgS (varF 9) (nameT 8)))))
noncomputable def LH.S_factor : Rho → Out := (seqS (asgS (varF 0) (tupT 3 (consTs (nameT 1) (consTs (nameT 2) (consTs (nameT 3) nilTs))))) (seqS (ifS (testF (binF dEq (appF (app1 bLen) (consA (varF 1) nilA)) (cF (.int 0)))) (seqS (ifS (testF (binF dEq (binF dIx (varF 3) (cF (.int 0))) (cF (.int 0)))) (retS (tupF (consA (cF (.int 1)) (consA (cF (.int 1)) nilA)))) nxS) (seqS (asgS (callF LH.m_div (consA (tupF (consA (cF (.int 1)) (consA (cF (.int 1)) nilA))) (consA (callF lm_f (consA (appF (app2 bMax) (consA (binF dIx (varF 3) (cF (.int 0))) (consA (unF dNeg (binF dIx (varF 3) (cF (.int 0)))) nilA))) (consA (binF dIx (varF 3) (cF (.int 1))) nilA))) nilA))) (nameT 4)) (seqS (ifS (andT (testF (binF dEq (varF 2) (cF (.str "=")))) (testF (binF dLt (binF dIx (varF 3) (cF (.int 0))) (cF (.int 0))))) (asgS (callF LH.m_mul (consA (varF 4) (consA (tupF (consA (unF dNeg (cF (.int 1))) (consA (cF (.int 1)) nilA))) nilA))) (nameT 4)) nxS) (retS (varF 4))))) nxS) (seqS (asgS (cF (.int 1)) (nameT 5)) (seqS (forS (itemsQ (varF 1)) (tupT 2 (consTs (nameT 6) (consTs (nameT 7) nilTs))) LH.L_factor_1) (seqS (asgS (cF (.int 0)) (nameT 8)) (seqS (forS (itemsQ (varF 1)) (tupT 2 (consTs (nameT 6) (consTs (nameT 7) nilTs))) LH.L_factor_3) (seqS (asgS (callF lm_f (consA (varF 5) (consA (varF 8) nilA))) (nameT 4)) (seqS (ifS (andT (testF (binF dEq (varF 2) (cF (.str "=")))) (testF (binF dLt (binF dIx (binF dIx (binF dIx (varF 1) (cF (.int 0))) (cF (.int 1))) (cF (.int 0))) (cF (.int 0))))) (asgS (callF LH.m_mul (consA (varF 4) (consA (tupF (consA (unF dNeg (cF (.int 1))) (consA (cF (.int 1)) nilA))) nilA))) (nameT 4)) nxS) (retS (varF 4))))))))))
noncomputable def LH.B_factor (a0 : PyData) : FR := outFR (LH.S_factor [.d a0, .un, .un, .un, .un, .un, .un, .un, .un, .un, .un])
noncomputable def LH.m_factor : Fn := fn1 LH.B_factor
noncomputable def LH.S_normal : Rho → Out := (retS (callF LH.m_scaled (consA (varF 0) (consA (callF LH.m_factor (consA (varF 0) nilA)) nilA))))
noncomputable def LH.B_normal (a0 : PyData) : FR := outFR (LH.S_normal [.d a0])
noncomputable def LH.L_parts_1 : Rho → Out := (putS 1 (varF 2) (callF LH.m_add (consA (dgetF 1 (varF 2) (tupF (consA (cF (.int 0)) (consA (cF (.int 1)) nilA)))) (consA (varF 3) nilA))))
noncomputable def LH.S_parts : Rho → Out := (seqS (newDS 1) (seqS (forS (itemsQ (varF 0)) (tupT 2 (consTs (nameT 2) (consTs (nameT 3) nilTs))) LH.L_parts_1) (retS (appF (app1 bTuple) (consA (lcF [2] (itemsQ (dsortF 1)) (nameT 2) (testF (binF dNe (binF dIx (dixF 1 (varF 2)) (cF (.int 0))) (cF (.int 0)))) (tupF (consA (varF 2) (consA (dixF 1 (varF 2)) nilA)))) nilA)))))
noncomputable def LH.B_parts (a0 : PyData) : FR := outFR (LH.S_parts [.d a0, .un, .un, .un])
noncomputable def LH.m_parts : Fn := fn1 LH.B_parts
noncomputable def LH.L_at_1 : Rho → Out := (asgS (callF LH.m_add (consA (varF 3) (consA (callF LH.m_mul (consA (varF 5) (consA (dgetF 2 (varF 4) (tupF (consA (cF (.int 0)) (consA (cF (.int 1)) nilA)))) nilA))) nilA))) (nameT 3))
noncomputable def LH.S_at : Rho → Out := (seqS (dictS (varF 1) 2) (seqS (asgS (tupF (consA (cF (.int 0)) (consA (cF (.int 1)) nilA))) (nameT 3)) (seqS (forS (itemsQ (varF 0)) (tupT 2 (consTs (nameT 4) (consTs (nameT 5) nilTs))) LH.L_at_1) (retS (varF 3)))))
noncomputable def LH.B_at (a0 a1 : PyData) : FR := outFR (LH.S_at [.d a0, .d a1, .un, .un, .un, .un])
noncomputable def LH.m_at : Fn := fn2 LH.B_at
noncomputable def LH.S_true : Rho → Out := (seqS (asgS (callF LH.m_at (consA (binF dIx (varF 0) (cF (.int 0))) (consA (varF 1) nilA))) (nameT 2)) (seqS (ifS (testF (binF dEq (binF dIx (varF 0) (cF (.int 1))) (cF (.str "=")))) (retS (binF dEq (varF 2) (binF dIx (varF 0) (cF (.int 2))))) nxS) (seqS (ifS (testF (binF dEq (binF dIx (varF 0) (cF (.int 1))) (cF (.str "<")))) (retS (callF LH.m_less (consA (varF 2) (consA (binF dIx (varF 0) (cF (.int 2))) nilA)))) nxS) (retS (notV (callF LH.m_less (consA (binF dIx (varF 0) (cF (.int 2))) (consA (varF 2) nilA))))))))
noncomputable def LH.B_true (a0 a1 : PyData) : FR := outFR (LH.S_true [.d a0, .d a1, .un])
noncomputable def LH.m_true : Fn := fn2 LH.B_true
noncomputable def LH.L_grid_1 : Rho → Out := (seqS (asgS (callF lm_draw (consA (varF 0) (consA (binF dAdd (varF 1) (varF 4)) (consA (lstF (consA (cF (.int 17)) (consA (cF (.int 17)) (consA (cF (.int 17)) (consA (cF (.int 17)) (consA (cF (.int 3)) nilA)))))) nilA)))) (nameT 5)) (appendS 3 (appF (app1 bTuple) (consA (lcO [6] (range1F (consA (appF (app1 bLen) (consA (varF 2) nilA)) nilA)) (nameT 6) yesT (tupF (consA (binF dIx (varF 2) (varF 6)) (consA (callF lm_f (consA (binF dSub (binF dIx (varF 5) (binF dMod (varF 6) (cF (.int 4)))) (cF (.int 8))) (consA (binF dAdd (cF (.int 1)) (binF dIx (varF 5) (cF (.int 4)))) nilA))) nilA)))) nilA))))
noncomputable def LH.S_grid : Rho → Out := (seqS (ownS nilA 3) (seqS (forS (range1F (consA (cF (.int 6)) nilA)) (nameT 4) LH.L_grid_1) (retS (varF 3))))
noncomputable def LH.B_grid (a0 a1 a2 : PyData) : FR := outFR (LH.S_grid [.d a0, .d a1, .d a2, .un, .un, .un, .un])
end DL
namespace DL
open PySem PySem.Spec PyProof.Rows L2 RT
abbrev Qn := Int × Int
structure Sz (n : Nat) (q : Qn) : Prop where
  pos : 0 < q.2
  b1 : Bt n q.1
  b2 : Bt n q.2
theorem Sz.mono {n m : Nat} {q : Qn} (h : Sz n q) (k : n ≤ m) : Sz m q := ⟨h.pos, h.b1.mono k, h.b2.mono k⟩
theorem Sz.ne {n : Nat} {q : Qn} (h : Sz n q) : q.2 ≠ 0 := by have := h.pos; omega
theorem Sz.nrm {n : Nat} {t b : Int} (hb : b ≠ 0) (h1 : Bt n t) (h2 : Bt n b) : Sz n (nrm t b) := ⟨nrm_pos hb, nrm_bt1 hb h1, nrm_bt2 hb h2⟩
def qadd (p q : Qn) : Qn := nrm (p.1 * q.2 + q.1 * p.2) (p.2 * q.2)
def qsub (p q : Qn) : Qn := nrm (p.1 * q.2 - q.1 * p.2) (p.2 * q.2)
def qmul (p q : Qn) : Qn := nrm (p.1 * q.1) (p.2 * q.2)
def qdiv (p q : Qn) : Qn := nrm (p.1 * q.2) (p.2 * q.1)
section
variable {n m : Nat} {p q : Qn}
theorem Sz.add (hp : Sz n p) (hq : Sz m q) : Sz (n + m + 1) (qadd p q) :=
  .nrm (Int.mul_ne_zero hp.ne hq.ne) ((hp.b1.mul hq.b2).add ((hq.b1.mul hp.b2).mono (by omega))) ((hp.b2.mul hq.b2).mono (by omega))
theorem Sz.mul (hp : Sz n p) (hq : Sz m q) : Sz (n + m) (qmul p q) :=
  .nrm (Int.mul_ne_zero hp.ne hq.ne) (hp.b1.mul hq.b1) (hp.b2.mul hq.b2)
theorem Sz.div (hp : Sz n p) (hq : Sz m q) (h0 : q.1 ≠ 0) : Sz (n + m) (qdiv p q) :=
  .nrm (Int.mul_ne_zero hp.ne h0) (hp.b1.mul hq.b2) (hp.b2.mul hq.b1)
theorem sz01 : Sz 1 (0, 1) := ⟨by decide, by unfold Bt; decide, by unfold Bt; decide⟩
theorem sz11 : Sz 1 (1, 1) := ⟨by decide, by unfold Bt; decide, by unfold Bt; decide⟩
theorem szm1 : Sz 1 (-1, 1) := ⟨by decide, by unfold Bt; decide, by unfold Bt; decide⟩
end
section
variable {p q : Qn} (hp : Sz 4000 p) (hq : Sz 4000 q)
include hp hq
theorem lh_add : LH.B_add (N p) (N q) = .ok (N (qadd p q)) := by
  have e : lm_f [.int (p.1 * q.2 + q.1 * p.2), .int (p.2 * q.2)] = .ok (N (qadd p q)) := lawf_ok (Int.mul_ne_zero hp.ne hq.ne) (n := 9000) (by decide) (by decide) ((hp.b2.mul hq.b2).mono (by decide))
  simp [LH.B_add, LH.S_add, dMul_ok, hp.b1.sm, hp.b2.sm, hq.b1.sm, hq.b2.sm, e]
theorem lh_mul : LH.B_mul (N p) (N q) = .ok (N (qmul p q)) := by
  have e : lm_f [.int (p.1 * q.1), .int (p.2 * q.2)] = .ok (N (qmul p q)) := lawf_ok (Int.mul_ne_zero hp.ne hq.ne) (n := 9000) (by decide) (by decide) ((hp.b2.mul hq.b2).mono (by decide))
  simp [LH.B_mul, LH.S_mul, dMul_ok, hp.b1.sm, hp.b2.sm, hq.b1.sm, hq.b2.sm, e]
theorem lh_div (h0 : q.1 ≠ 0) : LH.B_div (N p) (N q) = .ok (N (qdiv p q)) := by
  have e : lm_f [.int (p.1 * q.2), .int (p.2 * q.1)] = .ok (N (qdiv p q)) := lawf_ok (Int.mul_ne_zero hp.ne h0) (n := 9000) (by decide) (by decide) ((hp.b2.mul hq.b1).mono (by decide))
  simp [LH.B_div, LH.S_div, dMul_ok, hp.b1.sm, hp.b2.sm, hq.b1.sm, hq.b2.sm, e]
end
theorem pg_number {t b : Int} (hb : b ≠ 0) (h : Bt 9000 b) : PG.B_number (.int t) (.int b) = .ok (N (nrm t b)) := by
  have g0 := gcd_pos (t := t) hb
  have h1 : Sd (Nat.gcd t.natAbs b.natAbs : Int) := (gcd_bt hb h).sd (by omega) (by decide) (by decide)
  have h2 : Sd (-(Nat.gcd t.natAbs b.natAbs : Int)) := (gcd_bt hb h).neg.sd (by omega) (by decide) (by decide)
  by_cases h3 : b < 0
  · simp [PG.B_number, PG.S_number, hb, dDiv_ok, h1, h2, h3, N, nrm, fdiv_exact_neg g0 gcd_dvd_t, fdiv_exact_neg g0 gcd_dvd_b]
  · simp [PG.B_number, PG.S_number, hb, dDiv_ok, h1, h2, h3, N, nrm, fdiv_exact g0 gcd_dvd_t, fdiv_exact g0 gcd_dvd_b]
section
variable {p q : Qn} (hp : Sz 4000 p) (hq : Sz 4000 q)
include hp hq
theorem pg_plus : PG.B_plus (N p) (N q) = .ok (N (qadd p q)) := by
  have e : PG.m_number [.int (p.1 * q.2 + q.1 * p.2), .int (p.2 * q.2)] = .ok (N (qadd p q)) := pg_number (Int.mul_ne_zero hp.ne hq.ne) ((hp.b2.mul hq.b2).mono (by decide))
  simp [PG.B_plus, PG.S_plus, dMul_ok, hp.b1.sm, hp.b2.sm, hq.b1.sm, hq.b2.sm, e]
theorem pg_minus : PG.B_minus (N p) (N q) = .ok (N (qsub p q)) := by
  have e : PG.m_number [.int (p.1 * q.2 - q.1 * p.2), .int (p.2 * q.2)] = .ok (N (qsub p q)) := pg_number (Int.mul_ne_zero hp.ne hq.ne) ((hp.b2.mul hq.b2).mono (by decide))
  simp [PG.B_minus, PG.S_minus, dMul_ok, hp.b1.sm, hp.b2.sm, hq.b1.sm, hq.b2.sm, e]
theorem pg_times : PG.B_times (N p) (N q) = .ok (N (qmul p q)) := by
  have e : PG.m_number [.int (p.1 * q.1), .int (p.2 * q.2)] = .ok (N (qmul p q)) := pg_number (Int.mul_ne_zero hp.ne hq.ne) ((hp.b2.mul hq.b2).mono (by decide))
  simp [PG.B_times, PG.S_times, dMul_ok, hp.b1.sm, hp.b2.sm, hq.b1.sm, hq.b2.sm, e]
def qcmp (p q : Qn) : Int := if p.1 * q.2 < q.1 * p.2 then -1 else if q.1 * p.2 < p.1 * q.2 then 1 else 0
theorem pg_compare : PG.B_compare (N p) (N q) = .ok (.int (qcmp p q)) := by
  unfold qcmp
  by_cases h1 : p.1 * q.2 < q.1 * p.2
  · simp [PG.B_compare, PG.S_compare, dMul_ok, hp.b1.sm, hp.b2.sm, hq.b1.sm, hq.b2.sm, h1]
  · by_cases h2 : q.1 * p.2 < p.1 * q.2
    · simp [PG.B_compare, PG.S_compare, dMul_ok, hp.b1.sm, hp.b2.sm, hq.b1.sm, hq.b2.sm, h1, h2]
    · simp [PG.B_compare, PG.S_compare, dMul_ok, hp.b1.sm, hp.b2.sm, hq.b1.sm, hq.b2.sm, h1, h2]
end
section
variable {α : Type} {T : Tg} {S1 : Rho → Out} {Tt : Rho → Res Bool} {F : Rho → Res PyData} {ρ : Rho}
def valR {β : Type} : Res β → Option β
  | .ok a _ => some a
  | _ => none
@[simp] theorem valR_ok {β : Type} {a : β} {ρ : Rho} : valR (Res.ok a ρ) = some a := id rfl
def stepC (T : Tg) (Tt : Rho → Res Bool) (F : Rho → Res PyData) (ρ : Rho) (d : PyData) : Option (Option PyData) := (T d ρ).bind fun ρ2 => match Tt ρ2 with
  | .ok false _ => some none
  | .ok true ρ3 => (valR (F ρ3)).map some
  | _ => none
theorem compL_filter (p : α → Bool) (g f : α → PyData) : ∀ (xs : List α) (acc : List PyData), (∀ x ∈ xs, stepC T Tt F ρ (g x) = some (if p x = true then some (f x) else none)) → acc.length + xs.length ≤ 16777216 →
    compL T Tt F ρ (xs.map g) acc = some (acc ++ (xs.filter p).map f)
  | [], acc, _, _ => by simp [compL]
  | x :: xs, acc, h, hl => by
    have h1 := h x List.mem_cons_self
    have hl' : acc.length + (xs.length + 1) ≤ 16777216 := hl
    have z := compL_filter p g f xs
    unfold stepC at h1
    rw [List.map_cons]
    unfold compL
    cases e1 : T (g x) ρ with
    | none => rw [e1] at h1; cases h1
    | some ρ2 =>
      rw [e1, Option.bind_some] at h1
      dsimp only
      cases e2 : Tt ρ2 with
      | bad => rw [e2] at h1; cases h1
      | ex _ _ => rw [e2] at h1; cases h1
      | ok b ρ3 =>
        rw [e2] at h1
        cases b with
        | false =>
          dsimp only at h1 ⊢
          cases e : p x with
          | true => rw [e] at h1; cases h1
          | false =>
            rw [z acc (fun y hy => h y (List.mem_cons_of_mem _ hy)) (by omega)]
            simp [e]
        | true =>
          dsimp only at h1 ⊢
          cases e3 : F ρ3 with
          | bad => rw [e3] at h1; cases h1
          | ex _ _ => rw [e3] at h1; cases h1
          | ok y ρ4 =>
            rw [e3] at h1
            simp only [valR, Option.map_some] at h1
            cases e : p x with
            | false => rw [e] at h1; cases h1
            | true =>
              rw [e, if_pos rfl] at h1
              cases h1
              have hs : acc.length < sizeLine := by rw [sizeLine_eq]; omega
              dsimp only
              rw [if_pos hs, z (acc ++ [f x]) (fun y hy => h y (List.mem_cons_of_mem _ hy)) (by simp; omega)]
              simp [e]
theorem compL_map (g f : α → PyData) (xs : List α) (h : ∀ x ∈ xs, ((T (g x) ρ).bind fun ρ2 => valR (F ρ2)) = some (f x)) (hl : xs.length ≤ 16777216) : compL T yesT F ρ (xs.map g) [] = some (xs.map f) := by
  have z := compL_filter (T := T) (Tt := yesT) (F := F) (ρ := ρ) (fun _ => true) g f xs [] (fun x hx => by
    have h1 := h x hx
    unfold stepC yesT
    cases e1 : T (g x) ρ with
    | none => rw [e1] at h1; cases h1
    | some ρ2 =>
      rw [e1, Option.bind_some] at h1
      rw [Option.bind_some]
      dsimp only
      rw [h1]
      rfl) (by simpa using hl)
  rw [z, List.filter_eq_self.mpr (fun _ _ => rfl)]
  rfl
end
abbrev Pt := Str × Qn
abbrev pD (p : Pt) : PyData := .tuple [.str p.1, .tuple [.int p.2.1, .int p.2.2]]
abbrev psD (ps : List Pt) : PyData := .tuple (ps.map pD)
abbrev Rw := List Pt × Str × Qn
abbrev rD (r : Rw) : PyData := .tuple [psD r.1, .str r.2.1, .tuple [.int r.2.2.1, .int r.2.2.2]]
def scaleM (r : Rw) (f : Qn) : Rw := (r.1.map fun p => (p.1, qmul p.2 f), r.2.1, qmul r.2.2 f)
structure SzR (n : Nat) (r : Rw) : Prop where
  ps : ∀ p ∈ r.1, Sz n p.2
  bd : Sz n r.2.2
theorem SzR.mono {n m : Nat} {r : Rw} (h : SzR n r) (k : n ≤ m) : SzR m r := ⟨fun p hp => (h.ps p hp).mono k, h.bd.mono k⟩
@[simp] theorem lcF_apc {vs : List Nat} {Fi : Rho → Res (List PyData)} {T : Tg} {Tt : Rho → Res Bool} {F : Rho → Res PyData} {e0 : Ent} {ρ : Rho} : lcF vs Fi T Tt F (e0 :: ρ) = (Fi (e0 :: ρ)).bind fun ds ρ1 =>
  if (∀ v ∈ vs, v < ρ1.length) then (match compL T Tt F (wipeR (blkR ρ1) vs) ds [] with
    | some r => .ok (.list r) (frz ρ1)
    | none => .bad) else .bad := id rfl
section
variable {xs : List PyData} {x : PyData} {e : Ent} {ρ : Rho} {v : Nat} {vs : List Nat} {kvs : List (Key × PyData)}
@[simp] theorem frzE_d : frzE (.d x) = .d x := id rfl
@[simp] theorem frzE_un : frzE .un = .un := id rfl
@[simp] theorem frzE_dct : frzE (.dct kvs) = .dct kvs := id rfl
@[simp] theorem roE_d : roE (.d x) = .d x := id rfl
@[simp] theorem roE_un : roE .un = .un := id rfl
@[simp] theorem roE_dct : roE (.dct kvs) = .rdd kvs := id rfl
@[simp] theorem frz_nil : frz [] = [] := id rfl
@[simp] theorem frz_cons : frz (e :: ρ) = frzE e :: frz ρ := id rfl
@[simp] theorem blkR_nil : blkR [] = [] := id rfl
@[simp] theorem blkR_cons : blkR (e :: ρ) = roE (frzE e) :: blkR ρ := id rfl
@[simp] theorem wipeR_nil : wipeR ρ [] = ρ := id rfl
@[simp] theorem wipeR_cons : wipeR ρ (v :: vs) = (wipeR ρ vs).set v .un := id rfl
end
theorem str_shaped {a : Str} (h : PySem.PyData.strOk a = true) : SeqAt.shaped (.str a) = true := by
  simp [SeqAt.shaped, PyData.canLay0, h, PyData.depth]
theorem dEq_s {a b : Str} (ha : PySem.PyData.strOk a = true) (hb : PySem.PyData.strOk b = true) : dEq (.str a) (.str b) = some (.bool (a == b)) := by
  simp [dEq, str_shaped, ha, hb, PyData.eqv]
def Sgn (s : Str) : Prop := s = "<=" ∨ s = "<" ∨ s = "="
theorem ok_eq : PySem.PyData.strOk "=" = true := by decide +kernel
theorem ok_lt : PySem.PyData.strOk "<" = true := by decide +kernel
theorem ok_le : PySem.PyData.strOk "<=" = true := by decide +kernel
theorem Sgn.ok {s : Str} (h : Sgn s) : PySem.PyData.strOk s = true := by rcases h with rfl | rfl | rfl <;> first | exact ok_le | exact ok_lt | exact ok_eq
def comM (ps : List Pt) (c : Int) : Int := ps.foldl (fun c p => c * p.2.2) c
def shM (C : Int) (ps : List Pt) (s : Nat) : Nat := ps.foldl (fun s p => Nat.gcd s (p.2.1.natAbs * (C / p.2.2).natAbs)) s
def sgnM (b : Bool) (f : Qn) : Qn := if b = true then qmul f (-1, 1) else f
def factorM (r : Rw) : Qn := match r.1 with
  | [] => if r.2.2.1 = 0 then (1, 1) else sgnM (r.2.1 == "=" && decide (r.2.2.1 < 0)) (qdiv (1, 1) (nrm (r.2.2.1.natAbs : Int) r.2.2.2))
  | p :: ps => sgnM (r.2.1 == "=" && decide (p.2.1 < 0)) (nrm (comM (p :: ps) 1) (shM (comM (p :: ps) 1) (p :: ps) 0))
theorem comM_pos : ∀ (ps : List Pt) {c : Int} {n : Nat}, (∀ p ∈ ps, Sz n p.2) → 0 < c → 0 < comM ps c
  | [], c, _, _, h => h
  | p :: ps, c, n, hp, h => comM_pos ps (c := c * p.2.2) (n := n) (fun q hq => hp q (List.mem_cons_of_mem _ hq)) (Int.mul_pos h (hp p List.mem_cons_self).pos)
theorem comM_bt : ∀ (ps : List Pt) {c : Int} {n k : Nat}, (∀ p ∈ ps, Sz n p.2) → Bt k c → Bt (k + n * ps.length) (comM ps c)
  | [], c, n, k, _, h => by simpa [comM] using h
  | p :: ps, c, n, k, hp, h => by
    have z := comM_bt ps (c := c * p.2.2) (n := n) (k := k + n) (fun q hq => hp q (List.mem_cons_of_mem _ hq)) (h.mul (hp p List.mem_cons_self).b2)
    have e : k + n * (p :: ps).length = k + n + n * ps.length := by rw [List.length_cons, Nat.mul_succ]; omega
    rw [e]
    exact z
section
variable {d0 d1 d2 d3 e4 e8 e9 e10 : Ent}
theorem fac1 : ∀ (ps : List Pt) {c : Int} {n k : Nat} (e6 e7 : Ent), (∀ p ∈ ps, Sz n p.2) → Bt k c → k + n * ps.length ≤ 40000 →
    ∃ e6' e7', loopS (tupT 2 (consTs (nameT 6) (consTs (nameT 7) nilTs))) LH.L_factor_1 (ps.map pD) [d0, d1, d2, d3, e4, .d (.int c), e6, e7, e8, e9, e10] = .nx [d0, d1, d2, d3, e4, .d (.int (comM ps c)), e6', e7', e8, e9, e10]
  | [], c, n, k, e6, e7, _, _, _ => ⟨e6, e7, rfl⟩
  | p :: ps, c, n, k, e6, e7, hp, h, hk => by
    have h1 := hp p List.mem_cons_self
    have hk' : k + n * (ps.length + 1) ≤ 40000 := hk
    rw [Nat.mul_succ] at hk'
    obtain ⟨e6', e7', z⟩ := fac1 ps (c := c * p.2.2) (n := n) (k := k + n) (.d (.str p.1)) (.d (N p.2)) (fun q hq => hp q (List.mem_cons_of_mem _ hq)) (h.mul h1.b2) (by omega)
    refine ⟨e6', e7', ?_⟩
    rw [List.map_cons, loopS_cons (ρ1 := [d0, d1, d2, d3, e4, .d (.int c), .d (.str p.1), .d (N p.2), e8, e9, e10]) (by simp)]
    simp [LH.L_factor_1, dMul_ok, h.sm (by omega), h1.b2.sm (by omega)]
    exact z
end
theorem euclid9 (e0 e1 e2 e3 e4 e5 e6 e7 e8 : Ent) : ∀ (n : Nat) (m : Nat), whileS (testF (binF dNe (varF 10) (cF (.int 0)))) LH.L_factor_2 [e0, e1, e2, e3, e4, e5, e6, e7, e8, .d (.int (m : Int)), .d (.int (n : Int))] =
    .nx [e0, e1, e2, e3, e4, e5, e6, e7, e8, .d (.int (Nat.gcd n m : Int)), .d (.int 0)] := by
  intro n
  induction n using Nat.strongRecOn with
  | _ n ih =>
    intro m
    rw [whileS_eq]
    by_cases h : n = 0
    · subst h
      simp
    · have h' : (n : Int) ≠ 0 := by omega
      have e : (m : Int).fmod (n : Int) = ((m % n : Nat) : Int) := by
        rw [Int.fmod_eq_emod_of_nonneg _ (by omega)]
        simp
      simp [LH.L_factor_2, h, dMod_ok, h', e]
      have q := ih (m % n) (Nat.mod_lt _ (by omega)) n
      rw [Nat.gcd_rec n m]
      simpa [LH.L_factor_2] using q
theorem max_abs (t : Int) : (if t < -t then -t else t) = ((t.natAbs : Nat) : Int) := by split <;> omega
section
variable {d0 d1 d2 d3 e4 : Ent}
theorem fac3 {C : Int} (hC : 0 < C) (bC : Bt 4000 C) : ∀ (ps : List Pt) (s : Nat) (e6 e7 e9 e10 : Ent), (∀ p ∈ ps, Sz 4000 p.2) →
    ∃ e6' e7' e9' e10', loopS (tupT 2 (consTs (nameT 6) (consTs (nameT 7) nilTs))) LH.L_factor_3 (ps.map pD) [d0, d1, d2, d3, e4, .d (.int C), e6, e7, .d (.int (s : Int)), e9, e10] = .nx [d0, d1, d2, d3, e4, .d (.int C), e6', e7', .d (.int (shM C ps s : Int)), e9', e10']
  | [], s, e6, e7, e9, e10, _ => ⟨e6, e7, e9, e10, rfl⟩
  | p :: ps, s, e6, e7, e9, e10, hp => by
    have h1 := hp p List.mem_cons_self
    have sd : Sd p.2.2 := h1.b2.sd h1.ne (by decide) (by decide)
    have f1 : C.fdiv p.2.2 = C / p.2.2 := Int.fdiv_eq_ediv_of_nonneg _ (by have := h1.pos; omega)
    have f0 : 0 ≤ C / p.2.2 := Int.ediv_nonneg (by omega) (by have := h1.pos; omega)
    obtain ⟨m, hm⟩ : ∃ m : Nat, m = p.2.1.natAbs * (C / p.2.2).natAbs := ⟨_, rfl⟩
    have e1 : ((p.2.1.natAbs : Nat) : Int) * (C / p.2.2) = (m : Int) := by
      rw [hm, Int.natCast_mul]
      congr 1
      omega
    have sm1 : Sm ((p.2.1.natAbs : Nat) : Int) := (Bt.le (n := 4000) h1.b1 (by simp)).sm (by decide)
    have sm2 : Sm (C / p.2.2) := (Bt.le (n := 4000) bC (by rw [Int.natAbs_ediv_of_nonneg (by omega)]; exact Nat.div_le_self _ _)).sm (by decide)
    obtain ⟨e6', e7', e9', e10', z⟩ := fac3 hC bC ps (Nat.gcd s m) (.d (.str p.1)) (.d (N p.2)) (.d (.int (Nat.gcd s m : Int))) (.d (.int 0)) (fun q hq => hp q (List.mem_cons_of_mem _ hq))
    refine ⟨e6', e7', e9', e10', ?_⟩
    have W := euclid9 d0 d1 d2 d3 e4 (.d (.int C)) (.d (.str p.1)) (.d (N p.2)) (.d (.int (s : Int))) s m
    have e2 : shM C (p :: ps) s = shM C ps (Nat.gcd s m) := by rw [hm]; rfl
    rw [e2]
    rw [List.map_cons, loopS_cons (ρ1 := [d0, d1, d2, d3, e4, .d (.int C), .d (.str p.1), .d (N p.2), .d (.int (s : Int)), e9, e10]) (by simp)]
    simp [LH.L_factor_3, max_abs, dDiv_ok, sd, f1, dMul_ok, sm1, sm2, e1, W]
    exact z
end
theorem shM_pos (C : Int) : ∀ (ps : List Pt) (s : Nat), 0 < s → 0 < shM C ps s
  | [], s, h => h
  | p :: ps, s, h => shM_pos C ps _ (Nat.gcd_pos_of_pos_left _ h)
theorem shM_le (C : Int) : ∀ (ps : List Pt) (s : Nat), 0 < s → shM C ps s ≤ s
  | [], s, h => Nat.le_refl _
  | p :: ps, s, h => Nat.le_trans (shM_le C ps _ (Nat.gcd_pos_of_pos_left _ h)) (Nat.gcd_le_left _ h)
end DL
namespace DL
open PySem PySem.Spec PyProof.Rows L2 RT
theorem Sz.sgn {n : Nat} {f : Qn} (b : Bool) (h : Sz n f) : Sz (n + 1) (sgnM b f) := by
  unfold sgnM
  cases b with
  | true => rw [if_pos rfl]; exact h.mul szm1
  | false => rw [if_neg (by decide)]; exact h.mono (by omega)
theorem bt_nat {n : Nat} {a : Int} (h : Bt n a) : Bt n (a.natAbs : Int) := h.le (by simp)
theorem shM_bt {C : Int} (hC : 0 < C) {k n : Nat} (bC : Bt k C) {p : Pt} {ps : List Pt} (hp : Sz n p.2) (p0 : p.2.1 ≠ 0) (hb : p.2.2 ∣ C) : (0 < shM C (p :: ps) 0) ∧ Bt (n + k) (shM C (p :: ps) 0 : Int) := by
  have e : shM C (p :: ps) 0 = shM C ps (p.2.1.natAbs * (C / p.2.2).natAbs) := by
    show shM C ps (Nat.gcd 0 _) = _
    rw [Nat.gcd_zero_left]
  have f0 : 0 < C / p.2.2 := by
    obtain ⟨y, hy⟩ := hb
    have := hp.pos
    rw [hy, Int.mul_ediv_cancel_left _ (by omega)]
    apply Classical.byContradiction
    intro z
    have : 0 ≤ p.2.2 * (-y) := Int.mul_nonneg (by omega) (by omega)
    rw [Int.mul_neg] at this
    omega
  have m0 : 0 < p.2.1.natAbs * (C / p.2.2).natAbs := Nat.mul_pos (by omega) (by omega)
  rw [e]
  refine ⟨shM_pos C ps _ m0, ?_⟩
  have b1 : Bt (n + k) (p.2.1 * (C / p.2.2)) := hp.b1.mul (Bt.le bC (by rw [Int.natAbs_ediv_of_nonneg (by omega)]; exact Nat.div_le_self _ _))
  refine b1.le ?_
  rw [Int.natAbs_mul, Int.natAbs_natCast]
  exact shM_le C ps _ m0
theorem comM_dvd : ∀ (ps : List Pt) (c : Int), c ∣ comM ps c
  | [], c => Int.dvd_refl c
  | p :: ps, c => Int.dvd_trans (Int.dvd_mul_right c p.2.2) (comM_dvd ps (c * p.2.2))
theorem comM_head (p : Pt) (ps : List Pt) : p.2.2 ∣ comM (p :: ps) 1 := by
  have := comM_dvd ps (1 * p.2.2)
  rw [Int.one_mul] at this
  show p.2.2 ∣ comM ps (1 * p.2.2)
  rw [Int.one_mul]
  exact this
theorem lh_factor {r : Rw} {n : Nat} (h : SzR n r) (hs : PySem.PyData.strOk r.2.1 = true) (nz : ∀ p ∈ r.1, p.2.1 ≠ 0) (hl : r.1.length ≤ 1000) (hn : n * (r.1.length + 1) + 4 ≤ 3900) :
    LH.B_factor (rD r) = .ok (N (factorM r)) ∧ Sz (n * (r.1.length + 1) + 4) (factorM r) := by
  obtain ⟨ps, sg, bd⟩ := r
  simp only at h hs nz hl hn ⊢
  have n1 : n ≤ 3900 := by
    have : n * 1 ≤ n * (ps.length + 1) := Nat.mul_le_mul_left _ (by omega)
    omega
  have hb := h.bd
  simp only at hb
  cases ps with
  | nil =>
    by_cases b0 : bd.1 = 0
    · constructor
      · simp [LH.B_factor, LH.S_factor, b0, factorM]
      · simp only [factorM, if_pos b0]
        exact sz11.mono (by simp)
    · have bt1 : Bt n bd.2 := hb.b2
      have e1 : lm_f [.int (bd.1.natAbs : Int), .int bd.2] = .ok (N (nrm (bd.1.natAbs : Int) bd.2)) := lawf_ok hb.ne (n := 3901) (by omega) (by omega) (bt1.mono (by omega))
      have z1 : Sz n (nrm (bd.1.natAbs : Int) bd.2) := .nrm hb.ne (bt_nat hb.b1) hb.b2
      have z0 : (nrm (bd.1.natAbs : Int) bd.2).1 ≠ 0 := by
        intro z
        have := nrm_cross (t := (bd.1.natAbs : Int)) hb.ne
        rw [z, Int.zero_mul] at this
        have q : (bd.1.natAbs : Int) ≠ 0 := by omega
        have := Int.mul_ne_zero q z1.ne
        omega
      have e2 : LH.m_div [.tuple [.int 1, .int 1], .tuple [.int (nrm (bd.1.natAbs : Int) bd.2).1, .int (nrm (bd.1.natAbs : Int) bd.2).2]] = .ok (N (qdiv (1, 1) (nrm (bd.1.natAbs : Int) bd.2))) := lh_div (sz11.mono (by decide)) (z1.mono (by omega)) z0
      have z2 := sz11.div z1 z0
      have e3 : LH.m_mul [.tuple [.int (qdiv (1, 1) (nrm (bd.1.natAbs : Int) bd.2)).1, .int (qdiv (1, 1) (nrm (bd.1.natAbs : Int) bd.2)).2], .tuple [.int (-1), .int 1]] = .ok (N (qmul (qdiv (1, 1) (nrm (bd.1.natAbs : Int) bd.2)) (-1, 1))) := lh_mul (z2.mono (by omega)) (szm1.mono (by decide))
      constructor
      · simp only [factorM, if_neg b0]
        cases hq : (sg == "=") with
        | false => simp [LH.B_factor, LH.S_factor, b0, max_abs, e1, e2, dEq_s hs ok_eq, hq, sgnM]
        | true =>
          by_cases h0 : bd.1 < 0
          · simp [LH.B_factor, LH.S_factor, b0, max_abs, e1, e2, dEq_s hs ok_eq, hq, sgnM, h0, e3]
          · simp [LH.B_factor, LH.S_factor, b0, max_abs, e1, e2, dEq_s hs ok_eq, hq, sgnM, h0]
      · simp only [factorM, if_neg b0]
        exact (z2.sgn _).mono (by simp; omega)
  | cons p ps =>
    have hp := h.ps
    simp only at hp
    have C0 := comM_pos (p :: ps) (c := 1) hp (by decide)
    have bC := comM_bt (p :: ps) (c := 1) (k := 1) hp (by unfold Bt; decide)
    have e0 : n * ((p :: ps).length + 1) = n * (p :: ps).length + n := Nat.mul_succ _ _
    rw [e0] at hn ⊢
    have hm : n * (p :: ps).length ≤ 3900 := by omega
    obtain ⟨s0, sB⟩ := shM_bt C0 bC (ps := ps) (hp p List.mem_cons_self) (nz p List.mem_cons_self) (comM_head p ps)
    have W1 := fun d0 d1 d2 d3 e4 e8 e9 e10 e6 e7 => fac1 (d0 := d0) (d1 := d1) (d2 := d2) (d3 := d3) (e4 := e4) (e8 := e8) (e9 := e9) (e10 := e10) (p :: ps) (c := 1) (k := 1) e6 e7 hp (by unfold Bt; decide) (by omega)
    generalize hCC : comM (p :: ps) 1 = C at *
    have W2 := fun d0 d1 d2 d3 e4 e6 e7 e9 e10 => fac3 (d0 := d0) (d1 := d1) (d2 := d2) (d3 := d3) (e4 := e4) C0 (bC.mono (by omega)) (p :: ps) 0 e6 e7 e9 e10 (fun q hq => (hp q hq).mono (by omega))
    obtain ⟨a6, a7, W1⟩ := W1 (.d (rD (p :: ps, sg, bd))) (.d (psD (p :: ps))) (.d (.str sg)) (.d (N bd)) .un .un .un .un .un .un
    obtain ⟨a6', a7', a9', a10', W2⟩ := W2 (.d (rD (p :: ps, sg, bd))) (.d (psD (p :: ps))) (.d (.str sg)) (.d (N bd)) .un a6 a7 .un .un
    have Fs : factorM (p :: ps, sg, bd) = sgnM (sg == "=" && decide (p.2.1 < 0)) (nrm C (shM C (p :: ps) 0)) := by
      simp only [factorM]
      rw [hCC]
    rw [Fs]
    generalize shM C (p :: ps) 0 = S at *
    have e1 : lm_f [.int C, .int (S : Int)] = .ok (N (nrm C (S : Int))) := lawf_ok (by omega) (n := 9000) (by omega) (by omega) (sB.mono (by omega))
    have z1 : Sz (n + (1 + n * (p :: ps).length)) (nrm C (S : Int)) := .nrm (by omega) (bC.mono (by omega)) sB
    have e3 : LH.m_mul [.tuple [.int (nrm C (S : Int)).1, .int (nrm C (S : Int)).2], .tuple [.int (-1), .int 1]] = .ok (N (qmul (nrm C (S : Int)) (-1, 1))) := lh_mul (z1.mono (by omega)) (szm1.mono (by decide))
    have hl2 : ¬ ((ps.length : Int) + 1 = 0) := by omega
    have hi : dIx (psD (p :: ps)) (.int 0) = some (pD p) := dIx_t0
    rw [show ((0 : Nat) : Int) = 0 from rfl] at W2
    simp only [List.map_cons] at W1 W2
    constructor
    · cases hq : (sg == "=") with
      | false => simp [LH.B_factor, LH.S_factor, hl2, hi, e1, W1, W2, dEq_s hs ok_eq, hq, sgnM]
      | true =>
        by_cases h0 : p.2.1 < 0
        · simp [LH.B_factor, LH.S_factor, hl2, hi, e1, W1, W2, dEq_s hs ok_eq, hq, sgnM, h0, e3]
        · simp [LH.B_factor, LH.S_factor, hl2, hi, e1, W1, W2, dEq_s hs ok_eq, hq, sgnM, h0]
    · exact (z1.sgn _).mono (by omega)
end DL
namespace DL
open PySem PySem.Spec PyProof.Rows L2 RT
def normM (r : Rw) : Rw := scaleM r (factorM r)
theorem SzR.norm {r : Rw} {n : Nat} (h : SzR n r) (hs : PySem.PyData.strOk r.2.1 = true) (nz : ∀ p ∈ r.1, p.2.1 ≠ 0) (hl : r.1.length ≤ 1000) (hn : n * (r.1.length + 1) + 4 ≤ 3900) : SzR (n + (n * (r.1.length + 1) + 4)) (normM r) := by
  obtain ⟨e, z⟩ := lh_factor h hs nz hl hn
  refine ⟨fun p hp => ?_, h.bd.mul z⟩
  obtain ⟨q, hq, rfl⟩ := List.mem_map.mp hp
  exact (h.ps q hq).mul z
def getQ (kvs : List Pt) (x : Str) : Qn := ((kvs.find? fun kv => decide (kv.1 = x)).map (·.2)).getD (0, 1)
def putQ (kvs : List Pt) (x : Str) (v : Qn) : List Pt :=
  if (kvs.any fun kv => decide (kv.1 = x)) = true then kvs.map (fun kv => if kv.1 = x then (kv.1, v) else kv) else kvs ++ [(x, v)]
def dQ (kvs : List Pt) : List (Key × PyData) := kvs.map fun p => (Sum.inr p.1, N p.2)
theorem valD_dQ : ∀ (kvs : List Pt) (x : Str), (valD (dQ kvs) (.inr x)).getD (N (0, 1)) = N (getQ kvs x)
  | [], x => rfl
  | p :: kvs, x => by
    have z := valD_dQ kvs x
    by_cases h : p.1 = x
    · simp [dQ, valD, getQ, h]
    · simp [dQ, valD, getQ, h] at z ⊢
      exact z
theorem valD_dQ2 : ∀ (kvs : List Pt) (x : Str), x ∈ kvs.map (·.1) → valD (dQ kvs) (.inr x) = some (N (getQ kvs x))
  | p :: kvs, x, hx => by
    by_cases h : p.1 = x
    · simp [dQ, valD, getQ, h]
    · have z := valD_dQ2 kvs x (by simpa [Ne.symm h] using hx)
      simp [dQ, valD, getQ, h] at z ⊢
      exact z
theorem putD_dQ (kvs : List Pt) (x : Str) (v : Qn) : putD (dQ kvs) (.inr x) (N v) = dQ (putQ kvs x v) := by
  unfold putD putQ
  have e : ((dQ kvs).any fun kv => decide (kv.1 = Sum.inr x)) = (kvs.any fun kv => decide (kv.1 = x)) := by simp [dQ, List.any_map, Function.comp_def]
  rw [e]
  split
  · simp only [dQ, List.map_map]
    apply List.map_congr_left
    intro p _
    by_cases h : p.1 = x <;> simp [h]
  · simp [dQ]
def addQ (kvs : List Pt) (p : Pt) : List Pt := putQ kvs p.1 (qadd (getQ kvs p.1) p.2)
def sumQ (ps kvs : List Pt) : List Pt := ps.foldl addQ kvs
def partsM (ps : List Pt) : List Pt := ((sortS ((sumQ ps []).map (·.1))).map fun x => (x, getQ (sumQ ps []) x)).filter fun p => decide (p.2.1 ≠ 0)
theorem putQ_len (kvs : List Pt) (x : Str) (v : Qn) : (putQ kvs x v).length ≤ kvs.length + 1 := by
  unfold putQ
  split <;> simp
theorem mem_putQ {kvs : List Pt} {x : Str} {v : Qn} {p : Pt} (h : p ∈ putQ kvs x v) : p ∈ kvs ∨ p = (x, v) := by
  unfold putQ at h
  split at h
  · obtain ⟨q, hq, e⟩ := List.mem_map.mp h
    by_cases z : q.1 = x
    · rw [if_pos z] at e
      right; rw [← e, z]
    · rw [if_neg z] at e
      left; rw [← e]; exact hq
  · rcases List.mem_append.mp h with h | h
    · exact .inl h
    · right; simpa using h
theorem getQ_mem {kvs : List Pt} {x : Str} : getQ kvs x = (0, 1) ∨ ∃ p ∈ kvs, p.1 = x ∧ getQ kvs x = p.2 := by
  unfold getQ
  cases e : kvs.find? fun kv => decide (kv.1 = x) with
  | none => left; rfl
  | some p =>
    right
    exact ⟨p, List.mem_of_find?_eq_some e, by simpa using List.find?_some e, rfl⟩
theorem Sz.get {n : Nat} {kvs : List Pt} (h : ∀ p ∈ kvs, Sz (n + 1) p.2) (x : Str) : Sz (n + 1) (getQ kvs x) := by
  rcases getQ_mem (kvs := kvs) (x := x) with e | ⟨p, hp, _, e⟩
  · rw [e]; exact sz01.mono (by omega)
  · rw [e]; exact h p hp
theorem Sz.addQ {n k : Nat} {kvs : List Pt} (h : ∀ p ∈ kvs, Sz (k + 1) p.2) {p : Pt} (hp : Sz n p.2) : ∀ q ∈ addQ kvs p, Sz (k + (n + 1) + 1) q.2 := by
  intro q hq
  rcases mem_putQ hq with hq | rfl
  · exact (h q hq).mono (by omega)
  · exact ((Sz.get h p.1).add hp).mono (by omega)
theorem Sz.sumQ {n : Nat} : ∀ (ps : List Pt) {k : Nat} {kvs : List Pt}, (∀ p ∈ kvs, Sz (k + 1) p.2) → (∀ p ∈ ps, Sz n p.2) → ∀ q ∈ sumQ ps kvs, Sz (k + (n + 1) * ps.length + 1) q.2
  | [], k, kvs, h, _ => by simpa [DL.sumQ] using h
  | p :: ps, k, kvs, h, hp => by
    have z := Sz.sumQ (n := n) ps (k := k + (n + 1)) (kvs := DL.addQ kvs p) (Sz.addQ h (hp p List.mem_cons_self)) (fun q hq => hp q (List.mem_cons_of_mem _ hq))
    have e : k + (n + 1) * (p :: ps).length + 1 = k + (n + 1) + (n + 1) * ps.length + 1 := by rw [List.length_cons, Nat.mul_succ]; omega
    rw [e]
    exact z
theorem sumQ_len : ∀ (ps kvs : List Pt), (sumQ ps kvs).length ≤ kvs.length + ps.length
  | [], kvs => by simp [sumQ]
  | p :: ps, kvs => by
    have z := sumQ_len ps (addQ kvs p)
    have := putQ_len kvs p.1 (qadd (getQ kvs p.1) p.2)
    simp only [sumQ, List.foldl_cons, List.length_cons] at z ⊢
    unfold addQ at z ⊢
    omega
theorem Sz.parts {n : Nat} {ps : List Pt} (h : ∀ p ∈ ps, Sz n p.2) : ∀ q ∈ partsM ps, Sz ((n + 1) * ps.length + 1) q.2 := by
  intro q hq
  obtain ⟨q1, _⟩ := List.mem_filter.mp hq
  obtain ⟨x, hx, rfl⟩ := List.mem_map.mp q1
  have z := Sz.sumQ (n := n) ps (k := 0) (kvs := []) (fun _ h => by cases h) h
  simp only [Nat.zero_add] at z
  exact Sz.get z x
theorem partsM_nz {ps : List Pt} : ∀ q ∈ partsM ps, q.2.1 ≠ 0 := fun q hq => by simpa using (List.mem_filter.mp hq).2
theorem partsM_len (ps : List Pt) : (partsM ps).length ≤ ps.length := by
  have z := sumQ_len ps []
  have := List.length_filter_le (fun p : Pt => decide (p.2.1 ≠ 0)) ((sortS ((sumQ ps []).map (·.1))).map fun x => (x, getQ (sumQ ps []) x))
  unfold partsM
  rw [List.length_map, (sortS_perm _).length_eq, List.length_map] at this
  simp only [List.length_nil] at z
  omega
theorem keysS_dQ : ∀ kvs : List Pt, keysS (dQ kvs) = some (kvs.map (·.1))
  | [] => rfl
  | p :: kvs => by
    have z := keysS_dQ kvs
    simp only [dQ, List.map_cons, keysS] at z ⊢
    rw [z]
    rfl
section
variable {e0 : Ent} (PS : Rho → Out)
theorem sum_loop (A : Fn) (hA : ∀ p q : Qn, Sz 4000 p → Sz 4000 q → A [N p, N q] = .ok (N (qadd p q))) (Z : Rho → Res PyData) (hZ : ∀ e0 ρ, Z (e0 :: ρ) = .ok (N (0, 1)) (e0 :: ρ))
    (hPS : PS = putS 1 (varF 2) (callF A (consA (dgetF 1 (varF 2) Z) (consA (varF 3) nilA)))) : ∀ (ps kvs : List Pt) {n k : Nat} (e2 e3 : Ent), (∀ p ∈ kvs, Sz (k + 1) p.2) → (∀ p ∈ ps, Sz n p.2) → k + (n + 1) * ps.length + 1 ≤ 3900 → n ≤ 3900 → kvs.length + ps.length ≤ 1000 →
    ∃ e2' e3', loopS (tupT 2 (consTs (nameT 2) (consTs (nameT 3) nilTs))) PS (ps.map pD) [e0, .dct (dQ kvs), e2, e3] = .nx [e0, .dct (dQ (sumQ ps kvs)), e2', e3']
  | [], kvs, n, k, e2, e3, _, _, _, _, _ => ⟨e2, e3, rfl⟩
  | p :: ps, kvs, n, k, e2, e3, hk, hp, hn, hn1, hl => by
    have e : (n + 1) * (p :: ps).length = (n + 1) * ps.length + (n + 1) := Nat.mul_succ _ _
    rw [e] at hn
    have hl' : kvs.length + (ps.length + 1) ≤ 1000 := hl
    have h1 := hp p List.mem_cons_self
    have hlen : (addQ kvs p).length ≤ kvs.length + 1 := putQ_len _ _ _
    obtain ⟨e2', e3', z⟩ := sum_loop A hA Z hZ hPS ps (addQ kvs p) (n := n) (k := k + (n + 1)) (.d (.str p.1)) (.d (N p.2)) (Sz.addQ hk h1) (fun q hq => hp q (List.mem_cons_of_mem _ hq)) (by omega) hn1 (by omega)
    refine ⟨e2', e3', ?_⟩
    have c : A [N (getQ kvs p.1), N p.2] = .ok (N (qadd (getQ kvs p.1) p.2)) := hA _ _ ((Sz.get hk p.1).mono (by omega)) (h1.mono (by omega))
    have v := valD_dQ kvs p.1
    have hq : (dQ kvs).length < 16777216 := by simp [dQ]; omega
    rw [List.map_cons, loopS_cons (ρ1 := [e0, .dct (dQ kvs), .d (.str p.1), .d (N p.2)]) (by simp)]
    simp only [N] at c v hZ z
    have g : putD (dQ kvs) (.inr p.1) (.tuple [.int (qadd (getQ kvs p.1) p.2).1, .int (qadd (getQ kvs p.1) p.2).2]) = dQ (addQ kvs p) := putD_dQ kvs p.1 _
    have zz : loopS (tupT 2 (consTs (nameT 2) (consTs (nameT 3) nilTs))) PS (ps.map pD) [e0, .dct (dQ (addQ kvs p)), .d (.str p.1), .d (N p.2)] = _ := z
    rw [hPS] at zz ⊢
    simp [hZ, v, c, hq, g]
    exact zz
theorem keys_part (Z : Rho → Res Bool) (kvs : List Pt) {e2 e3 : Ent} (hZ : ∀ x ∈ kvs.map (·.1), Z [e0, .rdd (dQ kvs), .d (.str x), e3] = .ok (decide ((getQ kvs x).1 ≠ 0)) [e0, .rdd (dQ kvs), .d (.str x), e3]) (hl : kvs.length ≤ 1000) :
    compL (nameT 2) Z (tupF (consA (varF 2) (consA (dixF 1 (varF 2)) nilA))) [e0, .rdd (dQ kvs), .un, e3] ((sortS (kvs.map (·.1))).map PyData.str) [] = some ((((sortS (kvs.map (·.1))).map fun x => (x, getQ kvs x)).filter fun p => decide (p.2.1 ≠ 0)).map pD) := by
  have hm : ∀ x ∈ sortS (kvs.map (·.1)), x ∈ kvs.map (·.1) := fun x hx => (sortS_perm _).mem_iff.mp hx
  have hlen : (sortS (kvs.map (·.1))).length = kvs.length := by rw [(sortS_perm _).length_eq, List.length_map]
  rw [compL_filter (fun x => decide ((getQ kvs x).1 ≠ 0)) PyData.str (fun x => pD (x, getQ kvs x)) _ _ (fun x hx => ?_) (by simp only [List.length_nil, hlen]; omega)]
  · simp [List.filter_map, Function.comp_def]
  · have v := valD_dQ2 kvs x (hm x hx)
    simp only [N] at v
    have hz := hZ x (hm x hx)
    unfold stepC
    by_cases h0 : (getQ kvs x).1 = 0
    · simp [h0] at hz
      simp [hz, h0]
    · simp [h0] at hz
      simp [hz, h0, v]
end
end DL
namespace DL
open PySem PySem.Spec PyProof.Rows L2 RT
def rowM (ps : List Pt) (sg : Str) (b : Qn) : Rw := normM (partsM ps, sg, b)
def flipM (ps : List Pt) : List Pt := ps.map fun p => (p.1, qsub (0, 1) p.2)
def Nam (x : Str) : Prop := x = "x" ∨ x = "y" ∨ x = "z2"
def Good (r : Rw) : Prop := ∃ ps sg b, r = rowM ps sg b ∧ Sgn sg ∧ (∀ p ∈ ps, Sz 6 p.2 ∧ Nam p.1) ∧ ps.length ≤ 3 ∧ Sz 6 b
theorem szR_parts {ps : List Pt} {sg : Str} {b : Qn} {n : Nat} (h : ∀ p ∈ ps, Sz n p.2) (hb : Sz n b) : SzR ((n + 1) * ps.length + 1 + n) (partsM ps, sg, b) :=
  ⟨fun p hp => (Sz.parts h p hp).mono (by omega), hb.mono (by show n ≤ _; omega)⟩
theorem lcS_apc {i : Nat} {vs : List Nat} {Fi : Rho → Res (List PyData)} {T : Tg} {Tt : Rho → Res Bool} {F : Rho → Res PyData} {e0 : Ent} {ρ : Rho} : lcS i vs Fi T Tt F (e0 :: ρ) = (Fi (e0 :: ρ)).out fun ds ρ1 =>
  if (∀ v ∈ vs, v < ρ1.length) ∧ i < ρ1.length then (match compL T Tt F (wipeR (blkR ρ1) vs) ds [] with
    | some r => .nx ((frz ρ1).set i (.own r))
    | none => .bad) else .bad := id rfl
end DL
namespace DL
open PySem PySem.Spec PyProof.Rows L2 RT
section
variable {F : Rho → Res PyData} {L U : Po} {ρ : Rho} {e0 : Ent}
theorem repF_apc {A : Rho → Res (List PyData)} {ds : List PyData} {k : Nat} {ρ1 ρ2 : Rho} (h1 : A ρ = .ok ds ρ1) (h2 : F ρ1 = .ok (.int (k : Int)) ρ2) (hk : k ≤ 1000) (hd : ds.length ≤ 1000) : repF A F ρ = .ok (.list (List.replicate k ds).flatten) ρ2 := by
  unfold repF
  rw [h1, bind_ok, if_pos (by omega), h2, bind_ok]
  have : ds.length * k ≤ 1000 * 1000 := Nat.mul_le_mul hd hk
  exact iteC_pos (by simp only [Int.toNat_natCast]; omega)
end
theorem dAdd_ll {xs ys : List PyData} (h : xs.length + ys.length ≤ 16777216) : dAdd (.list xs) (.list ys) = some (.list (xs ++ ys)) := if_pos (by rw [sizeLine_eq]; exact h)
end DL
namespace DL
open PySem PySem.Spec PyProof.Rows L2 RT
abbrev Pa := Int × Qn
abbrev aD (p : Pa) : PyData := .tuple [.int p.1, .tuple [.int p.2.1, .int p.2.2]]
def sgAt (rows : List Rw) (i : Int) : Str := ((rows[i.toNat]?).map (·.2.1)).getD ""
theorem qcmp0 {q : Qn} : qcmp q (0, 1) = if q.1 < 0 then -1 else if 0 < q.1 then 1 else 0 := by
  unfold qcmp
  simp
section
variable {rows : List Rw} (hs : ∀ r ∈ rows, PySem.PyData.strOk r.2.1 = true) {e1 : Ent}
include hs
end
end DL
namespace DL
open PySem PySem.Spec PyProof.Rows L2 RT
theorem Dig.get : ∀ {ds zs : List Int} {i : Nat} {z : Int}, Dig ds zs → zs[i]? = some z → ∃ d, ds[i]? = some d ∧ 0 ≤ d ∧ d < z
  | d :: ds, z :: zs, 0, _, h, e => by cases e; exact ⟨d, rfl, h.1⟩
  | d :: ds, z :: zs, i + 1, _, h, e => Dig.get (i := i) h.2 e
  | [], [], _, _, _, e => by cases e
  | [], _ :: _, _, _, h, _ => h.elim
  | _ :: _, [], _, _, h, _ => h.elim
theorem Dig.ix {ds zs : List Int} {i : Nat} {z : Int} (h : Dig ds zs) (e : zs[i]? = some z) : ∃ d, dIx (iL ds) (.int (i : Int)) = some (.int d) ∧ 0 ≤ d ∧ d < z := by
  obtain ⟨d, e1, e2⟩ := h.get e
  exact ⟨d, dIx_l (by rw [List.getElem?_map, e1]; rfl), e2⟩
structure PaOk (rows : List Rw) (pa : List Pa) : Prop where
  each : ∀ p ∈ pa, (0 ≤ p.1 ∧ p.1 < rows.length) ∧ p.2.1 ≠ 0 ∧ (p.2.1 < 0 → sgAt rows p.1 = "=") ∧ Sz 5 p.2
  asc : pa.Pairwise fun a b => a.1 < b.1
theorem Good.ok {r : Rw} (h : Good r) : PySem.PyData.strOk r.2.1 = true := by
  obtain ⟨ps, sg, b, rfl, hs, _⟩ := h
  exact hs.ok
end DL
namespace DL
open PySem PySem.Spec PyProof.Rows L2 RT
section
variable {X : L2.Cx} {B : Bx} {W : WX} {e : Expr} {pos : Pos} {F : Rho → Res PyData}
def lenO (i : Nat) : Rho → Res PyData := fun ρ => match ρ[i]? with
  | some (.own xs) => .ok (.int xs.length) ρ
  | some (.d d) => optR (bLen d) ρ
  | _ => .bad
def ixO (i : Nat) (F : Rho → Res PyData) : Rho → Res PyData := fun ρ => match ρ[i]? with
  | some (.own _) => (F ρ).bind fun k ρ => (match ρ[i]? with
    | some (.own xs) => optR (dIx (.list xs) k) ρ
    | _ => .bad)
  | some (.d d) => (F ρ).bind fun k ρ => optR (dIx d k) ρ
  | _ => .bad
@[simp] theorem lenO_apc {i : Nat} {e0 : Ent} {ρ : Rho} : lenO i (e0 :: ρ) = match (e0 :: ρ)[i]? with
  | some (.own xs) => .ok (.int xs.length) (e0 :: ρ)
  | some (.d d) => optR (bLen d) (e0 :: ρ)
  | _ => .bad := by unfold lenO; exact id rfl
@[simp] theorem ixO_apc {i : Nat} {F : Rho → Res PyData} {e0 : Ent} {ρ : Rho} : ixO i F (e0 :: ρ) = match (e0 :: ρ)[i]? with
  | some (.own _) => (F (e0 :: ρ)).bind fun k ρ => (match ρ[i]? with
    | some (.own xs) => optR (dIx (.list xs) k) ρ
    | _ => .bad)
  | some (.d d) => (F (e0 :: ρ)).bind fun k ρ => optR (dIx d k) ρ
  | _ => .bad := by unfold ixO; exact id rfl
theorem pd_lenO (i : Nat) {x : Str} {p px : Pos} (hm : X.mg "len" = none) (hN : X.N[i]? = some x := by rfl) (hvs : Vis X.env.scope x := by first | exact Or.inl rfl | exact Or.inr (Or.inl rfl) | exact Or.inr (Or.inr rfl)) (hd : (x == ("__debug__" : Str)) = false := by decide)
    (hcd : (x == ("__classdict__" : Str)) = false := by decide) (hg : Gl X "len" := by rfl) (he : starEach [(.Name x px : Expr)] X.env = (false, eval (.Name x px) X.env) :: starEach [] X.env := by rfl) (hpl : (backTo pos (starEach [] X.env)).any (·.1) = false := by rfl)
    (hpl2 : (backTo pos (starEach [(.Name x px : Expr)] X.env)).any (·.1) = false := by rfl) :
    PE X (.Call (.Name "len" p) [.Name x px] [] pos) (tD (km X) B W (lenO i)) := by
  refine (pe_callB call_len hg hm (by decide +kernel) (pa_cons (pe_var hN hvs hd hcd) pa_nil he) (by decide) (by decide) he hpl).of ?_
  rintro σ H Q ⟨G, ρ, E, S⟩
  unfold lenO at S
  cases e1 : ρ[i]? with
  | none => rw [e1] at S; exact S.elim
  | some en =>
    have q := E.ent i _ e1
    generalize hσ : σ[i]? = o at q
    rw [e1] at S
    cases q with
    | un => exact S.elim
    | d dp =>
      obtain ⟨z, hz, q⟩ := sat_opt S
      refine ⟨_, hσ, ?_⟩
      exact rd_len G H _ [_] z Q E.base.gh (.cons dp .nil) hz fun v G3 H3 ext dp3 => q v G3 H3 (E.ext ext) ext.g dp3
    | own z1 z2 z3 z4 =>
      refine ⟨_, hσ, ⟨_, _, rfl, .inl ⟨_, SqL.of z1, rfl⟩, ?_⟩⟩
      rw [z4.len]
      exact S _ G H E (Same.refl _) (.int _)
    | dct _ _ _ _ => exact S.elim
    | rdd _ _ => exact S.elim
    | ndc _ _ _ _ => exact S.elim
theorem pd_ixO (i : Nat) {x : Str} {px : Pos} (hb : PE X e (tD (km X) B W F)) (hN : X.N[i]? = some x := by rfl) (hvs : Vis X.env.scope x := by first | exact Or.inl rfl | exact Or.inr (Or.inl rfl) | exact Or.inr (Or.inr rfl)) (hd : (x == ("__debug__" : Str)) = false := by decide)
    (hcd : (x == ("__classdict__" : Str)) = false := by decide) (hs : PlainIx e := by exact fun _ _ => rfl) : PE X (.Subscript (.Name x px) e pos) (tD (km X) B W (ixO i F)) := by
  refine (pe_ix ix_seq (pe_var hN hvs hd hcd) hb hs).of ?_
  rintro σ H Q ⟨G, ρ, E, S⟩
  unfold ixO at S
  cases e1 : ρ[i]? with
  | none => rw [e1] at S; exact S.elim
  | some en =>
    have q := E.ent i _ e1
    generalize hσ : σ[i]? = o at q
    rw [e1] at S
    cases q with
    | un => exact S.elim
    | d dp =>
      refine ⟨_, hσ, G, ρ, E, (Sat.bind S).imp fun k ρ2 s2 y G2 H2 E2 g2 dp2 => ?_⟩
      obtain ⟨z, hz, q⟩ := sat_opt s2
      exact rd_ix G2 H2 _ y _ k z Q E2.base.gh (dp_same g2 _ _ dp) dp2 hz fun v G3 H3 ext dp3 => q v G3 H3 (E2.ext ext) (g2.trans ext.g) dp3
    | own z1 z2 z3 z4 =>
      refine ⟨_, hσ, G, ρ, E, (Sat.bind S).imp fun k ρ2 s2 y G2 H2 E2 g2 dp2 => ?_⟩
      split at s2
      · rename_i xs e2
        obtain ⟨z, hz, q⟩ := sat_opt s2
        have qe := E2.ent i _ e2
        rw [hσ] at qe
        cases qe with
        | own k1 k2 k3 k4 =>
          cases k <;> first | (cases hz; done) | skip
          cases dp2
          obtain ⟨v, hv, dp⟩ := dpAll_ix k4 (show atI _ _ = some z from hz)
          exact .inl ⟨_, _, _, v, rfl, rfl, SqL.of k1, hv, q _ _ _ E2 g2 dp⟩
      · exact s2.elim
    | dct _ _ _ _ => exact S.elim
    | rdd _ _ => exact S.elim
    | ndc _ _ _ _ => exact S.elim
end
end DL
namespace DL
def rv (q : Qn) : Rat := (q.1 : Rat) / (q.2 : Rat)
structure Low (q : Qn) : Prop where
  pos : 0 < q.2
  co : Nat.gcd q.1.natAbs q.2.natAbs = 1
theorem rc {b : Int} (h : b ≠ 0) : (b : Rat) ≠ 0 := by
  intro e
  exact h (by exact_mod_cast e)
theorem rv_nrm {t b : Int} (hb : b ≠ 0) : rv (nrm t b) = (t : Rat) / (b : Rat) := by
  have h := nrm_cross (t := t) hb
  have hp := nrm_pos (t := t) hb
  have h1 := rc hb
  have h2 : ((nrm t b).2 : Rat) ≠ 0 := rc (by omega)
  have h3 : ((nrm t b).1 : Rat) * (b : Rat) = (t : Rat) * ((nrm t b).2 : Rat) := by exact_mod_cast h
  unfold rv
  grind
theorem low_nrm {t b : Int} (hb : b ≠ 0) : Low (nrm t b) := by
  refine ⟨nrm_pos hb, ?_⟩
  have g0 : 0 < Nat.gcd t.natAbs b.natAbs := Nat.gcd_pos_of_pos_right _ (by omega)
  have e1 : (nrm t b).1.natAbs = t.natAbs / Nat.gcd t.natAbs b.natAbs ∧ (nrm t b).2.natAbs = b.natAbs / Nat.gcd t.natAbs b.natAbs := by
    obtain ⟨x, hx⟩ := gcd_dvd_t (t := t) (b := b)
    obtain ⟨y, hy⟩ := gcd_dvd_b (t := t) (b := b)
    unfold nrm
    generalize hg : Nat.gcd t.natAbs b.natAbs = g at *
    have gp : (0 : Int) < (g : Int) := by omega
    have ex : t.natAbs / g = x.natAbs := by rw [hx, Int.natAbs_mul, Int.natAbs_natCast, Nat.mul_div_cancel_left _ g0]
    have ey : b.natAbs / g = y.natAbs := by rw [hy, Int.natAbs_mul, Int.natAbs_natCast, Nat.mul_div_cancel_left _ g0]
    have q1 : t / (g : Int) = x := by rw [hx, Int.mul_ediv_cancel_left _ (by omega)]
    have q2 : b / (g : Int) = y := by rw [hy, Int.mul_ediv_cancel_left _ (by omega)]
    have q3 : -t / (g : Int) = -x := by rw [hx, ← Int.mul_neg, Int.mul_ediv_cancel_left _ (by omega)]
    have q4 : -b / (g : Int) = -y := by rw [hy, ← Int.mul_neg, Int.mul_ediv_cancel_left _ (by omega)]
    split
    · simp [q3, q4, ex, ey]
    · simp [q1, q2, ex, ey]
  rw [e1.1, e1.2]
  exact Nat.gcd_div_gcd_div_gcd_of_pos_right (by omega)
theorem rv_ext {p q : Qn} (hp : Low p) (hq : Low q) (h : rv p = rv q) : p = q := by
  obtain ⟨a, b⟩ := p
  obtain ⟨c, d⟩ := q
  obtain ⟨b0, hb⟩ := hp
  obtain ⟨d0, hd⟩ := hq
  simp only at b0 hb d0 hd
  unfold rv at h
  simp only at h
  have h1 : (b : Rat) ≠ 0 := rc (by omega)
  have h2 : (d : Rat) ≠ 0 := rc (by omega)
  have h3 : (a : Rat) * (d : Rat) = (c : Rat) * (b : Rat) := by grind
  have h4 : a * d = c * b := by exact_mod_cast h3
  have n1 : a.natAbs * d.natAbs = c.natAbs * b.natAbs := by rw [← Int.natAbs_mul, ← Int.natAbs_mul, h4]
  have hb' : Nat.Coprime a.natAbs b.natAbs := hb
  have hd' : Nat.Coprime c.natAbs d.natAbs := hd
  have k1 : b.natAbs ∣ d.natAbs := by
    have : b.natAbs ∣ a.natAbs * d.natAbs := ⟨c.natAbs, by rw [n1, Nat.mul_comm]⟩
    exact Nat.Coprime.dvd_of_dvd_mul_left hb'.symm this
  have k2 : d.natAbs ∣ b.natAbs := by
    have : d.natAbs ∣ c.natAbs * b.natAbs := ⟨a.natAbs, by rw [← n1, Nat.mul_comm]⟩
    exact Nat.Coprime.dvd_of_dvd_mul_left hd'.symm this
  have k3 : b.natAbs = d.natAbs := Nat.dvd_antisymm k1 k2
  have k4 : b = d := by omega
  subst k4
  have : a = c := Int.eq_of_mul_eq_mul_right (by omega) h4
  rw [this]
section
variable {p q : Qn}
theorem rv_add (hp : q.2 ≠ 0) (hq : p.2 ≠ 0) : rv (qadd p q) = rv p + rv q := by
  unfold qadd
  rw [rv_nrm (Int.mul_ne_zero hq hp)]
  have h1 := rc hp
  have h2 := rc hq
  unfold rv
  push_cast
  grind
theorem rv_sub (hp : q.2 ≠ 0) (hq : p.2 ≠ 0) : rv (qsub p q) = rv p - rv q := by
  unfold qsub
  rw [rv_nrm (Int.mul_ne_zero hq hp)]
  have h1 := rc hp
  have h2 := rc hq
  unfold rv
  push_cast
  grind
theorem rv_mul (hp : q.2 ≠ 0) (hq : p.2 ≠ 0) : rv (qmul p q) = rv p * rv q := by
  unfold qmul
  rw [rv_nrm (Int.mul_ne_zero hq hp)]
  have h1 := rc hp
  have h2 := rc hq
  unfold rv
  push_cast
  grind
theorem rv_div (hp : q.1 ≠ 0) (hq : p.2 ≠ 0) (h0 : q.2 ≠ 0) : rv (qdiv p q) = rv p / rv q := by
  unfold qdiv
  rw [rv_nrm (Int.mul_ne_zero hq hp)]
  have h1 := rc hp
  have h2 := rc hq
  have h3 := rc h0
  unfold rv
  push_cast
  grind
theorem rv_zero : rv q = 0 ↔ q.1 = 0 ∨ q.2 = 0 := by
  unfold rv
  constructor
  · intro h
    by_cases h2 : q.2 = 0
    · exact .inr h2
    · have h1 := rc h2
      left
      have : (q.1 : Rat) = 0 := by grind
      exact_mod_cast this
  · rintro (h | h) <;> rw [h] <;> grind
theorem rv_lt (hp : 0 < p.2) (hq : 0 < q.2) : rv p < rv q ↔ p.1 * q.2 < q.1 * p.2 := by
  have h1 : (0 : Rat) < (p.2 : Rat) := by exact_mod_cast hp
  have h2 : (0 : Rat) < (q.2 : Rat) := by exact_mod_cast hq
  have e1 : rv p * (p.2 : Rat) = (p.1 : Rat) := by unfold rv; grind
  have e2 : rv q * (q.2 : Rat) = (q.1 : Rat) := by unfold rv; grind
  have h3 : (0 : Rat) < (p.2 : Rat) * (q.2 : Rat) := Rat.mul_pos h1 h2
  have e3 : ((p.1 * q.2 : Int) : Rat) < ((q.1 * p.2 : Int) : Rat) ↔ p.1 * q.2 < q.1 * p.2 := by exact_mod_cast Iff.rfl
  rw [← e3]
  push_cast
  rw [← e1, ← e2]
  generalize rv p = x
  generalize rv q = y
  generalize (p.2 : Rat) = b at *
  generalize (q.2 : Rat) = d at *
  constructor
  · intro h
    have : 0 < (y - x) * (b * d) := Rat.mul_pos (by grind) h3
    grind
  · intro h
    apply Classical.byContradiction
    intro z
    have : 0 ≤ (x - y) * (b * d) := Rat.mul_nonneg (by grind) (by grind)
    grind
theorem rv_eq (hp : 0 < p.2) (hq : 0 < q.2) : rv p = rv q ↔ p.1 * q.2 = q.1 * p.2 := by
  have h1 : (p.2 : Rat) ≠ 0 := rc (by omega)
  have h2 : (q.2 : Rat) ≠ 0 := rc (by omega)
  have e3 : ((p.1 * q.2 : Int) : Rat) = ((q.1 * p.2 : Int) : Rat) ↔ p.1 * q.2 = q.1 * p.2 := by exact_mod_cast Iff.rfl
  rw [← e3]
  push_cast
  unfold rv
  constructor <;> intro h <;> grind
end
def gcdL (ns : List Int) : Nat := ns.foldr (fun n g => Nat.gcd n.natAbs g) 0
theorem gcdL_dvd : ∀ {ns : List Int} {n : Int}, n ∈ ns → (gcdL ns : Int) ∣ n
  | m :: ns, n, h => by
    have e : gcdL (m :: ns) = Nat.gcd m.natAbs (gcdL ns) := rfl
    rcases List.mem_cons.mp h with rfl | h
    · rw [e]; exact Int.natAbs_dvd_natAbs.mp (by simpa using Nat.gcd_dvd_left _ _)
    · exact Int.dvd_trans (by rw [e]; exact_mod_cast Nat.gcd_dvd_right _ _) (gcdL_dvd h)
theorem dvd_gcdL : ∀ {ns : List Int} {d : Nat}, (∀ n ∈ ns, (d : Int) ∣ n) → d ∣ gcdL ns
  | [], d, _ => Nat.dvd_zero d
  | m :: ns, d, h => by
    have e : gcdL (m :: ns) = Nat.gcd m.natAbs (gcdL ns) := rfl
    rw [e]
    refine Nat.dvd_gcd ?_ (dvd_gcdL fun n hn => h n (List.mem_cons_of_mem _ hn))
    have := Int.natAbs_dvd_natAbs.mpr (h m List.mem_cons_self)
    simpa using this
structure Prim (f : Rat) (xs : List Rat) : Prop where
  pos : 0 < f
  who : ∃ ns : List Int, xs.map (f * ·) = ns.map (fun n : Int => (n : Rat)) ∧ gcdL ns = 1
theorem rat_num_den (c : Rat) : c * (c.den : Rat) = (c.num : Rat) := by
  have h := Rat.num_divInt_den c
  rw [Rat.divInt_eq_div] at h
  have d0 : ((c.den : Int) : Rat) ≠ 0 := rc (by have := c.den_pos; omega)
  have e : ((c.den : Int) : Rat) = (c.den : Rat) := by push_cast; rfl
  rw [e] at h d0
  grind
theorem Prim.unique {f f' : Rat} {xs : List Rat} (h : Prim f xs) (h' : Prim f' xs) : f = f' := by
  obtain ⟨ns, e, g⟩ := h.who
  obtain ⟨ns', e', g'⟩ := h'.who
  have fp := h.pos
  have fp' := h'.pos
  obtain ⟨c, hc⟩ : ∃ c : Rat, c = f / f' := ⟨_, rfl⟩
  have hcf : c * f' = f := by rw [hc]; grind
  have c0 : 0 < c := by
    rw [hc, Rat.div_def]
    exact Rat.mul_pos fp (by exact Rat.inv_pos.mpr fp')
  have hl : ns.length = ns'.length := by
    have h1 := congrArg List.length e
    have h2 := congrArg List.length e'
    simp at h1 h2
    omega
  have key : ∀ (xs : List Rat) (ns ns' : List Int), xs.map (f * ·) = ns.map (fun n : Int => (n : Rat)) → xs.map (f' * ·) = ns'.map (fun n : Int => (n : Rat)) → ∀ (i : Nat) (n n' : Int), ns[i]? = some n → ns'[i]? = some n' → (n : Rat) = c * (n' : Rat) := by
    intro xs ns ns' e e' i n n' hn hn'
    have h1 := congrArg (·[i]?) e
    have h2 := congrArg (·[i]?) e'
    simp only [List.getElem?_map, hn, hn', Option.map_some] at h1 h2
    cases hx : xs[i]? with
    | none => rw [hx] at h1; cases h1
    | some x =>
      rw [hx] at h1 h2
      simp only [Option.map_some, Option.some.injEq] at h1 h2
      rw [← h1, ← h2, ← hcf]
      grind
  have k := key xs ns ns' e e'
  have cn := rat_num_den c
  have dd : (0 : Int) < (c.den : Int) := by have := c.den_pos; omega
  have num0 : 0 < c.num := by
    have h1 : 0 ≤ c.num := Rat.num_nonneg.mpr (by grind)
    have h2 : c.num ≠ 0 := fun z => by have := Rat.num_eq_zero.mp z; grind
    omega
  have step : ∀ (i : Nat) (n n' : Int), ns[i]? = some n → ns'[i]? = some n' → n * (c.den : Int) = c.num * n' := by
    intro i n n' hn hn'
    have z := k i n n' hn hn'
    have : (n : Rat) * (c.den : Rat) = (c.num : Rat) * (n' : Rat) := by rw [z, ← cn]; grind
    exact_mod_cast this
  have cop : Nat.Coprime c.num.natAbs c.den := c.reduced
  have d1 : c.num.natAbs ∣ gcdL ns := dvd_gcdL fun n hn => by
    obtain ⟨i, hi⟩ := List.mem_iff_getElem?.mp hn
    obtain ⟨n', hn'⟩ : ∃ n', ns'[i]? = some n' := by
      have : i < ns.length := by
        apply Classical.byContradiction
        intro z
        rw [List.getElem?_eq_none (by omega)] at hi
        cases hi
      exact ⟨_, List.getElem?_eq_getElem (by omega)⟩
    have z := step i n n' hi hn'
    have z2 : c.num.natAbs ∣ n.natAbs * c.den := ⟨n'.natAbs, by
      have := congrArg Int.natAbs z
      rw [Int.natAbs_mul, Int.natAbs_mul, Int.natAbs_natCast] at this
      exact this⟩
    have z3 := Nat.Coprime.dvd_of_dvd_mul_right cop z2
    exact Int.natAbs_dvd_natAbs.mp (by simpa using z3)
  have d2 : c.den ∣ gcdL ns' := dvd_gcdL fun n' hn' => by
    obtain ⟨i, hi⟩ := List.mem_iff_getElem?.mp hn'
    obtain ⟨n, hn⟩ : ∃ n, ns[i]? = some n := by
      have : i < ns'.length := by
        apply Classical.byContradiction
        intro z
        rw [List.getElem?_eq_none (by omega)] at hi
        cases hi
      exact ⟨_, List.getElem?_eq_getElem (by omega)⟩
    have z := step i n n' hn hi
    have z2 : c.den ∣ c.num.natAbs * n'.natAbs := ⟨n.natAbs, by
      have := congrArg Int.natAbs z
      rw [Int.natAbs_mul, Int.natAbs_mul, Int.natAbs_natCast] at this
      rw [Nat.mul_comm c.den, this]⟩
    have z3 := Nat.Coprime.dvd_of_dvd_mul_left cop.symm z2
    exact Int.natAbs_dvd_natAbs.mp (by simpa using z3)
  rw [g] at d1
  rw [g'] at d2
  have n1 : c.num = 1 := by have := Nat.dvd_one.mp d1; omega
  have n2 : c.den = 1 := Nat.dvd_one.mp d2
  rw [n1, n2] at cn
  have : c = 1 := by simpa using cn
  rw [← hcf, this]
  grind
theorem gcdL_neg : ∀ ns : List Int, gcdL (ns.map fun n => -n) = gcdL ns
  | [] => rfl
  | n :: ns => by
    have z := gcdL_neg ns
    simp only [gcdL, List.map_cons, List.foldr_cons, Int.natAbs_neg] at z ⊢
    rw [z]
theorem Prim.scale {f s : Rat} {xs : List Rat} (h : Prim f (xs.map (s * ·))) (hs : 0 < s) : Prim (f * s) xs := by
  obtain ⟨ns, e, g⟩ := h.who
  refine ⟨Rat.mul_pos h.pos hs, ns, ?_, g⟩
  rw [← e, List.map_map]
  apply List.map_congr_left
  intro x _
  simp only [Function.comp_apply]
  grind
theorem Prim.scale_neg {f s : Rat} {xs : List Rat} (h : Prim f (xs.map (s * ·))) (hs : s < 0) : Prim (f * -s) xs := by
  obtain ⟨ns, e, g⟩ := h.who
  refine ⟨Rat.mul_pos h.pos (by grind), ns.map fun n => -n, ?_, by rw [gcdL_neg, g]⟩
  have e2 := congrArg (List.map fun x : Rat => -x) e
  rw [List.map_map, List.map_map, List.map_map] at e2
  rw [List.map_map]
  refine Eq.trans (List.map_congr_left ?_) (e2.trans (List.map_congr_left ?_))
  · intro x _
    simp only [Function.comp_apply]
    grind
  · intro n _
    simp only [Function.comp_apply]
    push_cast
    rfl
end DL
namespace DL
theorem gcdL_mul (k : Int) : ∀ ns : List Int, gcdL (ns.map (k * ·)) = k.natAbs * gcdL ns
  | [] => by simp [gcdL]
  | n :: ns => by
    have z := gcdL_mul k ns
    have e1 : gcdL ((n :: ns).map (k * ·)) = Nat.gcd (k * n).natAbs (gcdL (ns.map (k * ·))) := rfl
    have e2 : gcdL (n :: ns) = Nat.gcd n.natAbs (gcdL ns) := rfl
    rw [e1, e2, z, Int.natAbs_mul, Nat.gcd_mul_left]
theorem prim_of {qs : List Qn} {C : Int} {S : Nat} (hC : 0 < C) (hS0 : 0 < S) (hd : ∀ q ∈ qs, 0 < q.2 ∧ q.2 ∣ C) (hS : gcdL (qs.map fun q => q.1 * (C / q.2)) = S) : Prim ((C : Rat) / ((S : Int) : Rat)) (qs.map rv) := by
  have cS : ((S : Int) : Rat) ≠ 0 := rc (by omega)
  have cS0 : (0 : Rat) < ((S : Int) : Rat) := by exact_mod_cast (by omega : (0 : Int) < (S : Int))
  have cC0 : (0 : Rat) < (C : Rat) := by exact_mod_cast hC
  have dv : ∀ q ∈ qs, (S : Int) ∣ q.1 * (C / q.2) := fun q hq => by
    rw [← hS]
    exact gcdL_dvd (List.mem_map.mpr ⟨q, hq, rfl⟩)
  refine ⟨by rw [Rat.div_def]; exact Rat.mul_pos cC0 (Rat.inv_pos.mpr cS0), qs.map fun q => q.1 * (C / q.2) / (S : Int), ?_, ?_⟩
  · rw [List.map_map, List.map_map]
    apply List.map_congr_left
    intro q hq
    obtain ⟨q0, y, hy⟩ := hd q hq
    obtain ⟨n, hn⟩ := dv q hq
    have e1 : C / q.2 = y := by rw [hy, Int.mul_ediv_cancel_left _ (by omega)]
    simp only [Function.comp_apply]
    rw [hn, Int.mul_ediv_cancel_left _ (by omega)]
    rw [e1] at hn
    have h1 : (q.1 : Rat) * (y : Rat) = ((S : Int) : Rat) * (n : Rat) := by exact_mod_cast hn
    have h2 : (C : Rat) = (q.2 : Rat) * (y : Rat) := by exact_mod_cast hy
    have h3 : (q.2 : Rat) ≠ 0 := rc (by omega)
    unfold rv
    rw [h2]
    grind
  · have e : qs.map (fun q => q.1 * (C / q.2)) = (qs.map fun q => q.1 * (C / q.2) / (S : Int)).map ((S : Int) * ·) := by
      rw [List.map_map]
      apply List.map_congr_left
      intro q hq
      simp only [Function.comp_apply]
      rw [Int.mul_ediv_cancel' (dv q hq)]
    rw [e, gcdL_mul] at hS
    simp only [Int.natAbs_natCast] at hS
    exact Nat.eq_of_mul_eq_mul_left hS0 (by rw [hS, Nat.mul_one])
theorem shM_eq (C : Int) : ∀ (ps : List Pt) (s : Nat), (∀ p ∈ ps, 0 < p.2.2) → 0 ≤ C → shM C ps s = Nat.gcd s (gcdL (ps.map fun p => p.2.1 * (C / p.2.2)))
  | [], s, _, _ => by simp [shM, gcdL]
  | p :: ps, s, h, hC => by
    have z := shM_eq C ps (Nat.gcd s (p.2.1.natAbs * (C / p.2.2).natAbs)) (fun q hq => h q (List.mem_cons_of_mem _ hq)) hC
    have e2 : gcdL ((p :: ps).map fun p => p.2.1 * (C / p.2.2)) = Nat.gcd (p.2.1 * (C / p.2.2)).natAbs (gcdL (ps.map fun p => p.2.1 * (C / p.2.2))) := rfl
    show shM C ps (Nat.gcd s (p.2.1.natAbs * (C / p.2.2).natAbs)) = _
    rw [z, e2, Int.natAbs_mul, Nat.gcd_assoc]
theorem comM_mem : ∀ {ps : List Pt} {c : Int} {p : Pt}, p ∈ ps → p.2.2 ∣ comM ps c
  | q :: ps, c, p, h => by
    rcases List.mem_cons.mp h with rfl | h
    · exact Int.dvd_trans (Int.dvd_mul_left c p.2.2) (comM_dvd ps (c * p.2.2))
    · exact comM_mem (c := c * q.2.2) h
theorem law_prim {ps : List Pt} (hne : ps ≠ []) (h : ∀ p ∈ ps, 0 < p.2.2 ∧ p.2.1 ≠ 0) : Prim (rv (nrm (comM ps 1) (shM (comM ps 1) ps 0))) (ps.map fun p => rv p.2) ∧ 0 < shM (comM ps 1) ps 0 := by
  have cpos : ∀ (ps : List Pt) (c : Int), (∀ p ∈ ps, 0 < p.2.2) → 0 < c → 0 < comM ps c := by
    intro ps
    induction ps with
    | nil => intro c _ h; exact h
    | cons p ps ih => intro c h h0; exact ih (c * p.2.2) (fun q hq => h q (List.mem_cons_of_mem _ hq)) (Int.mul_pos h0 (h p List.mem_cons_self))
  have C0 := cpos ps 1 (fun p hp => (h p hp).1) (by decide)
  have S := shM_eq (comM ps 1) ps 0 (fun p hp => (h p hp).1) (by omega)
  rw [Nat.gcd_zero_left] at S
  have S0 : 0 < shM (comM ps 1) ps 0 := by
    rw [S]
    apply Nat.pos_of_ne_zero
    intro z
    obtain ⟨p, ps', rfl⟩ : ∃ p ps', ps = p :: ps' := by
      cases ps with
      | nil => exact absurd rfl hne
      | cons p ps' => exact ⟨p, ps', rfl⟩
    have d := gcdL_dvd (ns := ((p :: ps').map fun q => q.2.1 * (comM (p :: ps') 1 / q.2.2))) (n := p.2.1 * (comM (p :: ps') 1 / p.2.2)) (List.mem_map.mpr ⟨p, List.mem_cons_self, rfl⟩)
    rw [z] at d
    have d0 : p.2.1 * (comM (p :: ps') 1 / p.2.2) = 0 := by simpa using d
    obtain ⟨h1, h2⟩ := h p List.mem_cons_self
    obtain ⟨y, hy⟩ := comM_mem (c := 1) (List.mem_cons_self : p ∈ p :: ps')
    rw [hy] at C0 d0
    rw [Int.mul_ediv_cancel_left _ (by omega)] at d0
    rcases Int.mul_eq_zero.mp d0 with z | z
    · exact h2 z
    · rw [z, Int.mul_zero] at C0; omega
  refine ⟨?_, S0⟩
  rw [rv_nrm (by omega)]
  have e : (ps.map fun p => rv p.2) = (ps.map (·.2)).map rv := by rw [List.map_map]; rfl
  rw [e]
  refine prim_of C0 S0 (fun q hq => ?_) ?_
  · obtain ⟨p, hp, rfl⟩ := List.mem_map.mp hq
    exact ⟨(h p hp).1, comM_mem hp⟩
  · rw [S, List.map_map]
    rfl
def gl : List Qn → Nat × Nat
  | [] => (0, 1)
  | q :: qs => (Nat.gcd q.1.natAbs (gl qs).1, Nat.lcm q.2.natAbs (gl qs).2)
theorem gl_step {t b G L : Nat} (h1 : Nat.Coprime t b) (h2 : Nat.Coprime G L) (b0 : 0 < b) (L0 : 0 < L) : Nat.gcd (t * (Nat.lcm b L / b)) (G * (Nat.lcm b L / L)) = Nat.gcd t G ∧ Nat.Coprime (Nat.gcd t G) (Nat.lcm b L) := by
  constructor
  · have d0 : 0 < Nat.gcd b L := Nat.gcd_pos_of_pos_left _ b0
    obtain ⟨b', hb⟩ := Nat.gcd_dvd_left b L
    obtain ⟨l', hl⟩ := Nat.gcd_dvd_right b L
    generalize hd : Nat.gcd b L = d at *
    have e1 : Nat.lcm b L / b = l' := by
      unfold Nat.lcm
      rw [hd]
      have : b * L / d = b * l' := by
        conv => lhs; rw [hl, ← Nat.mul_assoc, Nat.mul_comm b d, Nat.mul_assoc]
        exact Nat.mul_div_cancel_left _ d0
      rw [this, Nat.mul_div_cancel_left _ b0]
    have e2 : Nat.lcm b L / L = b' := by
      unfold Nat.lcm
      rw [hd]
      have : b * L / d = b' * L := by
        conv => lhs; rw [hb, Nat.mul_assoc]
        exact Nat.mul_div_cancel_left _ d0
      rw [this, Nat.mul_div_cancel _ L0]
    have cb : Nat.Coprime b' l' := by
      have z := Nat.coprime_div_gcd_div_gcd (m := b) (n := L) (by omega)
      rw [hd] at z
      have q1 : b / d = b' := by rw [hb]; exact Nat.mul_div_cancel_left _ d0
      have q2 : L / d = l' := by rw [hl]; exact Nat.mul_div_cancel_left _ d0
      rw [q1, q2] at z
      exact z
    rw [e1, e2]
    have c1 : Nat.Coprime t b' := Nat.Coprime.coprime_dvd_right ⟨d, by rw [hb, Nat.mul_comm]⟩ h1
    have c2 : Nat.Coprime G l' := Nat.Coprime.coprime_dvd_right ⟨d, by rw [hl, Nat.mul_comm]⟩ h2
    have c3 : Nat.Coprime b' (t * l') := Nat.Coprime.mul_right c1.symm cb
    rw [Nat.Coprime.gcd_mul_right_cancel_right G c3, Nat.Coprime.gcd_mul_right_cancel t c2.symm]
  · have c1 : Nat.Coprime (Nat.gcd t G) b := Nat.Coprime.coprime_dvd_left (Nat.gcd_dvd_left t G) h1
    have c2 : Nat.Coprime (Nat.gcd t G) L := Nat.Coprime.coprime_dvd_left (Nat.gcd_dvd_right t G) h2
    exact Nat.Coprime.coprime_dvd_right (Nat.lcm_dvd_mul b L) (Nat.Coprime.mul_right c1 c2)
theorem gl_all : ∀ {qs : List Qn}, (∀ q ∈ qs, Low q) → 0 < (gl qs).2 ∧ Nat.Coprime (gl qs).1 (gl qs).2 ∧ (∀ q ∈ qs, q.2 ∣ ((gl qs).2 : Int)) ∧ gcdL (qs.map fun q => q.1 * (((gl qs).2 : Int) / q.2)) = (gl qs).1
  | [], _ => ⟨by decide, by decide, fun q h => (by cases h), rfl⟩
  | q :: qs, h => by
    obtain ⟨i1, i2, i3, i4⟩ := gl_all (qs := qs) fun x hx => h x (List.mem_cons_of_mem _ hx)
    have hq := h q List.mem_cons_self
    have qp := hq.pos
    have hb : 0 < q.2.natAbs := by omega
    have eb : ((q.2.natAbs : Nat) : Int) = q.2 := by omega
    have e1 : (gl (q :: qs)).1 = Nat.gcd q.1.natAbs (gl qs).1 := rfl
    have e2 : (gl (q :: qs)).2 = Nat.lcm q.2.natAbs (gl qs).2 := rfl
    rw [e1, e2]
    generalize (gl qs).1 = G at *
    generalize (gl qs).2 = L at *
    obtain ⟨s1, s2⟩ := gl_step (t := q.1.natAbs) (b := q.2.natAbs) (G := G) (L := L) hq.co i2 hb i1
    have M0 : 0 < Nat.lcm q.2.natAbs L := Nat.lcm_pos hb i1
    have dL := Nat.dvd_lcm_right q.2.natAbs L
    have db := Nat.dvd_lcm_left q.2.natAbs L
    generalize Nat.lcm q.2.natAbs L = M at *
    have dbI : q.2 ∣ (M : Int) := by rw [← eb]; exact_mod_cast db
    refine ⟨M0, s2, fun x hx => ?_, ?_⟩
    · rcases List.mem_cons.mp hx with rfl | hx
      · exact dbI
      · exact Int.dvd_trans (i3 x hx) (by exact_mod_cast dL)
    · obtain ⟨y, hy⟩ := dL
      have eM : qs.map (fun x => x.1 * ((M : Int) / x.2)) = (qs.map fun x => x.1 * ((L : Int) / x.2)).map ((y : Int) * ·) := by
        rw [List.map_map]
        apply List.map_congr_left
        intro x hx
        obtain ⟨z, hz⟩ := i3 x hx
        have x0 := (h x (List.mem_cons_of_mem _ hx)).pos
        simp only [Function.comp_apply]
        rw [hy, Int.natCast_mul, hz, Int.mul_assoc, Int.mul_ediv_cancel_left _ (by omega), Int.mul_ediv_cancel_left _ (by omega)]
        ac_rfl
      show Nat.gcd (q.1 * ((M : Int) / q.2)).natAbs (gcdL (qs.map fun x => x.1 * ((M : Int) / x.2))) = _
      rw [eM, gcdL_mul, i4, Int.natAbs_natCast, Int.natAbs_mul]
      have f1 : ((M : Int) / q.2).natAbs = M / q.2.natAbs := by
        rw [← eb]
        have : (M : Int) / ((q.2.natAbs : Nat) : Int) = ((M / q.2.natAbs : Nat) : Int) := by exact_mod_cast rfl
        rw [this, Int.natAbs_natCast, Int.natAbs_natCast]
      have f2 : y = M / L := by rw [hy, Nat.mul_div_cancel_left _ i1]
      rw [f1, f2, Nat.mul_comm (M / L) G]
      exact s1
theorem gl_pos {q : Qn} {qs : List Qn} (h : q.1 ≠ 0) : 0 < (gl (q :: qs)).1 := Nat.gcd_pos_of_pos_left _ (by omega)
theorem prog_prim {q : Qn} {qs : List Qn} (h : ∀ x ∈ q :: qs, Low x) (h0 : q.1 ≠ 0) : Prim (rv (nrm ((gl (q :: qs)).2 : Int) ((gl (q :: qs)).1 : Int))) ((q :: qs).map rv) := by
  obtain ⟨i1, i2, i3, i4⟩ := gl_all h
  have g0 := gl_pos (qs := qs) h0
  rw [rv_nrm (by omega)]
  exact prim_of (by omega) g0 (fun x hx => ⟨(h x hx).pos, i3 x hx⟩) i4
end DL
namespace DL
open PySem PySem.Spec PyProof.Rows L2 RT
theorem lcm_bt {a b : Nat} {n k : Nat} (ha : Bt n (a : Int)) (hb : Bt k (b : Int)) : Bt (n + k) ((Nat.lcm a b : Nat) : Int) := by
  have := ha.mul hb
  refine this.le ?_
  rw [Int.natAbs_mul, Int.natAbs_natCast, Int.natAbs_natCast, Int.natAbs_natCast]
  exact Nat.div_le_self _ _
theorem whole_loop {e0 : Ent} : ∀ (qs : List Qn) {n k : Nat} (G L : Nat) (e3 e4 : Ent), (∀ q ∈ qs, Sz n q) → Bt k (L : Int) → 0 < k → n ≤ 8000 → k + n * qs.length ≤ 8000 →
    ∃ e3' e4', loopS (tupT 2 (consTs (nameT 3) (consTs (nameT 4) nilTs))) PG.L_whole_factor_1 (qs.map N) [e0, .d (.int (G : Int)), .d (.int (L : Int)), e3, e4] = .nx [e0, .d (.int ((Nat.gcd G (gl qs).1 : Nat) : Int)), .d (.int ((Nat.lcm L (gl qs).2 : Nat) : Int)), e3', e4']
  | [], n, k, G, L, e3, e4, _, _, _, _, _ => ⟨e3, e4, by simp [gl]⟩
  | q :: qs, n, k, G, L, e3, e4, h, hb, k0, hn, hk => by
    have h1 := h q List.mem_cons_self
    have e : n * (q :: qs).length = n * qs.length + n := Nat.mul_succ _ _
    rw [e] at hk
    have hl : Bt (k + n) ((Nat.lcm L q.2.natAbs : Nat) : Int) := lcm_bt hb (bt_nat h1.b2)
    obtain ⟨e3', e4', z⟩ := whole_loop qs (n := n) (k := k + n) (Nat.gcd G q.1.natAbs) (Nat.lcm L q.2.natAbs) (.d (.int q.1)) (.d (.int q.2)) (fun x hx => h x (List.mem_cons_of_mem _ hx)) hl (by omega) hn (by omega)
    refine ⟨e3', e4', ?_⟩
    have c : bLcm (.int (L : Int)) (.int q.2) = some (.int ((Nat.lcm L q.2.natAbs : Nat) : Int)) := bLcm_ok (n := 9000) (hb.mono (by omega)) (h1.b2.mono (by omega)) (by decide) (by decide)
    rw [List.map_cons, loopS_cons (ρ1 := [e0, .d (.int (G : Int)), .d (.int (L : Int)), .d (.int q.1), .d (.int q.2)]) (by simp)]
    simp only [gl]
    rw [← Nat.gcd_assoc, ← Nat.lcm_assoc]
    simp [PG.L_whole_factor_1, c]
    exact z
theorem gl_bt : ∀ {qs : List Qn} {n : Nat}, (∀ q ∈ qs, Sz n q) → Bt (n * qs.length + 1) ((gl qs).2 : Int)
  | [], n, _ => by simp [gl]; unfold Bt; decide
  | q :: qs, n, h => by
    have z := gl_bt (qs := qs) (n := n) fun x hx => h x (List.mem_cons_of_mem _ hx)
    have e : n * (q :: qs).length + 1 = n + (n * qs.length + 1) := by rw [List.length_cons, Nat.mul_succ]; omega
    rw [e]
    exact lcm_bt (bt_nat (h q List.mem_cons_self).b2) z
theorem gl_bt1 {q : Qn} {qs : List Qn} {n : Nat} (h : Sz n q) (h0 : q.1 ≠ 0) : Bt n ((gl (q :: qs)).1 : Int) := by
  refine h.b1.le ?_
  rw [Int.natAbs_natCast]
  exact Nat.gcd_le_left _ (by omega)
def wfM (qs : List Qn) : Qn := nrm ((gl qs).2 : Int) ((gl qs).1 : Int)
theorem pg_whole {q : Qn} {qs : List Qn} {n : Nat} (h : ∀ x ∈ q :: qs, Sz n x) (h0 : q.1 ≠ 0) (hn : n * (qs.length + 1) + 1 ≤ 8000) :
    PG.B_whole_factor (.list ((q :: qs).map N)) = .ok (N (wfM (q :: qs))) ∧ Sz (n * (qs.length + 1) + 1) (wfM (q :: qs)) := by
  have n1 : n * 1 ≤ n * (qs.length + 1) := Nat.mul_le_mul_left _ (by omega)
  obtain ⟨e3, e4, L⟩ := whole_loop (e0 := .d (.list ((q :: qs).map N))) (q :: qs) (n := n) (k := 1) 0 1 .un .un h (by unfold Bt; decide) (by decide) (by omega) (by simp only [List.length_cons]; omega)
  rw [Nat.gcd_zero_left, Nat.lcm_one_left] at L
  have g0 := gl_pos (qs := qs) h0
  have b1 : Bt n ((gl (q :: qs)).1 : Int) := gl_bt1 (h q List.mem_cons_self) h0
  have b2 : Bt (n * (qs.length + 1) + 1) ((gl (q :: qs)).2 : Int) := gl_bt h
  have en : PG.m_number [.int ((gl (q :: qs)).2 : Int), .int ((gl (q :: qs)).1 : Int)] = .ok (N (wfM (q :: qs))) := pg_number (by omega) (b1.mono (by omega))
  refine ⟨?_, .nrm (by omega) b2 (b1.mono (by omega))⟩
  rw [show ((0 : Nat) : Int) = 0 from rfl, show ((1 : Nat) : Int) = 1 from rfl] at L
  simp only [List.map_cons] at L ⊢
  simp [PG.B_whole_factor, PG.S_whole_factor, L, en]
theorem sgn_low {b : Bool} {f : Qn} (h : Low f) : Low (sgnM b f) := by
  unfold sgnM
  split
  · exact low_nrm (Int.mul_ne_zero (by have := h.pos; omega) (by decide))
  · exact h
theorem rv_sgn {b : Bool} {f : Qn} (h : Low f) : rv (sgnM b f) = if b = true then -rv f else rv f := by
  unfold sgnM
  split
  · rw [rv_mul (by decide) (by have := h.pos; omega)]
    have : rv (-1, 1) = -1 := by unfold rv; push_cast; grind
    rw [this]
    grind
  · rfl
def facQ (r : Rw) : List Qn := match r.1 with
  | [] => [r.2.2]
  | p :: ps => (p :: ps).map (·.2)
structure LowR (r : Rw) : Prop where
  ps : ∀ p ∈ r.1, Low p.2 ∧ p.2.1 ≠ 0
  bd : Low r.2.2
theorem low0 {q : Qn} (h : Low q) (h0 : q.1 = 0) : q = (0, 1) := by
  obtain ⟨a, b⟩ := q
  obtain ⟨h1, h2⟩ := h
  simp only at h0 h1 h2
  subst h0
  simp at h2
  have : b = 1 := by omega
  rw [this]
theorem fac_eq1 {q : Qn} (h : Low q) (h0 : q.1 ≠ 0) : wfM [q] = qdiv (1, 1) (nrm (q.1.natAbs : Int) q.2) := by
  have q0 : q.2 ≠ 0 := by have := h.pos; omega
  have t0 : (q.1.natAbs : Int) ≠ 0 := by omega
  have n1 : (nrm (q.1.natAbs : Int) q.2).2 ≠ 0 := by have := nrm_pos (t := (q.1.natAbs : Int)) q0; omega
  have n0 : (nrm (q.1.natAbs : Int) q.2).1 ≠ 0 := by
    intro z
    have := nrm_cross (t := (q.1.natAbs : Int)) q0
    rw [z, Int.zero_mul] at this
    have := Int.mul_ne_zero t0 n1
    omega
  have e1 : ((gl [q]).2 : Int) = q.2 := by simp [gl]; have := h.pos; omega
  have e2 : ((gl [q]).1 : Int) = (q.1.natAbs : Int) := by simp [gl]
  unfold wfM
  rw [e1, e2]
  refine rv_ext (low_nrm t0) (low_nrm (Int.mul_ne_zero (by decide) n0)) ?_
  rw [rv_nrm t0, rv_div n0 (by decide) n1, rv_nrm q0]
  have : rv (1, 1) = 1 := by unfold rv; push_cast; grind
  rw [this]
  have r1 := rc t0
  have r2 := rc q0
  grind
theorem fac_eq2 {p : Pt} {ps : List Pt} (h : ∀ x ∈ p :: ps, Low x.2 ∧ x.2.1 ≠ 0) : wfM ((p :: ps).map (·.2)) = nrm (comM (p :: ps) 1) (shM (comM (p :: ps) 1) (p :: ps) 0) := by
  obtain ⟨l1, l2⟩ := law_prim (ps := p :: ps) (by simp) fun x hx => ⟨(h x hx).1.pos, (h x hx).2⟩
  have l3 := prog_prim (q := p.2) (qs := ps.map (·.2)) (fun x hx => by
    rcases List.mem_cons.mp hx with rfl | hx
    · exact (h p List.mem_cons_self).1
    · obtain ⟨y, hy, rfl⟩ := List.mem_map.mp hx
      exact (h y (List.mem_cons_of_mem _ hy)).1) (h p List.mem_cons_self).2
  have g0 := gl_pos (qs := ps.map (·.2)) (h p List.mem_cons_self).2
  refine rv_ext (low_nrm (by simp only [List.map_cons]; omega)) (low_nrm (by omega)) (Prim.unique l3 ?_)
  simpa [Function.comp_def] using l1
end DL
namespace DL
open PySem PySem.Spec PyProof.Rows L2 RT
theorem pg_multiplied {ps : List Pt} {f : Qn} (h : ∀ p ∈ ps, Sz 4000 p.2) (hf : Sz 4000 f) (hl : ps.length ≤ 1000) : PG.B_multiplied (psD ps) (N f) = .ok (psD (ps.map fun p => (p.1, qmul p.2 f))) := by
  have c : compL (tupT 2 (consTs (nameT 2) (consTs (nameT 3) nilTs))) yesT (tupF (consA (varF 2) (consA (callF PG.m_times (consA (varF 3) (consA (varF 1) nilA))) nilA))) [.d (psD ps), .d (N f), .un, .un] (ps.map pD) [] = some ((ps.map fun p => (p.1, qmul p.2 f)).map pD) := by
    rw [compL_map pD (fun p => pD (p.1, qmul p.2 f)) ps (fun p hp => ?_) (by omega)]
    · simp
    · have e : PG.m_times [.tuple [.int p.2.1, .int p.2.2], .tuple [.int f.1, .int f.2]] = .ok (N (qmul p.2 f)) := pg_times (h p hp) hf
      simp [e]
  simp [PG.B_multiplied, PG.S_multiplied, c]
theorem neg_eq {f : Qn} (h : Low f) : qsub (0, 1) f = qmul f (-1, 1) := by
  have f0 : f.2 ≠ 0 := by have := h.pos; omega
  refine rv_ext (low_nrm (Int.mul_ne_zero (by decide) f0)) (low_nrm (Int.mul_ne_zero f0 (by decide))) ?_
  rw [rv_sub f0 (by decide), rv_mul (by decide) f0]
  have h0 : rv (0, 1) = 0 := by unfold rv; push_cast; grind
  have h1 : rv (-1, 1) = -1 := by unfold rv; push_cast; grind
  rw [h0, h1]
  grind
theorem pg_normal_factor {r : Rw} {n : Nat} (h : SzR n r) (hL : LowR r) (hs : PySem.PyData.strOk r.2.1 = true) (hl : r.1.length ≤ 100) (hn : n * (r.1.length + 2) + 4 ≤ 3900) :
    PG.B_normal_factor (rD r) = .ok (N (factorM r)) := by
  obtain ⟨ps, sg, bd⟩ := r
  obtain ⟨hp, hb⟩ := h
  obtain ⟨lp, lb⟩ := hL
  simp only at hp hb lp lb hs hl hn ⊢
  have key : ∀ (q : Qn) (qs : List Qn), (∀ x ∈ q :: qs, Sz n x) → q.1 ≠ 0 → n * (qs.length + 1) + 4 ≤ 3900 → Low q →
      PG.m_whole_factor [.list ((q :: qs).map N)] = .ok (N (wfM (q :: qs))) ∧ PG.m_compare [.tuple [.int q.1, .int q.2], .tuple [.int 0, .int 1]] = .ok (.int (if q.1 < 0 then -1 else if 0 < q.1 then 1 else 0)) ∧ PG.m_minus [.tuple [.int 0, .int 1], .tuple [.int (wfM (q :: qs)).1, .int (wfM (q :: qs)).2]] = .ok (N (qmul (wfM (q :: qs)) (-1, 1))) := by
    intro q qs hx h0 hk hlq
    have n1 : n * 1 ≤ n * (qs.length + 1) := Nat.mul_le_mul_left _ (by omega)
    obtain ⟨e1, z1⟩ := pg_whole hx h0 (by omega)
    refine ⟨e1, ?_, ?_⟩
    · rw [← qcmp0]
      exact pg_compare ((hx q List.mem_cons_self).mono (by omega)) (sz01.mono (by decide))
    · rw [← neg_eq]
      · exact pg_minus (sz01.mono (by decide)) (z1.mono (by omega))
      · exact low_nrm (by have := gl_pos (qs := qs) h0; omega)
  cases ps with
  | nil =>
    by_cases b0 : bd.1 = 0
    · have := low0 lb b0
      subst this
      simp [PG.B_normal_factor, PG.S_normal_factor, factorM]
    · obtain ⟨k1, k2, k3⟩ := key bd [] (fun x hx => by rw [List.mem_singleton.mp hx]; exact hb) b0 (by simp at hn ⊢; omega) lb
      have fe := fac_eq1 lb b0
      simp only [List.map_cons, List.map_nil] at k1
      rw [fe] at k1 k3
      have be : (bd.1 == 0 && bd.2 == 1) = false := by simp [b0]
      cases hq : (sg == "=") with
      | false => simp [PG.B_normal_factor, PG.S_normal_factor, factorM, b0, compL, k1, k2, dEq_s hs ok_eq, hq, sgnM]
      | true =>
        by_cases h0 : bd.1 < 0
        · rw [if_pos h0] at k2
          simp [PG.B_normal_factor, PG.S_normal_factor, factorM, b0, compL, k1, k2, k3, dEq_s hs ok_eq, hq, sgnM, h0]
        · rw [if_neg h0, if_pos (by omega)] at k2
          simp [PG.B_normal_factor, PG.S_normal_factor, factorM, b0, compL, k1, k2, dEq_s hs ok_eq, hq, sgnM, h0]
  | cons p ps =>
    obtain ⟨k1, k2, k3⟩ := key p.2 (ps.map (·.2)) (fun x hx => by
      rcases List.mem_cons.mp hx with rfl | hx
      · exact hp p List.mem_cons_self
      · obtain ⟨y, hy, rfl⟩ := List.mem_map.mp hx
        exact hp y (List.mem_cons_of_mem _ hy)) (lp p List.mem_cons_self).2 (by
        have e : n * (ps.length + 1 + 2) = n * (ps.length + 1) + n * 2 := Nat.mul_add _ _ _
        simp only [List.length_cons, List.length_map] at hn ⊢
        omega) (lp p List.mem_cons_self).1
    have fe := fac_eq2 lp
    have c : compL (tupT 2 (consTs (nameT 5) (consTs (nameT 6) nilTs))) yesT (varF 6) [.d (rD (p :: ps, sg, bd)), .d (psD (p :: ps)), .d (.str sg), .d (N bd), .un, .un, .un, .un] ((p :: ps).map pD) [] = some ((p.2 :: ps.map (·.2)).map N) := by
      rw [compL_map pD (fun p => N p.2) (p :: ps) (fun p hp => ?_) (by omega)]
      · simp
      · simp
    simp only [List.map_cons] at c k1 k3 fe
    rw [fe] at k1 k3
    generalize (ps.map (·.2)).map N = Z at c k1
    have hi : ∀ l, dIx (.list (.tuple [.int p.2.1, .int p.2.2] :: l)) (.int 0) = some (.tuple [.int p.2.1, .int p.2.2]) := fun l => dIx_l0
    cases hq : (sg == "=") with
    | false => simp [PG.B_normal_factor, PG.S_normal_factor, factorM, c, k1, k2, dEq_s hs ok_eq, hq, sgnM]
    | true =>
      by_cases h0 : p.2.1 < 0
      · rw [if_pos h0] at k2
        simp [PG.B_normal_factor, PG.S_normal_factor, factorM, c, k1, k2, k3, dEq_s hs ok_eq, hq, sgnM, h0]
      · have := (lp p List.mem_cons_self).2
        rw [if_neg h0, if_pos (by omega)] at k2
        simp [PG.B_normal_factor, PG.S_normal_factor, factorM, c, k1, k2, dEq_s hs ok_eq, hq, sgnM, h0]
end DL
namespace DL
open PySem PySem.Spec PyProof.Rows L2 RT
theorem rv01 : rv (0, 1) = 0 := by unfold rv; push_cast; grind
theorem rv11 : rv (1, 1) = 1 := by unfold rv; push_cast; grind
theorem rvm1 : rv (-1, 1) = -1 := by unfold rv; push_cast; grind
theorem rv_neg {q : Qn} (h : 0 < q.2) : q.1 < 0 ↔ rv q < 0 := by
  have := rv_lt (p := q) (q := (0, 1)) h (by decide)
  rw [rv01] at this
  rw [this]
  simp
theorem rv_nz {q : Qn} (h : 0 < q.2) : q.1 = 0 ↔ rv q = 0 := by
  rw [rv_zero]
  constructor
  · exact .inl
  · rintro (h1 | h1)
    · exact h1
    · omega
structure PosR (r : Rw) : Prop where
  ps : ∀ p ∈ r.1, 0 < p.2.2 ∧ p.2.1 ≠ 0
  bd : 0 < r.2.2.2
theorem prim_one {x : Rat} (h : x ≠ 0) {f : Rat} (h1 : 0 < f) (h2 : f * x = 1 ∨ f * x = -1) : Prim f [x] := by
  refine ⟨h1, ?_⟩
  rcases h2 with h2 | h2
  · exact ⟨[1], by simp [h2], by decide⟩
  · exact ⟨[-1], by simp [h2], by decide⟩
theorem fac_rv {r : Rw} (h : PosR r) {q : Qn} {qs : List Qn} (e : facQ r = q :: qs) (h0 : q.1 ≠ 0) : ∃ f, Prim f ((q :: qs).map rv) ∧ rv (factorM r) = (if (r.2.1 == "=" && decide (q.1 < 0)) = true then -f else f) ∧ Low (factorM r) := by
  obtain ⟨ps, sg, bd⟩ := r
  obtain ⟨hp, hb⟩ := h
  simp only at hp hb ⊢
  cases ps with
  | nil =>
    simp only [facQ, List.cons.injEq] at e
    obtain ⟨rfl, rfl⟩ := e
    have q0 : bd.2 ≠ 0 := by omega
    have t0 : (bd.1.natAbs : Int) ≠ 0 := by omega
    have n1 : (nrm (bd.1.natAbs : Int) bd.2).2 ≠ 0 := by have := nrm_pos (t := (bd.1.natAbs : Int)) q0; omega
    have n0 : (nrm (bd.1.natAbs : Int) bd.2).1 ≠ 0 := by
      intro z
      have := nrm_cross (t := (bd.1.natAbs : Int)) q0
      rw [z, Int.zero_mul] at this
      have := Int.mul_ne_zero t0 n1
      omega
    have lw : Low (qdiv (1, 1) (nrm (bd.1.natAbs : Int) bd.2)) := low_nrm (Int.mul_ne_zero (by decide) n0)
    simp only [factorM, if_neg h0]
    refine ⟨rv (qdiv (1, 1) (nrm (bd.1.natAbs : Int) bd.2)), ?_, rv_sgn lw, sgn_low lw⟩
    rw [rv_div n0 (by decide) n1, rv_nrm q0, rv11]
    have r1 := rc t0
    have r2 := rc q0
    have p1 : (0 : Rat) < ((bd.1.natAbs : Int) : Rat) := by exact_mod_cast (by omega : (0 : Int) < (bd.1.natAbs : Int))
    have p2 : (0 : Rat) < (bd.2 : Rat) := by exact_mod_cast hb
    have ne : rv bd ≠ 0 := fun z => h0 ((rv_nz hb).mpr z)
    refine prim_one ne ?_ ?_
    · have : (1 : Rat) / (((bd.1.natAbs : Int) : Rat) / (bd.2 : Rat)) = (bd.2 : Rat) * (((bd.1.natAbs : Int) : Rat))⁻¹ := by grind
      rw [this]
      exact Rat.mul_pos p2 (Rat.inv_pos.mpr p1)
    · unfold rv
      have : bd.1 = (bd.1.natAbs : Int) ∨ bd.1 = -(bd.1.natAbs : Int) := by omega
      rcases this with h | h
      · left
        have hh : (bd.1 : Rat) = ((bd.1.natAbs : Int) : Rat) := by exact_mod_cast h
        rw [hh]
        grind
      · right
        have hh : (bd.1 : Rat) = -((bd.1.natAbs : Int) : Rat) := by exact_mod_cast h
        rw [hh]
        grind
  | cons p ps =>
    simp only [facQ, List.map_cons, List.cons.injEq] at e
    obtain ⟨rfl, rfl⟩ := e
    obtain ⟨l1, l2⟩ := law_prim (ps := p :: ps) (by simp) hp
    have lw : Low (nrm (comM (p :: ps) 1) (shM (comM (p :: ps) 1) (p :: ps) 0)) := low_nrm (by omega)
    simp only [factorM]
    refine ⟨rv (nrm (comM (p :: ps) 1) (shM (comM (p :: ps) 1) (p :: ps) 0)), ?_, rv_sgn lw, sgn_low lw⟩
    simpa [Function.comp_def] using l1
theorem facQ_scale (r : Rw) (f : Qn) : facQ (scaleM r f) = (facQ r).map fun q => qmul q f := by
  obtain ⟨ps, sg, bd⟩ := r
  cases ps with
  | nil => simp [facQ, scaleM]
  | cons p ps => simp [facQ, scaleM]
theorem facQ_cons (r : Rw) : ∃ q qs, facQ r = q :: qs := by
  obtain ⟨ps, sg, bd⟩ := r
  cases ps with
  | nil => exact ⟨_, _, rfl⟩
  | cons p ps => exact ⟨_, _, rfl⟩
theorem facQ_pos {r : Rw} (h : PosR r) : ∀ q ∈ facQ r, 0 < q.2 := by
  obtain ⟨ps, sg, bd⟩ := r
  cases ps with
  | nil => intro q hq; rw [List.mem_singleton.mp hq]; exact h.bd
  | cons p ps =>
    intro q hq
    obtain ⟨x, hx, rfl⟩ := List.mem_map.mp hq
    exact (h.ps x hx).1
theorem qmul_nz {p f : Qn} (h : p.1 ≠ 0) (hp : 0 < p.2) (hf : f.1 ≠ 0) (hf2 : 0 < f.2) : (qmul p f).1 ≠ 0 := by
  have hh : (qmul p f).2 ≠ 0 := by have := nrm_pos (t := p.1 * f.1) (b := p.2 * f.2) (Int.mul_ne_zero (by omega) (by omega)); unfold qmul; omega
  intro z
  have h1 : rv (qmul p f) = 0 := (rv_zero).mpr (.inl z)
  rw [rv_mul (by omega) (by omega)] at h1
  have h2 : rv p ≠ 0 := fun z => h ((rv_nz hp).mpr z)
  have h3 : rv f ≠ 0 := fun z => hf ((rv_nz hf2).mpr z)
  have := Rat.mul_eq_zero.mp h1
  grind
theorem qmul_pos {p f : Qn} (hp : 0 < p.2) (hf2 : 0 < f.2) : 0 < (qmul p f).2 := nrm_pos (Int.mul_ne_zero (by omega) (by omega))
theorem PosR.scale {r : Rw} {f : Qn} (h : PosR r) (hf : f.1 ≠ 0) (hf2 : 0 < f.2) : PosR (scaleM r f) := by
  refine ⟨fun p hp => ?_, qmul_pos h.bd hf2⟩
  obtain ⟨x, hx, rfl⟩ := List.mem_map.mp hp
  obtain ⟨h1, h2⟩ := h.ps x hx
  exact ⟨qmul_pos h1 hf2, qmul_nz h2 h1 hf hf2⟩
theorem factor_inv {r0 : Rw} {c : Qn} (h : PosR r0) (hc : c.1 ≠ 0) (hc2 : 0 < c.2) (hs : (r0.2.1 == "=") = false → 0 < c.1) {q : Qn} {qs : List Qn} (e : facQ r0 = q :: qs) (h0 : q.1 ≠ 0) :
    rv c * rv (factorM (scaleM (normM r0) c)) = 1 ∧ Low (factorM (scaleM (normM r0) c)) ∧ Low (factorM r0) := by
  obtain ⟨f, P, E, L⟩ := fac_rv h e h0
  have q2 : 0 < q.2 := facQ_pos h q (by rw [e]; exact List.mem_cons_self)
  have F2 := L.pos
  have f0 := P.pos
  have hF : (factorM r0).1 ≠ 0 := by
    intro z
    have := (rv_zero (q := factorM r0)).mpr (.inl z)
    rw [E] at this
    split at this <;> grind
  have h1 : PosR (normM r0) := h.scale hF F2
  have h2 : PosR (scaleM (normM r0) c) := h1.scale hc hc2
  have e2 : facQ (scaleM (normM r0) c) = qmul (qmul q (factorM r0)) c :: (qs.map fun x => qmul (qmul x (factorM r0)) c) := by
    unfold normM
    rw [facQ_scale, facQ_scale, e]
    simp
  have x0 : (qmul q (factorM r0)).1 ≠ 0 := qmul_nz h0 q2 hF F2
  have x2 : 0 < (qmul q (factorM r0)).2 := qmul_pos q2 F2
  obtain ⟨f', P', E', L'⟩ := fac_rv h2 e2 (qmul_nz x0 x2 hc hc2)
  refine ⟨?_, L', L⟩
  have sg2 : (scaleM (normM r0) c).2.1 = r0.2.1 := rfl
  rw [sg2] at E'
  have g0 := P'.pos
  have allpos := facQ_pos h
  rw [e] at allpos
  have EX : (qmul (qmul q (factorM r0)) c :: (qs.map fun x => qmul (qmul x (factorM r0)) c)).map rv = ((q :: qs).map rv).map ((rv (factorM r0) * rv c) * ·) := by
    rw [show (qmul (qmul q (factorM r0)) c :: (qs.map fun x => qmul (qmul x (factorM r0)) c)) = (q :: qs).map fun x => qmul (qmul x (factorM r0)) c from rfl, List.map_map, List.map_map]
    apply List.map_congr_left
    intro x hx
    have xp := allpos x hx
    simp only [Function.comp_apply]
    rw [rv_mul (by omega) (by have := qmul_pos xp F2; omega), rv_mul (by omega) (by omega)]
    grind
  rw [EX] at P'
  have rc0 : rv c ≠ 0 := fun z => hc ((rv_nz hc2).mpr z)
  have rF0 : rv (factorM r0) ≠ 0 := fun z => hF ((rv_nz F2).mpr z)
  have sgx : (qmul (qmul q (factorM r0)) c).1 < 0 ↔ rv q * rv (factorM r0) * rv c < 0 := by
    rw [rv_neg (qmul_pos x2 hc2), rv_mul (by omega) (by omega), rv_mul (by omega) (by omega)]
  have sq : q.1 < 0 ↔ rv q < 0 := rv_neg q2
  have rq0 : rv q ≠ 0 := fun z => h0 ((rv_nz q2).mpr z)
  have main : f' * (if rv (factorM r0) * rv c < 0 then -(rv (factorM r0) * rv c) else rv (factorM r0) * rv c) = f := by
    have s0 : rv (factorM r0) * rv c ≠ 0 := fun z => by
      rcases Rat.mul_eq_zero.mp z with z | z
      · exact rF0 z
      · exact rc0 z
    split
    · rename_i hneg
      exact Prim.unique (P'.scale_neg hneg) P
    · rename_i hneg
      exact Prim.unique (P'.scale (by grind)) P
  have msign : ∀ a b : Rat, 0 < a → (a * b < 0 ↔ b < 0) := fun a b ha => by
    constructor
    · intro h
      apply Classical.byContradiction
      intro z
      have := Rat.mul_nonneg (show 0 ≤ a by grind) (show 0 ≤ b by grind)
      grind
    · intro h
      have := Rat.mul_pos ha (show 0 < -b by grind)
      grind
  have cancel : ∀ x : Rat, f' * (f * x) = f → f' * x = 1 := fun x hx => by
    have : f * (f' * x - 1) = 0 := by grind
    rcases Rat.mul_eq_zero.mp this with z | z <;> grind
  cases hq : (r0.2.1 == "=") with
  | false =>
    rw [hq] at E E'
    simp only [Bool.false_and, Bool.false_eq_true, if_false] at E E'
    have c0 : 0 < rv c := by
      have := hs hq
      have h1 : ¬ rv c < 0 := fun z => by have := (rv_neg hc2).mpr z; omega
      grind
    rw [E] at main
    rw [E']
    have : ¬ f * rv c < 0 := by rw [msign f _ f0]; grind
    rw [if_neg this] at main
    have := cancel _ main
    grind
  | true =>
    rw [hq] at E E'
    simp only [Bool.true_and, decide_eq_true_eq] at E E'
    simp only [sgx] at E'
    simp only [sq] at E
    by_cases hn : rv q < 0
    · rw [if_pos hn] at E
      rw [E] at main E'
      have p1 : 0 < rv q * -f := by
        have := Rat.mul_pos (show 0 < -rv q by grind) f0
        grind
      simp only [msign _ _ p1] at E'
      have k1 : -f * rv c < 0 ↔ ¬ rv c < 0 := by
        have := msign f (-rv c) f0
        have e : f * -rv c = -f * rv c := by grind
        rw [e] at this
        rw [this]
        constructor <;> intro h <;> grind
      by_cases hcn : rv c < 0
      · rw [if_pos hcn] at E'
        rw [if_neg (by rw [k1]; exact fun z => z hcn)] at main
        rw [E']
        have := cancel (-rv c) (by grind)
        grind
      · rw [if_neg hcn] at E'
        rw [if_pos (k1.mpr hcn)] at main
        rw [E']
        have := cancel (rv c) (by grind)
        grind
    · rw [if_neg hn] at E
      rw [E] at main E'
      have p1 : 0 < rv q * f := Rat.mul_pos (by grind) f0
      simp only [msign _ _ p1] at E'
      simp only [msign f _ f0] at main
      by_cases hcn : rv c < 0
      · rw [if_pos hcn] at E' main
        rw [E']
        have := cancel (-rv c) (by grind)
        grind
      · rw [if_neg hcn] at E' main
        rw [E']
        have := cancel (rv c) (by grind)
        grind
end DL
namespace DL
open PySem PySem.Spec PyProof.Rows L2 RT
theorem norm_inv {r0 : Rw} {c : Qn} (h : PosR r0) (hc : c.1 ≠ 0) (hc2 : 0 < c.2) (hs : (r0.2.1 == "=") = false → 0 < c.1) : normM (scaleM (normM r0) c) = normM r0 := by
  obtain ⟨q, qs, e⟩ := facQ_cons r0
  have c0 : c.2 ≠ 0 := by omega
  by_cases h0 : q.1 = 0
  · obtain ⟨ps, sg, bd⟩ := r0
    cases ps with
    | cons p ps =>
      simp only [facQ, List.map_cons, List.cons.injEq] at e
      exact absurd (by rw [e.1]; exact h0) (h.ps p List.mem_cons_self).2
    | nil =>
      simp only [facQ, List.cons.injEq] at e
      obtain ⟨rfl, rfl⟩ := e
      have bp := h.bd
      simp only at bp
      have F0 : factorM ([], sg, bd) = (1, 1) := by simp [factorM, h0]
      have z1 : (qmul bd (1, 1)).1 = 0 := by
        have hp := qmul_pos bp (f := (1, 1)) (by decide)
        rw [rv_nz hp, rv_mul (by decide) (by omega), (rv_nz bp).mp h0]
        grind
      have z2 : (qmul (qmul bd (1, 1)) c).1 = 0 := by
        have hp := qmul_pos bp (f := (1, 1)) (by decide)
        rw [rv_nz (qmul_pos hp hc2), rv_mul (by omega) (by omega), (rv_nz hp).mp z1]
        grind
      have hp1 := qmul_pos bp (f := (1, 1)) (by decide)
      have hp2 := qmul_pos hp1 hc2
      have l1 : Low (qmul bd (1, 1)) := low_nrm (Int.mul_ne_zero (by omega) (by decide))
      have l2 : Low (qmul (qmul (qmul bd (1, 1)) c) (1, 1)) := low_nrm (Int.mul_ne_zero (by omega) (by decide))
      have F1 : factorM (scaleM (normM ([], sg, bd)) c) = (1, 1) := by
        simp [normM, scaleM, factorM, F0, h0, z2]
      have : qmul (qmul (qmul bd (1, 1)) c) (1, 1) = qmul bd (1, 1) := by
        refine rv_ext l2 l1 ?_
        rw [rv_mul (by decide) (by omega), (rv_nz hp2).mp z2, (rv_nz hp1).mp z1]
        grind
      show scaleM (scaleM (normM ([], sg, bd)) c) (factorM (scaleM (normM ([], sg, bd)) c)) = _
      rw [F1]
      simp [normM, scaleM, F0, this]
  · obtain ⟨E, L', L⟩ := factor_inv h hc hc2 hs e h0
    have F2 := L.pos
    have F2' := L'.pos
    have step : ∀ x : Qn, 0 < x.2 → qmul (qmul (qmul x (factorM r0)) c) (factorM (scaleM (normM r0) c)) = qmul x (factorM r0) := by
      intro x hx
      have p1 := qmul_pos hx F2
      have p2 := qmul_pos p1 hc2
      refine rv_ext (low_nrm (Int.mul_ne_zero (by omega) (by omega))) (low_nrm (Int.mul_ne_zero (by omega) (by omega))) ?_
      rw [rv_mul (by omega) (by omega), rv_mul (by omega) (by omega), Rat.mul_assoc, E]
      grind
    show scaleM (scaleM (normM r0) c) (factorM (scaleM (normM r0) c)) = scaleM r0 (factorM r0)
    generalize factorM (scaleM (normM r0) c) = G at *
    have e1 : scaleM (scaleM (normM r0) c) G = (r0.1.map fun p => (p.1, qmul (qmul (qmul p.2 (factorM r0)) c) G), r0.2.1, qmul (qmul (qmul r0.2.2 (factorM r0)) c) G) := by
      simp [normM, scaleM, List.map_map, Function.comp_def]
    rw [e1, step _ h.bd]
    unfold scaleM
    congr 1
    apply List.map_congr_left
    intro p hp
    rw [step _ (h.ps p hp).1]
theorem pg_normal {r : Rw} {n : Nat} (h : SzR n r) (hL : LowR r) (hs : PySem.PyData.strOk r.2.1 = true) (nz : ∀ p ∈ r.1, p.2.1 ≠ 0) (hl : r.1.length ≤ 100) (hn : n * (r.1.length + 2) + 4 ≤ 3900) :
    PG.B_normal (rD r) = .ok (rD (normM r)) := by
  have e := pg_normal_factor h hL hs hl hn
  have e0 : n * (r.1.length + 2) = n * (r.1.length + 1) + n := Nat.mul_succ _ _
  obtain ⟨_, z⟩ := lh_factor h hs nz (by omega) (by omega)
  have n1 : n * 1 ≤ n * (r.1.length + 2) := Nat.mul_le_mul_left _ (by omega)
  have e1 : PG.m_normal_factor [rD r] = .ok (N (factorM r)) := e
  have e2 : PG.m_multiplied [psD r.1, N (factorM r)] = .ok (psD (r.1.map fun p => (p.1, qmul p.2 (factorM r)))) := pg_multiplied (fun p hp => (h.ps p hp).mono (by omega)) (z.mono (by omega)) (by omega)
  have e3 : PG.m_times [.tuple [.int r.2.2.1, .int r.2.2.2], .tuple [.int (factorM r).1, .int (factorM r).2]] = .ok (N (qmul r.2.2 (factorM r))) := pg_times (h.bd.mono (by omega)) (z.mono (by omega))
  simp only [rD] at e1
  simp [PG.B_normal, PG.S_normal, e1, e2, e3]
  simp [normM, scaleM]
structure GoodR (r : Rw) : Prop where
  sz : SzR 150 r
  low : LowR r
  sg : Sgn r.2.1
  len : r.1.length ≤ 3
  from0 : ∃ r0, PosR r0 ∧ r = normM r0 ∧ r0.2.1 = r.2.1
theorem GoodR.pos {r : Rw} (h : GoodR r) : PosR r := ⟨fun p hp => ⟨(h.low.ps p hp).1.pos, (h.low.ps p hp).2⟩, h.low.bd.pos⟩
theorem fac_low {r : Rw} (h : PosR r) : (factorM r).1 ≠ 0 ∧ 0 < (factorM r).2 := by
  obtain ⟨q, qs, e⟩ := facQ_cons r
  by_cases h0 : q.1 = 0
  · obtain ⟨ps, sg, bd⟩ := r
    cases ps with
    | cons p ps =>
      simp only [facQ, List.map_cons, List.cons.injEq] at e
      exact absurd (by rw [e.1]; exact h0) (h.ps p List.mem_cons_self).2
    | nil =>
      simp only [facQ, List.cons.injEq] at e
      obtain ⟨rfl, rfl⟩ := e
      simp [factorM, h0]
  · obtain ⟨f, P, E, L⟩ := fac_rv h e h0
    refine ⟨?_, L.pos⟩
    intro z
    have f0 := P.pos
    have := (rv_zero (q := factorM r)).mpr (.inl z)
    rw [E] at this
    split at this <;> grind
theorem LowR.scale {r : Rw} {f : Qn} (h : PosR r) (hf : f.1 ≠ 0) (hf2 : 0 < f.2) : LowR (scaleM r f) := by
  refine ⟨fun p hp => ?_, low_nrm (Int.mul_ne_zero (by have := h.bd; omega) (by omega))⟩
  obtain ⟨x, hx, rfl⟩ := List.mem_map.mp hp
  obtain ⟨h1, h2⟩ := h.ps x hx
  exact ⟨low_nrm (Int.mul_ne_zero (by omega) (by omega)), qmul_nz h2 h1 hf hf2⟩
theorem Good.good {r : Rw} (h : Good r) : GoodR r := by
  obtain ⟨ps, sg, b, rfl, hs, hp, hl, hb⟩ := h
  have pl := partsM_len ps
  have z0 : SzR 28 (partsM ps, sg, b) := (szR_parts (n := 6) (fun p h => (hp p h).1) hb).mono (by omega)
  have p0 : PosR (partsM ps, sg, b) := ⟨fun p h => ⟨(z0.ps p h).pos, partsM_nz p h⟩, hb.pos⟩
  obtain ⟨f1, f2⟩ := fac_low p0
  have hn : 28 * ((partsM ps).length + 1) ≤ 28 * 4 := Nat.mul_le_mul_left _ (by omega)
  refine ⟨(z0.norm hs.ok (fun p h => partsM_nz p h) (by show (partsM ps).length ≤ _; omega) (by show 28 * ((partsM ps).length + 1) + 4 ≤ _; omega)).mono (by show 28 + (28 * ((partsM ps).length + 1) + 4) ≤ _; omega), LowR.scale p0 f1 f2, hs, ?_, _, p0, rfl, rfl⟩
  show ((partsM ps).map _).length ≤ 3
  rw [List.length_map]
  omega
end DL
namespace DL
open PySem PySem.Spec PyProof.Rows L2 RT
def mergeQ (pt : List Pt) : List Pt := pt.foldl (fun k p => putQ k p.1 p.2) []
def look (pt : List Pt) (x : Str) : Qn := getQ (mergeQ pt) x
def atM (f : Str → Qn) (ps : List Pt) (t : Qn) : Qn := ps.foldl (fun t p => qadd t (qmul p.2 (f p.1))) t
theorem pairsD_dQ : ∀ pt : List Pt, pairsD (pt.map pD) = some (dQ pt)
  | [] => rfl
  | p :: pt => by
    have z := pairsD_dQ pt
    show (pairD (pD p)).bind (fun q => (pairsD (pt.map pD)).map (q :: ·)) = _
    rw [z]
    rfl
theorem mergeD_dQ (pt : List Pt) : mergeD [] (dQ pt) = dQ (mergeQ pt) := by
  have main : ∀ (pt kvs : List Pt), mergeD (dQ kvs) (dQ pt) = dQ (pt.foldl (fun k p => putQ k p.1 p.2) kvs) := by
    intro pt
    induction pt with
    | nil => intro kvs; rfl
    | cons p pt ih =>
      intro kvs
      have := ih (putQ kvs p.1 p.2)
      rw [List.foldl_cons, ← this, ← putD_dQ]
      rfl
  exact main pt []
theorem merge_all {P : Qn → Prop} : ∀ (pt kvs : List Pt), (∀ p ∈ kvs, P p.2) → (∀ p ∈ pt, P p.2) → ∀ q ∈ pt.foldl (fun k p => putQ k p.1 p.2) kvs, P q.2
  | [], kvs, h, _ => h
  | p :: pt, kvs, h, hp => merge_all pt (putQ kvs p.1 p.2) (fun q hq => by
      rcases mem_putQ hq with hq | rfl
      · exact h q hq
      · exact hp p List.mem_cons_self) fun q hq => hp q (List.mem_cons_of_mem _ hq)
theorem look_sz {pt : List Pt} {n : Nat} (h : ∀ p ∈ pt, Sz n p.2) (x : Str) : Sz (n + 1) (look pt x) :=
  Sz.get (fun p hp => (merge_all (P := Sz n) pt [] (fun _ h => by cases h) h p hp).mono (by omega)) x
section
variable {pt : List Pt} {m : Nat}
theorem lh_at_loop (hx : ∀ x, Sz m (look pt x)) {e0 e1 : Ent} : ∀ (ps : List Pt) {n k : Nat} (t : Qn) (e4 e5 : Ent), (∀ p ∈ ps, Sz n p.2) → Sz k t → n ≤ 3900 → m ≤ 3900 → k + (n + m + 1) * ps.length ≤ 3900 →
    ∃ e4' e5', loopS (tupT 2 (consTs (nameT 4) (consTs (nameT 5) nilTs))) LH.L_at_1 (ps.map pD) [e0, e1, .dct (dQ (mergeQ pt)), .d (N t), e4, e5] = .nx [e0, e1, .dct (dQ (mergeQ pt)), .d (N (atM (look pt) ps t)), e4', e5']
  | [], n, k, t, e4, e5, _, _, _, _, _ => ⟨e4, e5, rfl⟩
  | p :: ps, n, k, t, e4, e5, hp, ht, hn, hm, hk => by
    have e : (n + m + 1) * (p :: ps).length = (n + m + 1) * ps.length + (n + m + 1) := Nat.mul_succ _ _
    rw [e] at hk
    have h1 := hp p List.mem_cons_self
    have zm := h1.mul (hx p.1)
    obtain ⟨e4', e5', z⟩ := lh_at_loop hx (e0 := e0) (e1 := e1) ps (qadd t (qmul p.2 (look pt p.1))) (.d (.str p.1)) (.d (N p.2)) (fun q hq => hp q (List.mem_cons_of_mem _ hq)) (ht.add zm) hn hm (by omega)
    refine ⟨e4', e5', ?_⟩
    have v := valD_dQ (mergeQ pt) p.1
    have c1 : LH.m_mul [.tuple [.int p.2.1, .int p.2.2], N (look pt p.1)] = .ok (N (qmul p.2 (look pt p.1))) := lh_mul (h1.mono (by omega)) ((hx p.1).mono (by omega))
    have c2 : LH.m_add [N t, N (qmul p.2 (look pt p.1))] = .ok (N (qadd t (qmul p.2 (look pt p.1)))) := lh_add (ht.mono (by omega)) (zm.mono (by omega))
    have v2 : (valD (dQ (mergeQ pt)) (.inr p.1)).getD (.tuple [.int 0, .int 1]) = N (look pt p.1) := v
    rw [List.map_cons, loopS_cons (ρ1 := [e0, e1, .dct (dQ (mergeQ pt)), .d (N t), .d (.str p.1), .d (.tuple [.int p.2.1, .int p.2.2])]) (by simp)]
    simp only [N] at c1 c2 v2
    simp [LH.L_at_1, v2, c1, c2]
    exact z
theorem pg_at_loop (hx : ∀ x, Sz m (look pt x)) {e0 e1 e2 : Ent} : ∀ (ps : List Pt) {n k : Nat} (t : Qn) (e5 e6 : Ent), (∀ p ∈ ps, Sz n p.2) → Sz k t → n ≤ 3900 → m ≤ 3900 → k + (n + m + 1) * ps.length ≤ 3900 →
    ∃ e5' e6', loopS (tupT 2 (consTs (nameT 5) (consTs (nameT 6) nilTs))) PG.L_value_1 (ps.map pD) [e0, e1, e2, .d (N t), .dct (dQ (mergeQ pt)), e5, e6] = .nx [e0, e1, e2, .d (N (atM (look pt) ps t)), .dct (dQ (mergeQ pt)), e5', e6']
  | [], n, k, t, e5, e6, _, _, _, _, _ => ⟨e5, e6, rfl⟩
  | p :: ps, n, k, t, e5, e6, hp, ht, hn, hm, hk => by
    have e : (n + m + 1) * (p :: ps).length = (n + m + 1) * ps.length + (n + m + 1) := Nat.mul_succ _ _
    rw [e] at hk
    have h1 := hp p List.mem_cons_self
    have zm := h1.mul (hx p.1)
    obtain ⟨e5', e6', z⟩ := pg_at_loop hx (e0 := e0) (e1 := e1) (e2 := e2) ps (qadd t (qmul p.2 (look pt p.1))) (.d (.str p.1)) (.d (N p.2)) (fun q hq => hp q (List.mem_cons_of_mem _ hq)) (ht.add zm) hn hm (by omega)
    refine ⟨e5', e6', ?_⟩
    have v := valD_dQ (mergeQ pt) p.1
    have c1 : PG.m_times [.tuple [.int p.2.1, .int p.2.2], N (look pt p.1)] = .ok (N (qmul p.2 (look pt p.1))) := pg_times (h1.mono (by omega)) ((hx p.1).mono (by omega))
    have c2 : PG.m_plus [N t, N (qmul p.2 (look pt p.1))] = .ok (N (qadd t (qmul p.2 (look pt p.1)))) := pg_plus (ht.mono (by omega)) (zm.mono (by omega))
    have v2 : (valD (dQ (mergeQ pt)) (.inr p.1)).getD (.tuple [.int 0, .int 1]) = N (look pt p.1) := v
    rw [List.map_cons, loopS_cons (ρ1 := [e0, e1, e2, .d (N t), .dct (dQ (mergeQ pt)), .d (.str p.1), .d (.tuple [.int p.2.1, .int p.2.2])]) (by simp)]
    simp only [N] at c1 c2 v2
    simp [PG.L_value_1, v2, c1, c2]
    exact z
theorem at_sz (hx : ∀ x, Sz m (look pt x)) : ∀ (ps : List Pt) {n k : Nat} (t : Qn), (∀ p ∈ ps, Sz n p.2) → Sz k t → Sz (k + (n + m + 1) * ps.length) (atM (look pt) ps t)
  | [], n, k, t, _, ht => by simpa [atM] using ht
  | p :: ps, n, k, t, hp, ht => by
    have z := at_sz hx ps (n := n) (qadd t (qmul p.2 (look pt p.1))) (fun q hq => hp q (List.mem_cons_of_mem _ hq)) (ht.add ((hp p List.mem_cons_self).mul (hx p.1)))
    have e : k + (n + m + 1) * (p :: ps).length = k + (n + m) + 1 + (n + m + 1) * ps.length := by rw [List.length_cons, Nat.mul_succ]; omega
    rw [e]
    exact z
end
section
variable {pt ps : List Pt} {n m k : Nat} (hpt : ∀ p ∈ pt, Sz m p.2) (hp : ∀ p ∈ ps, Sz n p.2) (hn : n ≤ 3000) (hm : m ≤ 3000)
include hpt hp hn hm
theorem pg_value {c : Qn} (hc : Sz k c) (hk : k + (n + (m + 1) + 1) * ps.length ≤ 3900) : PG.B_value (.tuple [psD ps, N c]) (psD pt) = .ok (N (atM (look pt) ps c)) := by
  obtain ⟨e4, e5, L⟩ := pg_at_loop (look_sz hpt) (e0 := .d (.tuple [psD ps, N c])) (e1 := .d (psD pt)) (e2 := .d (psD ps)) ps c .un .un hp hc (by omega) (by omega) hk
  have p1 := pairsD_dQ pt
  simp only [N] at L
  simp [PG.B_value, PG.S_value, p1, mergeD_dQ, L]
end
def holdsR (sg : Str) (x y : Rat) : Bool := if (sg == "=") = true then decide (x = y) else if (sg == "<") = true then decide (x < y) else decide (x ≤ y)
theorem qcmp_rv {p q : Qn} (hp : 0 < p.2) (hq : 0 < q.2) : (qcmp p q = 0 ↔ rv p = rv q) ∧ (qcmp p q < 0 ↔ rv p < rv q) ∧ (qcmp p q ≤ 0 ↔ rv p ≤ rv q) := by
  have h1 := rv_lt hp hq
  have h2 := rv_eq hp hq
  have h3 := rv_lt hq hp
  have h4 : rv p ≤ rv q ↔ ¬ rv q < rv p := by constructor <;> intro h <;> grind
  rw [h4, h3, h1, h2]
  unfold qcmp
  split
  · refine ⟨⟨fun h => by omega, fun h => by omega⟩, ⟨fun _ => by assumption, fun _ => by decide⟩, ⟨fun _ => by omega, fun _ => by decide⟩⟩
  · split
    · refine ⟨⟨fun h => by omega, fun h => by omega⟩, ⟨fun h => by omega, fun h => by omega⟩, ⟨fun h => by omega, fun h => by omega⟩⟩
    · refine ⟨⟨fun h => by omega, fun h => by omega⟩, ⟨fun h => by omega, fun h => by omega⟩, ⟨fun h => by omega, fun h => by omega⟩⟩
theorem pg_holds {r : Rw} {pt : List Pt} {n m : Nat} (hpt : ∀ p ∈ pt, Sz m p.2) (h : SzR n r) (hs : Sgn r.2.1) (hn : n ≤ 3000) (hm : m ≤ 3000) (hk : 1 + (n + (m + 1) + 1) * r.1.length ≤ 3900) :
    PG.B_holds (rD r) (psD pt) = .ok (.bool (holdsR r.2.1 (rv (atM (look pt) r.1 (0, 1))) (rv r.2.2))) := by
  have e1 : PG.m_value [.tuple [psD r.1, .tuple [.int 0, .int 1]], psD pt] = .ok (N (atM (look pt) r.1 (0, 1))) := pg_value hpt h.ps hn hm sz01 hk
  have z := at_sz (look_sz hpt) r.1 (n := n) (k := 1) (0, 1) h.ps sz01
  have e2 : PG.m_compare [N (atM (look pt) r.1 (0, 1)), .tuple [.int r.2.2.1, .int r.2.2.2]] = .ok (.int (qcmp (atM (look pt) r.1 (0, 1)) r.2.2)) := pg_compare (z.mono (by omega)) (h.bd.mono (by omega))
  obtain ⟨c1, c2, c3⟩ := qcmp_rv z.pos h.bd.pos
  generalize atM (look pt) r.1 (0, 1) = v at *
  simp only [N] at e1 e2
  unfold holdsR
  cases b1 : (r.2.1 == "=") with
  | true =>
    simp [PG.B_holds, PG.S_holds, e1, e2, dEq_s hs.ok ok_eq, b1]
    rw [Bool.eq_iff_iff, beq_iff_eq, decide_eq_true_eq]
    exact c1
  | false =>
    cases b2 : (r.2.1 == "<") with
    | true =>
      simp [PG.B_holds, PG.S_holds, e1, e2, dEq_s hs.ok ok_eq, dEq_s hs.ok ok_lt, b1, b2]
      exact c2
    | false =>
      simp [PG.B_holds, PG.S_holds, e1, e2, dEq_s hs.ok ok_eq, dEq_s hs.ok ok_lt, b1, b2]
      exact c3
theorem low01 : Low (0, 1) := ⟨by decide, by decide⟩
def sumR (f : Str → Qn) : List Pt → Rat
  | [] => 0
  | p :: ps => rv p.2 * rv (f p.1) + sumR f ps
theorem rv_at {f : Str → Qn} (hf : ∀ x, 0 < (f x).2) : ∀ (ps : List Pt) (t : Qn), (∀ p ∈ ps, 0 < p.2.2) → 0 < t.2 → rv (atM f ps t) = rv t + sumR f ps
  | [], t, _, _ => by simp only [atM, List.foldl_nil, sumR]; grind
  | p :: ps, t, hp, ht => by
    have q1 := hp p List.mem_cons_self
    have q2 := qmul_pos q1 (hf p.1)
    have z := rv_at hf ps (qadd t (qmul p.2 (f p.1))) (fun q hq => hp q (List.mem_cons_of_mem _ hq)) (nrm_pos (Int.mul_ne_zero (by omega) (by omega)))
    show rv (atM f ps (qadd t (qmul p.2 (f p.1)))) = _
    rw [z, rv_add (by omega) (by omega), rv_mul (by have := hf p.1; omega) (by omega)]
    simp only [sumR]
    grind
end DL
namespace DL
open PySem PySem.Spec PyProof.Rows L2 RT
theorem dNe_self {d : PyData} (h : SeqAt.shaped d = true) : dNe d d = some (.bool false) := by
  have e : PyData.eqv d d = true := SeqAt.eqv_refl d (SeqAt.canLay_of_shaped h)
  simp [dNe, h, e]
theorem canAll {α : Type} {g : α → PyData} : ∀ {xs : List α}, (∀ x ∈ xs, (g x).canLay0 = true) → PyData.canLayAll0 (xs.map g) = true
  | [], _ => rfl
  | x :: xs, h => by
    rw [List.map_cons]
    show ((g x).canLay0 && PyData.canLayAll0 (xs.map g)) = true
    rw [h x List.mem_cons_self, canAll fun y hy => h y (List.mem_cons_of_mem _ hy)]
    rfl
theorem depAll {α : Type} {g : α → PyData} {n : Nat} : ∀ {xs : List α}, (∀ x ∈ xs, (g x).depth ≤ n) → PyData.depthAll (xs.map g) ≤ n
  | [], _ => Nat.zero_le _
  | x :: xs, h => by
    rw [List.map_cons]
    show max (g x).depth (PyData.depthAll (xs.map g)) ≤ n
    have h1 := h x List.mem_cons_self
    have h2 := depAll (g := g) (n := n) (xs := xs) fun y hy => h y (List.mem_cons_of_mem _ hy)
    omega
theorem pD_can {p : Pt} (h : PySem.PyData.strOk p.1 = true) : (pD p).canLay0 = true := by
  simp [PyData.canLay0, PyData.canLayAll0, h]
theorem pD_dep {p : Pt} : (pD p).depth ≤ 2 := by simp [PyData.depth, PyData.depthAll]
theorem addQ_names : ∀ (ps kvs : List Pt) {P : Str → Prop}, (∀ p ∈ kvs, P p.1) → (∀ p ∈ ps, P p.1) → ∀ q ∈ sumQ ps kvs, P q.1
  | [], kvs, P, h, _ => h
  | p :: ps, kvs, P, h, hp => addQ_names ps (addQ kvs p) (fun q hq => by
      rcases mem_putQ hq with hq | rfl
      · exact h q hq
      · exact hp p List.mem_cons_self) fun q hq => hp q (List.mem_cons_of_mem _ hq)
theorem partsM_names {ps : List Pt} {P : Str → Prop} (h : ∀ p ∈ ps, P p.1) : ∀ q ∈ partsM ps, P q.1 := by
  intro q hq
  obtain ⟨q1, _⟩ := List.mem_filter.mp hq
  obtain ⟨x, hx, rfl⟩ := List.mem_map.mp q1
  obtain ⟨p, hp, e⟩ := List.mem_map.mp ((sortS_perm _).mem_iff.mp hx)
  rw [← e]
  exact addQ_names ps [] (fun _ h => by cases h) h p hp
theorem Nam.ok {x : Str} (h : Nam x) : PySem.PyData.strOk x = true := by
  rcases h with rfl | rfl | rfl <;> decide +kernel
theorem loop_then {T : Tg} {S1 S2 : Rho → Out} {r : FR} {ρ : Rho} (I : Nat → Rho → Prop) (ds : List PyData) (h : ∀ (k : Nat) (d : PyData) (ρ : Rho), ds[k]? = some d → I k ρ → ∃ ρ1 ρ2, T d ρ = some ρ1 ∧ S1 ρ1 = .nx ρ2 ∧ I (k + 1) ρ2) (h0 : I 0 ρ)
    (hk : ∀ ρ', I ds.length ρ' → outFR (S2 ρ') = r) : outFR ((loopS T S1 ds ρ).bind S2) = r := by
  obtain ⟨ρ', e, q⟩ := loopS_inv (T := T) (S1 := S1) I ds h ρ h0
  rw [e]
  exact hk ρ' q
theorem loopS_cons_nx {T : Tg} {S1 : Rho → Out} {d : PyData} {ds : List PyData} {ρ ρ1 ρ2 : Rho} (h1 : T d ρ = some ρ1) (h2 : S1 ρ1 = .nx ρ2) : loopS T S1 (d :: ds) ρ = loopS T S1 ds ρ2 := by
  rw [loopS_cons h1, h2]
end DL
namespace DL
open PySem PySem.Spec PyProof.Rows L2 RT
def KD (w : World) (K : PySem.W.Frag) (mg : Str → Option Value) (x : Str) (kvs : List (Str × Str)) (ms : List Str) : Prop :=
  ∃ d es n, mg x = some (.ref d) ∧ KDict K w d es n ∧ (∀ p ∈ kvs, ∃ t, PySem.W.nsIn K d p.1 = some (some (.str p.2 t))) ∧ ∀ z ∈ ms, PySem.W.nsIn K d z = some none
def inKF (no : Bool) (kvs : List (Str × Str)) (ms : List Str) (F : Rho → Res PyData) : Rho → Res PyData := fun ρ => (F ρ).bind fun d ρ => match d with
  | .str z => if z ∈ kvs.map (·.1) then .ok (.bool (!no)) ρ else if z ∈ ms then .ok (.bool no) ρ else .bad
  | _ => .bad
def ixKF (kvs : List (Str × Str)) (F : Rho → Res PyData) : Rho → Res PyData := fun ρ => (F ρ).bind fun d ρ => match d with
  | .str z => (match kvs.find? fun p => decide (p.1 = z) with
    | some p => .ok (.str p.2) ρ
    | none => .bad)
  | _ => .bad
section
variable {X : L2.Cx} {B : Bx} {W : WX} {a : Expr} {x : Str} {pos px : Pos} {kvs : List (Str × Str)} {ms : List Str} {F : Rho → Res PyData}
theorem pt_inK (hk : KD X.w X.K X.mg x kvs ms) (ha : PE X a (tD (km X) B W F)) (hg : Gl X x := by rfl) (hd : (x == ("__debug__" : Str)) = false := by decide) (hmk : behindInMarks .In (.Name x px : Expr) = false := by rfl) :
    PT X (.Compare a [.In] [.Name x px] pos) (tDT (km X) B W (testF (inKF false kvs ms F))) := by
  obtain ⟨d, es, n, hm, D, h1, h2⟩ := hk
  refine (pt_cmpR (op_in_kd D) ha (pe_glob (v := .ref d) hg hm rfl hd) hmk).of ?_
  rintro σ H Q ⟨G, ρ, E, S⟩
  refine ⟨G, ρ, E, (Sat.bind (Sat.bind S)).imp fun y ρ1 s1 v G1 H1 E1 g1 dp1 => ?_⟩
  cases y <;> first | exact s1.elim | skip
  rename_i z
  cases dp1
  have s2 : Sat (km X) B W G σ (if z ∈ kvs.map (·.1) then Res.ok (PyData.bool true) ρ1 else if z ∈ ms then Res.ok (PyData.bool false) ρ1 else .bad) _ := s1
  by_cases c1 : z ∈ kvs.map (·.1)
  · rw [if_pos c1] at s2
    obtain ⟨p, hp, rfl⟩ := List.mem_map.mp c1
    obtain ⟨t, ht⟩ := h1 p hp
    exact ⟨p.1, _, rfl, rfl, ht, true, rfl, s2 G1 H1 E1 g1⟩
  · rw [if_neg c1] at s2
    by_cases c2 : z ∈ ms
    · rw [if_pos c2] at s2
      exact ⟨z, _, rfl, rfl, h2 z c2, false, rfl, s2 G1 H1 E1 g1⟩
    · rw [if_neg c2] at s2
      exact s2.elim
theorem pd_ixK (hk : KD X.w X.K X.mg x kvs ms) (ha : PE X a (tD (km X) B W F)) (hs : PlainIx a := by exact fun _ _ => rfl) (hg : Gl X x := by rfl) (hd : (x == ("__debug__" : Str)) = false := by decide) :
    PE X (.Subscript (.Name x px) a pos) (tD (km X) B W (ixKF kvs F)) := by
  obtain ⟨d, es, n, hm, D, h1, h2⟩ := hk
  refine (pe_ix ix_kdict (pe_glob (v := .ref d) hg hm rfl hd) ha hs).of ?_
  rintro σ H Q ⟨G, ρ, E, S⟩
  refine ⟨G, ρ, E, (Sat.bind S).imp fun y ρ1 s1 v G1 H1 E1 g1 dp1 => ?_⟩
  cases y <;> first | exact s1.elim | skip
  rename_i z
  cases dp1
  dsimp only at s1
  cases e : kvs.find? fun p => decide (p.1 = z) with
  | none => rw [e] at s1; exact s1.elim
  | some p =>
    rw [e] at s1
    obtain ⟨t, ht⟩ := h1 p (List.mem_of_find?_eq_some e)
    have ez : p.1 = z := by simpa using List.find?_some e
    rw [ez] at ht
    exact ⟨_, z, .str p.2, rfl, rfl, ⟨es, n, _, D.at_, D.lit, ht, ⟨_, rfl⟩⟩, s1 (.str p.2) G1 H1 E1 g1 (.str _)⟩
end
@[simp] theorem inKF_apc {no : Bool} {kvs : List (Str × Str)} {ms : List Str} {F : Rho → Res PyData} {e0 : Ent} {ρ : Rho} : inKF no kvs ms F (e0 :: ρ) = (F (e0 :: ρ)).bind fun d ρ => match d with
  | .str z => if z ∈ kvs.map (·.1) then .ok (.bool (!no)) ρ else if z ∈ ms then .ok (.bool no) ρ else .bad
  | _ => .bad := id rfl
@[simp] theorem ixKF_apc {kvs : List (Str × Str)} {F : Rho → Res PyData} {e0 : Ent} {ρ : Rho} : ixKF kvs F (e0 :: ρ) = (F (e0 :: ρ)).bind fun d ρ => match d with
  | .str z => (match kvs.find? fun p => decide (p.1 = z) with
    | some p => .ok (.str p.2) ρ
    | none => .bad)
  | _ => .bad := id rfl
end DL
namespace DL
open PySem PySem.Spec PyProof.Rows L2 RT
noncomputable def PG.L_added_up_1 : Rho → Out := (putS 1 (varF 2) (callF PG.m_plus (consA (dgetF 1 (varF 2) (cF (.tuple [.int 0, .int 1]))) (consA (varF 3) nilA))))
noncomputable def PG.S_added_up : Rho → Out := (seqS (newDS 1) (seqS (forS (itemsQ (varF 0)) (tupT 2 (consTs (nameT 2) (consTs (nameT 3) nilTs))) PG.L_added_up_1) (retS (appF (app1 bTuple) (consA (lcF [2] (itemsQ (dsortF 1)) (nameT 2) (testF (binF dNe (dixF 1 (varF 2)) (cF (.tuple [.int 0, .int 1])))) (tupF (consA (varF 2) (consA (dixF 1 (varF 2)) nilA)))) nilA)))))
noncomputable def PG.B_added_up (a0 : PyData) : FR := outFR (PG.S_added_up [.d a0, .un, .un, .un])
noncomputable def PG.m_added_up : Fn := fn1 PG.B_added_up
noncomputable def PG.S_row : Rho → Out := (seqS (asgS (callF PG.m_added_up (consA (varF 0) nilA)) (nameT 3)) (seqS (ifS (testF (inKF false [(">=", "<="), (">", "<")] ["<=", "<", "="] (varF 1))) (retS (callF PG.m_normal (consA (tupF (consA (callF PG.m_multiplied (consA (varF 3) (consA (cF (.tuple [.int (-1), .int 1])) nilA))) (consA (ixKF [(">=", "<="), (">", "<")] (varF 1)) (consA (callF PG.m_minus (consA (cF (.tuple [.int 0, .int 1])) (consA (varF 2) nilA))) nilA)))) nilA))) nxS) (retS (callF PG.m_normal (consA (tupF (consA (varF 3) (consA (varF 1) (consA (varF 2) nilA)))) nilA)))))
noncomputable def PG.B_row (a0 a1 a2 : PyData) : FR := outFR (PG.S_row [.d a0, .d a1, .d a2, .un])
noncomputable def PG.m_row : Fn := fn3 PG.B_row
end DL
namespace DL
open PySem PySem.Spec PyProof.Rows L2 RT
theorem low_put {kvs : List Pt} {x : Str} {v : Qn} (h : ∀ p ∈ kvs, Low p.2) (hv : Low v) : ∀ p ∈ putQ kvs x v, Low p.2 := fun p hp => by
  rcases mem_putQ hp with hp | rfl
  · exact h p hp
  · exact hv
theorem low_get {kvs : List Pt} (h : ∀ p ∈ kvs, Low p.2) (x : Str) : Low (getQ kvs x) := by
  rcases getQ_mem (kvs := kvs) (x := x) with e | ⟨p, hp, _, e⟩
  · rw [e]; exact low01
  · rw [e]; exact h p hp
theorem low_sum : ∀ (ps kvs : List Pt), (∀ p ∈ kvs, Low p.2) → (∀ p ∈ ps, 0 < p.2.2) → ∀ q ∈ sumQ ps kvs, Low q.2
  | [], kvs, h, _ => h
  | p :: ps, kvs, h, hp => low_sum ps (addQ kvs p) (low_put h (low_nrm (Int.mul_ne_zero (by have := (low_get h p.1).pos; omega) (by have := hp p List.mem_cons_self; omega)))) fun q hq => hp q (List.mem_cons_of_mem _ hq)
theorem low_parts {ps : List Pt} (hp : ∀ p ∈ ps, 0 < p.2.2) : ∀ q ∈ partsM ps, Low q.2 := by
  intro q hq
  obtain ⟨q1, _⟩ := List.mem_filter.mp hq
  obtain ⟨x, hx, rfl⟩ := List.mem_map.mp q1
  exact low_get (low_sum ps [] (fun _ h => by cases h) hp) x
theorem pg_added_up {ps : List Pt} {n : Nat} (c : List PyData → PyData) (hc : c = PyData.list ∨ c = PyData.tuple) (h : ∀ p ∈ ps, Sz n p.2) (hn : (n + 1) * ps.length + 1 ≤ 3900) (hn1 : n ≤ 3900) (hl : ps.length < 60) : PG.B_added_up (c (ps.map pD)) = .ok (psD (partsM ps)) := by
  have L := sum_loop (e0 := .d (c (ps.map pD))) PG.L_added_up_1 PG.m_plus (fun p q hp hq => pg_plus hp hq) (cF (.tuple [.int 0, .int 1])) (fun e0 ρ => by simp) rfl ps [] (n := n) (k := 0) .un .un (fun _ h => by cases h) h (by omega) hn1 (by simp; omega)
  obtain ⟨e2', e3', L⟩ := L
  have hlen := sumQ_len ps []
  have lw := low_sum ps [] (fun _ h => by cases h) (fun p hp => (h p hp).pos)
  simp only [List.length_nil, Nat.zero_add] at hlen
  have Kp := keys_part (e0 := .d (c (ps.map pD))) (testF (binF dNe (dixF 1 (varF 2)) (cF (.tuple [.int 0, .int 1])))) (sumQ ps []) (e2 := e2') (e3 := frzE e3' |> roE) (fun x hx => by
    have v := valD_dQ2 (sumQ ps []) x hx
    simp only [N] at v
    have l := low_get lw x
    by_cases h0 : (getQ (sumQ ps []) x).1 = 0
    · have := low0 l h0
      simp [v, this]
    · simp [v, h0]) (by omega)
  have k1 := keysS_dQ (sumQ ps [])
  have hl2 : (sumQ ps []).length < 64 := by omega
  simp only [show dQ [] = [] from rfl] at L
  rcases hc with rfl | rfl
  · simp [PG.B_added_up, PG.S_added_up, L, k1, hl2, Kp]
    simp [partsM]
  · simp [PG.B_added_up, PG.S_added_up, L, k1, hl2, Kp]
    simp [partsM]
def negQ (q : Qn) : Qn := qmul q (-1, 1)
theorem rv_negQ {q : Qn} (h : q.2 ≠ 0) : rv (negQ q) = -rv q := by
  unfold negQ
  rw [rv_mul (by decide) h, rvm1]
  grind
theorem low_negQ {q : Qn} (h : q.2 ≠ 0) : Low (negQ q) := low_nrm (Int.mul_ne_zero h (by decide))
def negK (kvs : List Pt) : List Pt := kvs.map fun p => (p.1, negQ p.2)
theorem get_neg : ∀ (kvs : List Pt) (x : Str), getQ (negK kvs) x = negQ (getQ kvs x)
  | [], x => by
    have : negQ (0, 1) = (0, 1) := by decide
    simp [getQ, negK, this]
  | p :: kvs, x => by
    have z := get_neg kvs x
    by_cases h : p.1 = x
    · simp [getQ, negK, h]
    · simp [getQ, negK, h] at z ⊢
      exact z
theorem put_neg (kvs : List Pt) (x : Str) (v : Qn) : putQ (negK kvs) x (negQ v) = negK (putQ kvs x v) := by
  unfold putQ
  have e : ((negK kvs).any fun kv => decide (kv.1 = x)) = (kvs.any fun kv => decide (kv.1 = x)) := by simp [negK, List.any_map, Function.comp_def]
  rw [e]
  split
  · simp only [negK, List.map_map]
    apply List.map_congr_left
    intro p _
    by_cases h : p.1 = x <;> simp [h]
  · simp [negK]
theorem sum_neg : ∀ (ps kvs : List Pt), (∀ p ∈ kvs, Low p.2) → (∀ p ∈ ps, 0 < p.2.2) → sumQ (flipM ps) (negK kvs) = negK (sumQ ps kvs)
  | [], kvs, _, _ => rfl
  | p :: ps, kvs, h, hp => by
    have p0 := hp p List.mem_cons_self
    have g := low_get h p.1
    have gp := g.pos
    have e : addQ (negK kvs) (p.1, qsub (0, 1) p.2) = negK (addQ kvs p) := by
      unfold addQ
      rw [← put_neg, get_neg]
      congr 1
      have s2 : (qsub (0, 1) p.2).2 ≠ 0 := by have : 0 < (qsub (0, 1) p.2).2 := nrm_pos (by show 1 * p.2.2 ≠ 0; omega); omega
      have n2 : (negQ (getQ kvs p.1)).2 ≠ 0 := by have := (low_negQ (q := getQ kvs p.1) (by omega)).pos; omega
      have a2 : (qadd (getQ kvs p.1) p.2).2 ≠ 0 := by have : 0 < (qadd (getQ kvs p.1) p.2).2 := nrm_pos (Int.mul_ne_zero (by omega) (by omega)); omega
      refine rv_ext (low_nrm (Int.mul_ne_zero n2 s2)) (low_negQ a2) ?_
      rw [rv_add s2 n2, rv_negQ (by omega), rv_negQ a2, rv_add (by omega) (by omega), rv_sub (by omega) (by decide), rv01]
      grind
    show sumQ (flipM ps) (addQ (negK kvs) (p.1, qsub (0, 1) p.2)) = negK (sumQ ps (addQ kvs p))
    rw [e]
    exact sum_neg ps (addQ kvs p) (low_put h (low_nrm (Int.mul_ne_zero (by omega) (by omega)))) fun q hq => hp q (List.mem_cons_of_mem _ hq)
theorem parts_flip {ps : List Pt} (hp : ∀ p ∈ ps, 0 < p.2.2) : partsM (flipM ps) = (partsM ps).map fun p => (p.1, qmul p.2 (-1, 1)) := by
  have e := sum_neg ps [] (fun _ h => by cases h) hp
  have e0 : negK [] = [] := rfl
  rw [e0] at e
  have lw := low_sum ps [] (fun _ h => by cases h) hp
  unfold partsM
  rw [e]
  generalize sumQ ps [] = kvs at lw
  have ek : (negK kvs).map (·.1) = kvs.map (·.1) := by simp [negK, Function.comp_def]
  rw [ek]
  generalize sortS (kvs.map (·.1)) = ks
  induction ks with
  | nil => rfl
  | cons x ks ih =>
    have l := low_get lw x
    have lp := l.pos
    have nz : (negQ (getQ kvs x)).1 = 0 ↔ (getQ kvs x).1 = 0 := by
      rw [rv_nz (low_negQ (by omega)).pos, rv_nz l.pos, rv_negQ (by omega)]
      constructor <;> intro h <;> grind
    rw [List.map_cons, List.map_cons, List.filter_cons, List.filter_cons, get_neg]
    by_cases h0 : (getQ kvs x).1 = 0
    · have h1 := nz.mpr h0
      rw [if_neg (by simp [h1]), if_neg (by simp [h0])]
      exact ih
    · have h1 : ¬ (negQ (getQ kvs x)).1 = 0 := fun z => h0 (nz.mp z)
      rw [if_pos (by simp [h1]), if_pos (by simp [h0]), List.map_cons, ih]
      rfl
theorem Sz.neg0 {n : Nat} {q : Qn} (h : Sz n q) : Sz n (qsub (0, 1) q) := by
  have := h.pos
  refine .nrm (by simp; omega) ?_ ?_
  · simpa using h.b1.neg
  · simpa using h.b2
theorem lowR_parts {ps : List Pt} {sg : Str} {b : Qn} (hp : ∀ p ∈ ps, 0 < p.2.2) (hb : Low b) : LowR (partsM ps, sg, b) := ⟨fun p h => ⟨low_parts hp p h, partsM_nz p h⟩, hb⟩
theorem posR_parts {ps : List Pt} {sg : Str} {b : Qn} (hp : ∀ p ∈ ps, 0 < p.2.2) (hb : Low b) : PosR (partsM ps, sg, b) := ⟨fun p h => ⟨(low_parts hp p h).pos, partsM_nz p h⟩, hb.pos⟩
section
variable {ps : List Pt} {n : Nat} {b : Qn} {sg : Str} (h : ∀ p ∈ ps, Sz n p.2) (hb : Sz n b) (lb : Low b) (hl : ps.length ≤ 18)
include h hb lb hl
theorem pg_normal_parts (hs : PySem.PyData.strOk sg = true) (hn : ((n + 1) * ps.length + 1 + n) * (ps.length + 2) + 4 ≤ 3900) : PG.B_normal (rD (partsM ps, sg, b)) = .ok (rD (rowM ps sg b)) := by
  have pl := partsM_len ps
  refine pg_normal (szR_parts h hb) (lowR_parts (fun p hp => (h p hp).pos) lb) hs (fun p hp => partsM_nz p hp) (by show (partsM ps).length ≤ _; omega) ?_
  show ((n + 1) * ps.length + 1 + n) * ((partsM ps).length + 2) + 4 ≤ 3900
  have : ((n + 1) * ps.length + 1 + n) * ((partsM ps).length + 2) ≤ ((n + 1) * ps.length + 1 + n) * (ps.length + 2) := Nat.mul_le_mul_left _ (by omega)
  omega
theorem pg_row0 (hs : Sgn sg) (hn : ((n + 1) * ps.length + 1 + n) * (ps.length + 2) + 4 ≤ 3900) : PG.B_row (.list (ps.map pD)) (.str sg) (N b) = .ok (rD (rowM ps sg b)) := by
  have hn1 : (n + 1) * ps.length + 1 + n ≤ 3900 := by
    have : ((n + 1) * ps.length + 1 + n) * 1 ≤ ((n + 1) * ps.length + 1 + n) * (ps.length + 2) := Nat.mul_le_mul_left _ (by omega)
    omega
  have e1 : PG.m_added_up [.list (ps.map pD)] = .ok (psD (partsM ps)) := pg_added_up PyData.list (.inl rfl) h (by omega) (by omega) (by omega)
  have e2 : PG.m_normal [.tuple [psD (partsM ps), .str sg, .tuple [.int b.1, .int b.2]]] = .ok (rD (rowM ps sg b)) := pg_normal_parts h hb lb hl hs.ok hn
  have i1 : sg ∉ ([">=", ">"] : List Str) := by rcases hs with rfl | rfl | rfl <;> decide
  have i2 : sg ∈ (["<=", "<", "="] : List Str) := by rcases hs with rfl | rfl | rfl <;> decide
  simp [PG.B_row, PG.S_row, e1]
  simp only [List.mem_cons, List.not_mem_nil, or_false] at i1 i2
  simp [i1, i2, e2]
theorem pg_row1 {sg2 : Str} (hs : (sg = ">=" ∧ sg2 = "<=") ∨ (sg = ">" ∧ sg2 = "<")) (hn : ((n + 1) * ps.length + 1 + n) * (ps.length + 2) + 4 ≤ 3900) : PG.B_row (.list (ps.map pD)) (.str sg) (N b) = .ok (rD (rowM (flipM ps) sg2 (qsub (0, 1) b))) := by
  have hn1 : (n + 1) * ps.length + 1 + n ≤ 3900 := by
    have : ((n + 1) * ps.length + 1 + n) * 1 ≤ ((n + 1) * ps.length + 1 + n) * (ps.length + 2) := Nat.mul_le_mul_left _ (by omega)
    omega
  have hf : ∀ p ∈ flipM ps, Sz n p.2 := fun p hp => by
    obtain ⟨q, hq, rfl⟩ := List.mem_map.mp hp
    exact (h q hq).neg0
  have fl : (flipM ps).length = ps.length := by simp [flipM]
  have pl := partsM_len ps
  have s2 : Sgn sg2 := by rcases hs with ⟨_, rfl⟩ | ⟨_, rfl⟩ <;> simp [Sgn]
  have e1 : PG.m_added_up [.list (ps.map pD)] = .ok (psD (partsM ps)) := pg_added_up PyData.list (.inl rfl) h (by omega) (by omega) (by omega)
  have e2 : PG.m_multiplied [psD (partsM ps), .tuple [.int (-1), .int 1]] = .ok (psD (partsM (flipM ps))) := by
    rw [parts_flip fun p hp => (h p hp).pos]
    exact pg_multiplied (fun p hp => (Sz.parts h p hp).mono (by omega)) (szm1.mono (by decide)) (by omega)
  have e3 : PG.m_minus [.tuple [.int 0, .int 1], .tuple [.int b.1, .int b.2]] = .ok (N (qsub (0, 1) b)) := pg_minus (sz01.mono (by decide)) (hb.mono (by omega))
  have e4 : PG.m_normal [.tuple [psD (partsM (flipM ps)), .str sg2, .tuple [.int (qsub (0, 1) b).1, .int (qsub (0, 1) b).2]]] = .ok (rD (rowM (flipM ps) sg2 (qsub (0, 1) b))) :=
    pg_normal_parts hf hb.neg0 (low_nrm (by have := lb.pos; simp; omega)) (by omega) s2.ok (by rw [fl]; exact hn)
  rcases hs with ⟨rfl, rfl⟩ | ⟨rfl, rfl⟩
  · have d1 : (">" : Str) = ">=" ↔ False := by decide
    simp [PG.B_row, PG.S_row, e1, e2, e3, e4]
  · have d1 : (">=" : Str) = ">" ↔ False := by decide
    simp [PG.B_row, PG.S_row, e1, e2, e3, e4, d1]
end
theorem norm_norm {r0 : Rw} (h : PosR r0) : normM (normM r0) = normM r0 := by
  obtain ⟨f1, f2⟩ := fac_low h
  have L := LowR.scale h f1 f2
  have e : scaleM (normM r0) (1, 1) = normM r0 := by
    have one : ∀ q : Qn, Low q → qmul q (1, 1) = q := fun q l => by
      have := l.pos
      refine rv_ext (low_nrm (Int.mul_ne_zero (by omega) (by decide))) l ?_
      rw [rv_mul (by decide) (by omega), rv11]
      grind
    have Lb := one _ L.bd
    show ((normM r0).1.map fun p => (p.1, qmul p.2 (1, 1)), (normM r0).2.1, qmul (normM r0).2.2 (1, 1)) = normM r0
    have : ((normM r0).1.map fun p => (p.1, qmul p.2 (1, 1))) = (normM r0).1 := by
      conv => rhs; rw [← List.map_id (normM r0).1]
      apply List.map_congr_left
      intro p hp
      rw [one _ (L.ps p hp).1]
      rfl
    rw [this, show qmul (normM r0).2.2 (1, 1) = (normM r0).2.2 from Lb]
  have := norm_inv h (c := (1, 1)) (by decide) (by decide) (fun _ => by decide)
  rw [e] at this
  exact this
end DL
namespace DL
open PySem PySem.Spec PyProof.Rows L2 RT
theorem ext_tup (l : Addr) (items : Array Value) (n : Nat) (b : Addr) (items2 : Array Value) (n2 : Nat) (sl : Array (Option Value))
    (hs0 : ¬(!items.isEmpty && Builtin.List.listTooLong (items.size + items2.size)) = true) (hs1 : items.size ≤ sizeLine)
    (hs2 : items.size + items2.size ≤ sizeLine + 1) :
    Meets (Builtin.«list.extend» ⟨[.ref l, .ref b], []⟩) fun _ R s =>
      s.heap.get? l = some ⟨.type "list", none, .seq items n, #[]⟩ ∧ s.heap.get? b = some ⟨.type "tuple", none, .seq items2 n2, sl⟩ ∧
      R (.ok (.ret Value.none)) { s with heap := s.heap.update l (Obj.mapSeq fun x => x ++ items2), toks := s.toks } :=
  .of_wp fun prog w A R s h => by
    obtain ⟨hp, g, d, tk, os⟩ := s
    obtain ⟨hl, hb, h⟩ := h
    have f1 := AutoSeq1.idx_int
    have f2 := AutoSeq1.sub_tuple_tuple
    have f3 := AutoSeq1.sub_list_list
    have f4 := AutoSeq1.sub_tuple_list
    have f5 := AutoSeq1.sub_list_tuple
    have hz' : (items ++ items2).size ≤ sizeLine + 1 := by
      rw [Array.size_append]
      exact hs2
    wp_walk using (wpAny_updateSeq hl rfl (hz := hs1) (_hz' := hz')), AutoSeq1.wpAny_loadPart' hl, AutoSeq1.wpAny_loadPart' hb
    exact ⟨_, rfl, h⟩
section
variable {X : L2.Cx} {B : Bx} {W : WX} {pos : Pos} {e : Expr} {F : Rho → Res PyData}
def rExtT (K : PySem.W.Frag) : V → List V → Hp → VK → Prop := fun x vs H Q => ∃ l b xs zs, x = .ref l ∧ vs = [.ref b] ∧ H l = some (.lst xs) ∧ SqN K H b zs ∧ xs.length + zs.length ≤ sizeLine ∧ Q .non (upd H l (.lst (xs ++ zs)))
theorem mt_extT : MtM X "list.extend" (rExtT X.K) := by
  intro pins s σ H x vs v us Q I rx rv h
  obtain ⟨l, b, xs, zs, rfl, rfl, hH, hB, hz, q⟩ := h
  cases rx
  obtain ⟨u, rfl, ru⟩ := rv.one
  cases ru
  obtain ⟨z, its, n, r, hl, e⟩ := I.lstM hH
  obtain ⟨its2, r2, ⟨⟨oc, od, dt, sl⟩, n2, hl2, h1, h2, h3⟩, z2⟩ := sqN_plain I hB
  simp only at h1 h2 h3
  subst h1 h2 h3
  have e2 : its2.length = zs.length := (r2.length).symm
  have hsz : its.toArray.size + its2.toArray.size ≤ sizeLine := by
    rw [List.size_toArray, List.size_toArray]
    omega
  have hlong : ¬ (!its.toArray.isEmpty && Builtin.List.listTooLong (its.toArray.size + its2.toArray.size)) = true := by
    rw [notLongL hsz, Bool.and_false]
    exact Bool.false_ne_true
  refine call_meets F.slot_list_extend ⟨_, e, rfl⟩ F.entry_list_extend (F.args_list_extend_2 _ _) (ext_tup l its.toArray n b its2.toArray n2 sl hlong (by rw [List.size_toArray]; omega) (by omega)) ⟨e, hl2, ?_⟩
  refine ⟨.non, _, I.lset (its' := its ++ its2) hH e (by simp) (r.append r2) ?_, rfl, q⟩
  rw [List.length_append]
  omega
def extS (i : Nat) (F : Rho → Res PyData) : Rho → Out := fun ρ => if isOwn ρ[i]? = true then (F ρ).out fun d ρ => match ρ[i]?, d with
  | some (.own xs), .tuple ys => if xs.length + ys.length ≤ sizeLine then .nx (ρ.set i (.own (xs ++ ys))) else .bad
  | _, _ => .bad
  else .bad
def par3S (i j l : Nat) (d : PyData) : Rho → Out := fun ρ => if i < ρ.length ∧ j < ρ.length ∧ l < ρ.length then .nx (((ρ.set i (.own [])).set j (.own [])).set l (.d d)) else .bad
end
end DL
namespace DL
open PySem PySem.Spec PyProof.Rows L2 RT
noncomputable def PG.S__sign_of_sum : Rho → Out := (seqS (ifS (testF (binF dIn3 (cF (.str "<")) (varF 0))) (retS (cF (.str "<"))) nxS) (seqS (ifS (testF (binF dIn3 (cF (.str "<=")) (varF 0))) (retS (cF (.str "<="))) nxS) (retS (cF (.str "=")))))
noncomputable def PG.B__sign_of_sum (a0 : PyData) : FR := outFR (PG.S__sign_of_sum [.d a0])
noncomputable def PG.m__sign_of_sum : Fn := fn1 PG.B__sign_of_sum
noncomputable def PG.L_sum_of_1 : Rho → Out := (seqS (asgS (binF dIx (varF 0) (varF 5)) (tupT 3 (consTs (nameT 7) (consTs (nameT 8) (consTs (nameT 9) nilTs))))) (seqS (extS 2 (callF PG.m_multiplied (consA (varF 7) (consA (varF 6) nilA)))) (seqS (appendS 3 (varF 8)) (asgS (callF PG.m_plus (consA (varF 4) (consA (callF PG.m_times (consA (varF 9) (consA (varF 6) nilA))) nilA))) (nameT 4)))))
noncomputable def PG.S_sum_of : Rho → Out := (seqS (par3S 2 3 4 (.tuple [.int 0, .int 1])) (seqS (forS (itemsQ (varF 1)) (tupT 2 (consTs (nameT 5) (consTs (nameT 6) nilTs))) PG.L_sum_of_1) (retS (tupF (consA (callF PG.m_added_up (consA (varF 2) nilA)) (consA (callF PG.m__sign_of_sum (consA (varF 3) nilA)) (consA (varF 4) nilA)))))))
noncomputable def PG.B_sum_of (a0 a1 : PyData) : FR := outFR (PG.S_sum_of [.d a0, .d a1, .un, .un, .un, .un, .un, .un, .un, .un])
noncomputable def PG.m_sum_of : Fn := fn2 PG.B_sum_of
noncomputable def LH.L_total_1 : Rho → Out := (seqS (asgS (callF LH.m_scaled (consA (binF dIx (varF 0) (varF 5)) (consA (varF 6) nilA))) (nameT 7)) (seqS (asgS (binF dAdd (varF 2) (appF (app1 bList) (consA (binF dIx (varF 7) (cF (.int 0))) nilA))) (nameT 2)) (seqS (asgS (callF LH.m_add (consA (varF 3) (consA (binF dIx (varF 7) (cF (.int 2))) nilA))) (nameT 3)) (ifS (orT (testF (binF dEq (binF dIx (varF 7) (cF (.int 1))) (cF (.str "<")))) (testF (binF dEq (varF 4) (cF (.str "<"))))) (asgS (cF (.str "<")) (nameT 4)) (ifS (testF (binF dEq (binF dIx (varF 7) (cF (.int 1))) (cF (.str "<=")))) (asgS (cF (.str "<=")) (nameT 4)) nxS)))))
noncomputable def LH.S_total : Rho → Out := (seqS (ownS nilA 2) (seqS (asgS (tupF (consA (cF (.int 0)) (consA (cF (.int 1)) nilA))) (nameT 3)) (seqS (asgS (cF (.str "=")) (nameT 4)) (seqS (forS (itemsQ (varF 1)) (tupT 2 (consTs (nameT 5) (consTs (nameT 6) nilTs))) LH.L_total_1) (retS (tupF (consA (callF LH.m_parts (consA (varF 2) nilA)) (consA (varF 4) (consA (varF 3) nilA)))))))))
noncomputable def LH.B_total (a0 a1 : PyData) : FR := outFR (LH.S_total [.d a0, .d a1, .un, .un, .un, .un, .un, .un])
noncomputable def LH.m_total : Fn := fn2 LH.B_total
end DL
namespace DL
open PySem PySem.Spec PyProof.Rows L2 RT
def cnt (x : Str) (ps : List Pt) : Nat := (ps.map (·.1)).count x
theorem len_of_nd : ∀ (L xs : List Str), xs.Nodup → (∀ x ∈ xs, x ∈ L) → xs.length ≤ L.length
  | [], xs, _, h => by
    cases xs with
    | nil => simp
    | cons x xs => exact absurd (h x List.mem_cons_self) (by simp)
  | a :: L, xs, hn, h => by
    by_cases ha : a ∈ xs
    · have z := len_of_nd L (xs.erase a) (hn.erase a) (fun x hx => by
        have h1 := (hn.mem_erase_iff).mp hx
        rcases List.mem_cons.mp (h x h1.2) with e | e
        · exact absurd e h1.1
        · exact e)
      rw [List.length_erase_of_mem ha] at z
      simp only [List.length_cons]
      omega
    · have z := len_of_nd L xs hn (fun x hx => by
        rcases List.mem_cons.mp (h x hx) with e | e
        · exact absurd (e ▸ hx) ha
        · exact e)
      simp only [List.length_cons]
      omega
end DL
namespace DL
open PySem PySem.Spec PyProof.Rows L2 RT
def rwAt (rows : List Rw) (i : Int) : Rw := (rows[i.toNat]?).getD ([], "=", (0, 1))
def accP (rows : List Rw) (pa : List Pa) : List Pt := pa.flatMap fun p => (scaleM (rwAt rows p.1) p.2).1
def accT (rows : List Rw) (pa : List Pa) (t : Qn) : Qn := pa.foldl (fun t p => qadd t (qmul (rwAt rows p.1).2.2 p.2)) t
def sigs (rows : List Rw) (pa : List Pa) : List Str := pa.map fun p => (rwAt rows p.1).2.1
def sgnOf (ss : List Str) : Str := if ("<" : Str) ∈ ss then "<" else if ("<=" : Str) ∈ ss then "<=" else "="
structure RowsOk (rows : List Rw) : Prop where
  good : ∀ r ∈ rows, Good r
  len : rows.length ≤ 8
structure PaIn (rows : List Rw) (pa : List Pa) : Prop where
  each : ∀ p ∈ pa, (0 ≤ p.1 ∧ p.1 < rows.length) ∧ Sz 5 p.2
section
variable {rows : List Rw} (R : RowsOk rows) {e1 : Ent}
include R
omit R in
end
end DL
namespace DL
open PySem PySem.Spec PyProof.Rows L2 RT
theorem strs_shaped {ss : List Str} (h : ∀ x ∈ ss, PySem.PyData.strOk x = true) : SeqAt.shaped (.list (ss.map PyData.str)) = true := by
  have h1 : PyData.canLayAll0 (ss.map PyData.str) = true := canAll fun x hx => h x hx
  have h2 : PyData.depthAll (ss.map PyData.str) ≤ 0 := depAll fun x _ => Nat.le_refl _
  simp only [SeqAt.shaped, PyData.canLay0, PyData.depth, h1, Bool.true_and]
  exact decide_eq_true (by omega)
theorem in_strs {ss : List Str} {a : Str} (ha : PySem.PyData.strOk a = true) (h : ∀ x ∈ ss, PySem.PyData.strOk x = true) : dIn3 (.str a) (.list (ss.map PyData.str)) = some (.bool (decide (a ∈ ss))) := by
  have e : ((ss.map PyData.str).any fun z => PyData.eqv z (.str a)) = decide (a ∈ ss) := by
    rw [Bool.eq_iff_iff]
    simp only [List.any_eq_true, List.mem_map, decide_eq_true_eq]
    constructor
    · rintro ⟨_, ⟨x, hx, rfl⟩, e⟩
      have : x = a := by simpa [PyData.eqv] using e
      rw [← this]; exact hx
    · intro hx
      exact ⟨_, ⟨a, hx, rfl⟩, by simp [PyData.eqv]⟩
  show (if SeqAt.shaped (.str a) = true ∧ SeqAt.shaped (.list (ss.map PyData.str)) = true then some (PyData.bool ((ss.map PyData.str).any fun z => PyData.eqv z (.str a))) else none) = _
  rw [if_pos ⟨str_shaped ha, strs_shaped h⟩, e]
def totM (rows : List Rw) (pa : List Pa) : Rw := (partsM (accP rows pa), sgnOf (sigs rows pa), accT rows pa (0, 1))
theorem sgnOf_sgn (ss : List Str) : Sgn (sgnOf ss) := by
  unfold sgnOf Sgn
  split
  · simp
  · split <;> simp
section
variable {rows : List Rw} (R : RowsOk rows)
include R
section
variable {pa : List Pa} (h : PaIn rows pa) (hl : pa.length ≤ 6)
include h hl
end
end
end DL
namespace DL
open PySem PySem.Spec PyProof.Rows L2 RT
section
variable {X : L2.Cx} {B : Bx} {W : WX} {st : Stmt} {rest : List Stmt} {S1 S2 : Rho → Out} {pos px : Pos}
end
section
variable {P : Program} {w : World} {K : PySem.W.Frag} {mg : Str → Option Value} {base : Heap}
end
section
variable {X : L2.Cx} {B : Bx} {W : WX} {pos : Pos} {e : Expr} {es : List Expr} {A : Rho → Res (List PyData)}
end
end DL
namespace DL
open PySem PySem.Spec PyProof.Rows L2 RT
def boolsD : List PyData → Option (List Bool)
  | [] => some []
  | .bool b :: r => (boolsD r).map (b :: ·)
  | _ => none
def bAll : PyData → Option PyData
  | .list xs => (boolsD xs).map fun bs => .bool (bs.all id)
  | _ => none
def bAny : PyData → Option PyData
  | .list xs => (boolsD xs).map fun bs => .bool (bs.any id)
  | _ => none
theorem bools_dp {K : PySem.W.Frag} {G : Hp} : ∀ {vs : List V} {xs : List PyData} {bs : List Bool}, DqAll K G vs xs → boolsD xs = some bs → vs = bs.map V.bl
  | _, [], bs, h, e => by cases h; cases e; rfl
  | _, x :: xs, bs, h, e => by
    cases h with
    | cons h1 h2 =>
      cases x <;> first | (cases e; done) | skip
      rename_i b
      unfold boolsD at e
      cases q : boolsD xs with
      | none => rw [q] at e; cases e
      | some cs =>
        rw [q] at e
        cases e
        cases h1
        rw [bools_dp h2 q]
        rfl
section
variable {X : L2.Cx}
theorem rd_all : RDs X.K (rAll X.K) (app1 bAll) := by
  refine rds1 fun G H x d z Q gh h1 hz q => ?_
  cases d <;> first | (cases hz; done) | skip
  rename_i xs
  have hz' : (boolsD xs).map (fun bs => PyData.bool (bs.all id)) = some z := hz
  cases e : boolsD xs with
  | none => rw [e] at hz'; cases hz'
  | some bs =>
    rw [e] at hz'
    cases hz'
    cases h1 with
    | lst a1 a2 =>
      have := bools_dp a2 e
      subst this
      exact ⟨_, bs, rfl, gh.seq a1, q _ _ _ (Ext.refl gh) (.bl _)⟩
theorem rd_any : RDs X.K (rAny X.K) (app1 bAny) := by
  refine rds1 fun G H x d z Q gh h1 hz q => ?_
  cases d <;> first | (cases hz; done) | skip
  rename_i xs
  have hz' : (boolsD xs).map (fun bs => PyData.bool (bs.any id)) = some z := hz
  cases e : boolsD xs with
  | none => rw [e] at hz'; cases hz'
  | some bs =>
    rw [e] at hz'
    cases hz'
    cases h1 with
    | lst a1 a2 =>
      have := bools_dp a2 e
      subst this
      exact ⟨_, bs, rfl, gh.seq a1, q _ _ _ (Ext.refl gh) (.bl _)⟩
end
end DL
namespace DL
open PySem PySem.Spec PyProof.Rows L2 RT
structure WalkP (K : PySem.W.Frag) (ds : List (PyData × PyData)) (G : Hp) (J : It) : Prop where
  go : ∀ (i : Nat) (d : PyData × PyData) (G2 H2 : Hp), Same G G2 → Same G2 H2 → ds[i]? = some d → J.go i H2 ∧ ∀ v H3, J.yld i H2 v H3 → ∃ T u1 u2 G3, v = .ref T ∧ H3 T = some (.tup [u1, u2]) ∧ Ext G2 H2 G3 H3 ∧ Dq K G3 u1 d.1 ∧ Dq K G3 u2 d.2
  stop : ∀ (i : Nat) (G2 H2 : Hp), Same G G2 → Same G2 H2 → i = ds.length → J.stop i H2
def iP (m : KM) (B : Bx) (W : WX) (F : Rho → Res (List (PyData × PyData))) : TI := fun σ H R => ∃ G ρ, DEnv m B G H σ ρ ∧ Sat m B W G σ (F ρ) fun ds ρ' => ∀ J G' H', DEnv m B G' H' σ ρ' → Same G G' → WalkP m.K ds G' J → R J H'
def gP (m : KM) (B : Bx) (U : Tgs) : TG := fun v σ H Q => ∃ G ρ d1 d2 ρ' T u1 u2, DEnv m B G H σ ρ ∧ v = .ref T ∧ H T = some (.tup [u1, u2]) ∧ Dq m.K G u1 d1 ∧ Dq m.K G u2 d2 ∧ U [d1, d2] ρ = some ρ' ∧ ∀ σ', DEnv m B G H σ' ρ' → Q σ' H
def loopP (U : Tgs) (S : Rho → Out) : List (PyData × PyData) → Rho → Out
  | [], ρ => .nx ρ
  | d :: ds, ρ => match U [d.1, d.2] ρ with
    | none => .bad
    | some ρ1 => match S ρ1 with
      | .nx ρ2 => loopP U S ds ρ2
      | .ct ρ2 => loopP U S ds ρ2
      | .bk ρ2 => .nx ρ2
      | o => o
def forP (F : Rho → Res (List (PyData × PyData))) (U : Tgs) (S : Rho → Out) : Rho → Out := fun ρ => (F ρ).out fun ds ρ => loopP U S ds ρ
section
variable {X : L2.Cx} {B : Bx} {W : WX} {pos : Pos} {S1 : Rho → Out}
def enumD (xs : List PyData) : List (PyData × PyData) := (List.range xs.length).zipWith (fun i x => (.int (i : Nat), x)) xs
def enumF (F : Rho → Res PyData) : Rho → Res (List (PyData × PyData)) := fun ρ => (F ρ).bind fun d ρ => match d with
  | .list xs => .ok (enumD xs) ρ
  | _ => .bad
end
end DL
namespace DL
open PySem PySem.Spec PyProof.Rows L2 RT
section
variable {X : L2.Cx} {B : Bx} {W : WX} {pos : Pos}
end
end DL
namespace DL
open PySem PySem.Spec PyProof.Rows L2 RT
section
variable {X : L2.Cx} {B : Bx} {W : WX} {pos : Pos} {e : Expr} {F : Rho → Res PyData}
end
end DL
namespace DL
open PySem PySem.Spec PyProof.Rows L2 RT
open PySem.Froz (SD sObj addTx tailTx TxOk)
def txOf : Value → Str
  | .str x _ => x
  | _ => ""
def txs (D : SD) : List Str := D.1.toList.map fun e => txOf e.2
section
variable {ep : Nat} {es1 : Array (Int × Value)} {t2 : SetTable} {wd : Bool}
theorem tail_perm : (tailTx ep es1 t2 wd).1.toList.Perm es1.toList := by
  unfold tailTx
  split
  · exact relayAll_perm t2 es1 _
  · exact .refl _
theorem tail_ris (r : Ris t2.place.toList) : Ris (tailTx ep es1 t2 wd).2.2.place.toList := by
  unfold tailTx
  split
  · exact relayAll_ris t2 es1 _
  · exact r
theorem tail_led : (tailTx ep es1 t2 wd).2.2.led = t2.led := by
  unfold tailTx
  split
  · exact relayAll_led t2 es1 _
  · rfl
end
theorem addTx_perm (h : Int) (v : Value) (D : SD) : (addTx h v D).1.toList.Perm ((h, v) :: D.1.toList) := by
  have p1 := layNew_perm D.2.2 D.1 h v
  rw [Array.toList_push] at p1
  exact tail_perm.trans (p1.trans (List.perm_append_singleton _ _))
theorem addTx_ris (h : Int) (v : Value) (D : SD) (r : Ris D.2.2.place.toList) : Ris (addTx h v D).2.2.place.toList := by
  refine tail_ris ?_
  have p1 := layNew_ris D.2.2 D.1 h v r
  split <;> exact p1
theorem addTx_led (h : Int) (v : Value) (D : SD) : (addTx h v D).2.2.led = D.2.2.led := by
  refine tail_led.trans ?_
  have p1 := layNew_led D.2.2 D.1 h v
  split <;> exact p1
structure Pay (P : Program) (w : World) (D : SD) (l : List Str) : Prop where
  ok : TxOk P w D l
  pm : (txs D).Perm l
  ris : Ris D.2.2.place.toList
  led : w.params.followText "set-order" = true ∨ D.2.2.led = true
def insT (k : Str) (l : List Str) : List Str := if k ∈ l then l else k :: l
theorem insT_len (k : Str) (l : List Str) : (insT k l).length ≤ l.length + 1 := by unfold insT; split <;> simp
theorem insT_nd {k : Str} {l : List Str} (h : l.Nodup) : (insT k l).Nodup := by
  unfold insT
  split
  · exact h
  · rename_i n
    exact List.nodup_cons.mpr ⟨n, h⟩
section
variable {P : Program} {w : World} {A : Around} {E : Value → Shared → Prop} {s : Shared} {a : Addr} {D : SD} {l : List Str} {k : Str} {u : Tok}
theorem Pay.add (y : Pay P w D l) : Pay P w (addTx (hashStr w k) (.str k u) D) (k :: l) where
  ok := PySem.Froz.add_ok u y.ok
  pm := by
    have q := (addTx_perm (hashStr w k) (.str k u) D).map fun e : Int × Value => txOf e.2
    rw [List.map_cons] at q
    exact q.trans (y.pm.cons _)
  ris := addTx_ris _ _ _ y.ris
  led := y.led.imp id fun z => by rw [addTx_led]; exact z
theorem pay_new : Pay P w (#[], 0, .fresh 0 0 (!w.params.followText "set-order")) [] where
  ok := PySem.Froz.TxOk.nil (by rfl)
  pm := .nil
  ris := List.Pairwise.nil
  led := by
    show _ ∨ (!w.params.followText "set-order") = true
    cases w.params.followText "set-order" <;> simp
theorem old_txt {Q : Bool → Shared → Prop} (ho : s.heap.get? a = some (sObj "set" D)) (y : Pay P w D l) (hk : k ∈ l) (few : l.length < scanBound) (hQ : Q false s) : wpAny (model P w) A (setAddHashed a (.str k u) (hashStr w k)) Q E s := by
  obtain ⟨es, ep, t⟩ := D
  have dat : (sObj "set" (es, ep, t)).data = .set es ep t := rfl
  have fit : t.fits es.size = true := y.ok.fit
  have els : ElemsOf (strKind P w) es.toList := y.ok.el
  have siz : es.size = l.length := y.ok.sz
  have isk : (strKind P w).is k (.str k u) = true := PySem.Froz.is_str k u
  unfold setAddHashed setAddHashedIn
  refine wpAny_holding (wpAny_bind (wpAny_setState_of ho dat fit ?_))
  dsimp only
  rw [byScan_of rfl (by rw [siz]; exact few) els]
  simp only [↓reduceIte]
  unfold setAddByScan
  refine wpAny_bind (wpAny_bind (wpAny_rule (wpAny_bind (wpAny_setScan_of (knd := strKind P w) (k := k) isk ho dat fit els ?_))))
  cases hr : List.findIdx? (fun e => (strKind P w).is k e.2) es.toList with
  | none =>
    obtain ⟨e, he, z⟩ := (y.ok.mem k).mp hk
    have c := List.findIdx?_eq_none_iff.mp hr e he
    rw [z] at c
    cases c
  | some j => exact wpAny_pure (wpAny_pure hQ)
theorem txt_add {Q : Value → Shared → Prop} (ho : s.heap.get? a = some (sObj "set" D)) (y : Pay P w D l) (room : l.length + 1 < scanBound)
    (hQ : ∀ h' D', Heap.SameBut a s.heap h' → h'.get? a = some (sObj "set" D') → Pay P w D' (insT k l) → Q .none { s with heap := h', toks := s.toks + 1 }) :
    wpAny (model P w) A (call (.builtin "set.add") [.ref a, .str k u]) Q E s := by
  refine wpAny_call_entry F.slot_set_add ⟨_, ho, rfl⟩ F.entry_set_add ?_ (F.args_set_add_2 _ _)
  unfold Builtin.«set.add» Builtin.Frozenset.oneOther
  simp only [List.isEmpty_nil, bind_assoc]
  unfold Builtin.Frozenset.addrOf setAdd
  refine wpAny_bind (wpAny_pure (wpAny_bind (wpAny_pure (wpAny_bind (wpAny_holding (wpAny_bind (wpAny_pyHash_str ?_)))))))
  by_cases hk : k ∈ l
  · refine old_txt (s := { s with toks := s.toks + 1 }) ho y hk (by omega) ?_
    refine wpAny_pure ⟨_, rfl, hQ s.heap D (Heap.SameBut.refl a s.heap) ho ?_⟩
    unfold insT
    rw [if_pos hk]
    exact y
  · refine PySem.Froz.add_x (s := { s with toks := s.toks + 1 }) ho y.ok hk room ?_
    refine wpAny_pure ⟨_, rfl, hQ _ _ (Heap.SameBut.update s.heap a _) (PySem.Froz.get_upd _ ho rfl) ?_⟩
    unfold insT
    rw [if_neg hk]
    exact y.add
theorem strs_tx : ∀ (vs : List Value), (∀ v ∈ vs, ∃ x t, v = Value.str x t) → StrsAre vs (vs.map txOf)
  | [], _ => .nil
  | v :: vs, h => by
    obtain ⟨x, t, rfl⟩ := h v List.mem_cons_self
    exact .cons x t (strs_tx vs fun z hz => h z (List.mem_cons_of_mem _ hz))
end
def TxO (P : Program) (w : World) (a : Addr) (l : List Str) : HO := .ext fun h => ∃ D, h.get? a = some (sObj "set" D) ∧ Pay P w D l
theorem txO_new {P : Program} {w : World} {H : Hp} {h : Heap} {a : Addr} {D : SD} {l : List Str} (ho : h.get? a = some (sObj "set" D)) (y : Pay P w D l) : ObjOk P w H h a (TxO P w a l) :=
  ⟨⟨D, ho, y⟩, ⟨_, ho⟩, fun h1 h2 p k => let ⟨D, z, y⟩ := p; ⟨D, k _ z, y⟩⟩
section
variable {X : L2.Cx}
theorem txO_get {pins : List (Addr × Obj)} {σ : L2.St} {H : Hp} {s : Shared} {a : Addr} {l : List Str} (I : Inv X pins σ H s) (ha : H a = some (TxO X.prog X.w a l)) : ∃ D, s.heap.get? a = some (sObj "set" D) ∧ Pay X.prog X.w D l := (I.hok a _ ha).1
theorem txO_add {pins : List (Addr × Obj)} {σ : L2.St} {H : Hp} {s : Shared} {E : Value → Shared → Prop} {a : Addr} {l : List Str} {k : Str} {u : Tok} {Q : Value → Shared → Prop} (I : Inv X pins σ H s) (ha : H a = some (TxO X.prog X.w a l)) (room : l.length + 1 < scanBound)
    (h : ∀ s', Inv X pins σ (upd H a (TxO X.prog X.w a (insT k l))) s' → Q .none s') : wpAny (model X.prog X.w) X.A (call (.builtin "set.add") [.ref a, .str k u]) Q E s := by
  obtain ⟨D, ho, y⟩ := txO_get I ha
  refine txt_add ho y room fun h' D' sb ho' y' => ?_
  exact h _ (I.write (e := a) (t' := s.toks + 1) (by rw [ha]; trivial) (.inl rfl) (fun b u hb hu => (sb.2 b hb).trans hu) ⟨_, ho'⟩ (txO_new ho' y'))
theorem cr_sortedT (hcalm : X.calm = true) : CallR X (.builtin "sorted") (fun xs H Q => ∃ (a : Addr) (l : List Str), xs = [.ref a] ∧ H a = some (TxO X.prog X.w a l) ∧ l.length < 64 ∧ ∀ ys p, ys.Perm l → sortedS ys = true → H p = none → Q (.ref p) (upd H p (.lst (ys.map V.str)))) := by
  intro pins s σ H xs us Q I r q
  obtain ⟨a, l, ex, ha, h64, q⟩ := q
  subst ex
  obtain ⟨u, eu, rx⟩ := vals1 r
  subst eu
  cases rx
  obtain ⟨⟨es, ep, t⟩, ho, y⟩ := txO_get I ha
  have siz : es.size = l.length := y.ok.sz
  have few : es.size < scanBound := by rw [siz]; exact Nat.lt_of_lt_of_le h64 (by decide)
  refine Calls.call_function_entry kind_sorted plain_sorted entry_sorted (args_sorted1 _) ?_
  unfold Builtin.«sorted»
  refine wpAny_bind (m := checkCount "sorted" 1 1 _) (wpAny_pure (wpAny_bind (collect_set (A := X.A.in1) (I.ok.hd hcalm) ⟨_, ho, rfl, rfl⟩ y.ok.fit few y.ris y.led fun s1 vs k1 z1 g1 o1 pm => ?_)))
  have lvs : vs.length = l.length := by rw [pm.length_eq, List.length_map, Array.length_toList, siz]
  have sv : StrsAre vs (vs.map txOf) := strs_tx vs fun v hv => by
    obtain ⟨e, he, q⟩ := List.mem_map.mp (pm.mem_iff.mp hv)
    obtain ⟨⟨k, hk, _⟩, _⟩ := y.ok.el e he
    obtain ⟨t, ev⟩ := Value.isStrOf_shape (x := k) (v := e.2) hk
    exact ⟨k, t, by rw [← q]; exact ev⟩
  have pv : (vs.map txOf).Perm l := by
    have z := pm.map txOf
    rw [List.map_map] at z
    exact z.trans y.pm
  have I1 : Inv X pins σ H s1 := I.call' (ch := []) o1 (Un.kept k1) (I.hok.kept k1) (by rw [g1]; exact I.bare) (fun _ z => nomatch z)
  refine wpAny_bind (wpAny_newList ?_ (by rw [lvs, sizeLine_eq]; omega))
  have hoL : (s1.heap.push (seqObj "list" vs.toArray 0)).get? s1.heap.objs.size = some (seqObj "list" vs.toArray 0) := Heap.get?_push_size _ rfl
  refine wpAny_bind (wpAny_holding (wpAny_call_entry slot_list_sort ⟨_, hoL, rfl⟩ entry_list_sort
    (list_sort_treeK strKind_oneLt hoL sv.keysOf (fun v₁ v₂ rest e => keyKind_strs (by rw [← e]; exact sv)) (by rw [lvs]; exact h64) fun st' hp hs => ⟨_, rfl, ?_⟩) (args_list_sort _)))
  obtain ⟨ys, b1, b2, b3⟩ := sorted_out_str sv hp hs
  obtain ⟨e', he'⟩ := sortedHeap_at (vs := vs) (out := (arrOf st').map (·.2)) hoL
  have b2' : ys.Perm l := b2.trans pv
  have hlen : (ys.map V.str).length ≤ sizeLine := by rw [List.length_map, b2'.length_eq, sizeLine_eq]; omega
  refine wpAny_pure ⟨_, rfl, .ref s1.heap.objs.size, upd H s1.heap.objs.size (.lst (ys.map V.str)), I1.laid (t' := s1.toks) (fun b u e => ?_) (Nat.le_refl _)
    (show ObjOk X.prog X.w _ _ _ (.lst (ys.map V.str)) from ⟨hlen, ((arrOf st').map (·.2)).toList, e', vals_of_strs b1, by rw [Array.toArray_toList]; exact he'⟩), rfl, q ys _ b2' b3 (I1.hok.fresh (Nat.le_refl _))⟩
  have hb := Heap.lt_size e
  rw [sortedHeap_old (Nat.ne_of_lt hb) (by rw [size_push']; exact Nat.lt_succ_of_lt hb)]
  exact Heap.get?_push_of_some _ e
end
end DL
namespace DL
open PySem PySem.Spec PyProof.Rows L2 RT
section
variable {t1 t2 i1 i2 elt : Expr} {scope : Scope} {pos : Pos}
theorem turnS_in (it acc : Value) (env : Env) : compTurn (.SetComp elt [⟨t1, i1, [], 0⟩, ⟨t2, i2, [], 0⟩] scope pos) 1 it acc env = (do
    standAt i2.pos
    match ← pyNext it with
    | none => pure (.done .next)
    | some v =>
      letOwnedTupleGo t2 it v
      assign t2 env v
      let mut ok := true
      for c in ([] : List Expr) do
        if ok then ok ← isTrue c env (eval c env)
      if ok then
        (do let v ← eval elt env; standAt elt.pos; let _ ← call (.builtin "set.add") [acc, v])
      again (.compLoop (.SetComp elt [⟨t1, i1, [], 0⟩, ⟨t2, i2, [], 0⟩] scope pos) 1 it acc env)) := by rfl
theorem turnS_out (it acc : Value) (env : Env) : compTurn (.SetComp elt [⟨t1, i1, [], 0⟩, ⟨t2, i2, [], 0⟩] scope pos) 0 it acc env = (do
    standAt i1.pos
    match ← pyNext it with
    | none => pure (.done .next)
    | some v =>
      letOwnedTupleGo t1 it v
      assign t1 env v
      let mut ok := true
      for c in ([] : List Expr) do
        if ok then ok ← isTrue c env (eval c env)
      if ok then
        let x ← eval i2 env
        standAt i2.pos
        let x ← foldedSetIterable i2 env x
        let _ ← runOwn (.compStart (.SetComp elt [⟨t1, i1, [], 0⟩, ⟨t2, i2, [], 0⟩] scope pos) 1 (← holding [x] (pyIter x)) acc env) env
      again (.compLoop (.SetComp elt [⟨t1, i1, [], 0⟩, ⟨t2, i2, [], 0⟩] scope pos) 0 it acc env)) := by rfl
theorem startS_in {prog : Program} {w : World} {A : Around} {env : Env} {s : Shared} {R : Result → Shared → Prop} {it acc : Value}
    (h0 : codeAny (model prog w) A (.compLoop (.SetComp elt [⟨t1, i1, [], 0⟩, ⟨t2, i2, [], 0⟩] scope pos) 1 it acc env) R s)
    (h : wpAny (model prog w) A (pyIter it) (fun it' s' => codeAny (model prog w) A (.compLoop (.SetComp elt [⟨t1, i1, [], 0⟩, ⟨t2, i2, [], 0⟩] scope pos) 1 it' acc env) R s') (notedBy (model prog w) A env fun x s' => R (.error x) s') s) :
    codeAny (model prog w) A (.compStart (.SetComp elt [⟨t1, i1, [], 0⟩, ⟨t2, i2, [], 0⟩] scope pos) 1 it acc env) R s := by
  refine codeAny_of_tree ?_
  show wpAny _ A ((compStart (.SetComp elt [⟨t1, i1, [], 0⟩, ⟨t2, i2, [], 0⟩] scope pos) 1 it acc env).onRaise (fun x => do noteFrame x env; standAt theWindowsPlace)) _ _ s
  refine wpAny_notedAt ?_
  unfold compStart
  show wpAny _ A (ask >>= _) _ _ s
  refine wpAny_bind (wpAny_askSetting (wpAny_ite ?_))
  split
  · first
      | exact wpAny_bind (wpAny_pure (wpAny_pure (And.intro rfl h0)))
      | exact wpAny_pure (And.intro rfl h0)
  · first
      | exact wpAny_bind (wpAny_rule (wpAny_bind (wpAny_standAt (wpAny_bind (wpAny_mono h (fun it' s' h' => wpAny_pure (And.intro rfl h')) fun _ _ x => x)))))
      | (refine wpAny_bind (wpAny_rule ?_); show wpAny _ _ (standAt i2.pos >>= _) _ _ s; exact wpAny_bind (wpAny_standAt (wpAny_bind (wpAny_mono h (fun it' s' h' => wpAny_pure (And.intro rfl h')) fun _ _ x => x))))
theorem set2_in {Y : L2.Cx} {pins : List (Addr × Obj)} {s : Shared} {τ : L2.St} {H : Hp} {R : Result → Shared → Prop} {g2 : TG} {te : TE} {it D : Addr} {fp : List Addr} {tn : Nat → Heap → Prop} {J : It} {Nx : L2.St → Hp → Prop} {W : Nat → Nat → L2.St → Hp → Prop} {m0 : Nat}
    (hc : Y.calm = true) (xe : Y.xe = fun _ _ => False) (hg : PG Y t2 g2) (he : PE Y elt te) (I : Inv Y pins τ H s) (T : Turn Y.prog Y.w Y.K t2 J fp it tn) (st : tn 0 s.heap) (f2 : ∀ b ∈ fp, FpOk Y pins H b) (w0 : W 0 m0 τ H)
    (turn : ∀ i m τ3 H4, W i m τ3 H4 → (J.stop i H4 ∧ Nx τ3 H4) ∨ (J.go i H4 ∧ ∃ N : L2.St → Hp → Prop, (∀ τ' H', N τ' H' → ∃ m', m' < m ∧ W (i + 1) m' τ' H') ∧ ∀ y H5, J.yld i H4 y H5 → g2 y τ3 H5 fun τ4 H6 =>
      te τ4 H6 fun z H7 => ∃ (k : Str) (l : List Str), z = .str k ∧ H7 D = some (TxO Y.prog Y.w D l) ∧ l.length + 1 < scanBound ∧ N τ4 (upd H7 D (TxO Y.prog Y.w D (insT k l)))))
    (fin : ∀ s' τ' H', Inv Y pins τ' H' s' → Nx τ' H' → R (.ok .next) s') :
    codeAny (model Y.prog Y.w) Y.A (.compLoop (.SetComp elt [⟨t1, i1, [], 0⟩, ⟨t2, i2, [], 0⟩] scope pos) 1 (.ref it) (.ref D) Y.env) R s := by
  have stat : ∀ {H' : Hp}, (∀ b ∈ fp, H' b = none) → ∀ b ∈ fp, FpOk Y pins H' b := fun hn b hb => ⟨hn b hb, (f2 b hb).2⟩
  refine codeAny_loop rfl (fun n s' => ∃ i τ' H', Inv Y pins τ' H' s' ∧ tn i s'.heap ∧ (∀ b ∈ fp, H' b = none) ∧ W i n τ' H') ?_ m0 ⟨0, τ, H, I, st, fun b hb => (f2 b hb).1, w0⟩
  rintro n s3 ⟨i, τ3, H3, I3, st3, fr3, w3⟩
  show wpAny _ _ ((compTurn (.SetComp elt [⟨t1, i1, [], 0⟩, ⟨t2, i2, [], 0⟩] scope pos) 1 (.ref it) (.ref D) Y.env).onRaise (fun x => do noteFrame x Y.env; theTreesLotGoes x)) _ _ s3
  refine wpAny_noted ?_
  rw [turnS_in]
  refine wpAny_bind (wpAny_standAt ?_)
  rcases turn i n τ3 H3 w3 with ⟨stop, qn⟩ | ⟨go, N, hN, step⟩
  · refine wpAny_bind (thnF (T.done Y rfl rfl rfl hc i pins s3 τ3 H3 (fun _ _ => False) I3 (stat fr3) st3 stop) fun r s4 ⟨hr, I4⟩ => ?_)
    subst hr
    exact wpAny_pure (fin s4 τ3 H3 I4 qn)
  · refine wpAny_bind (thnF (T.item Y rfl rfl rfl hc i pins s3 τ3 H3 (fun _ _ => False) I3 (stat fr3) st3 go) fun r s4 ⟨u, hr, h4⟩ => ?_)
    subst hr
    refine wpAny_bind (thnF h4 fun _ s5 ⟨x, H5, I5, r5, y5, st5, fr5⟩ => ?_)
    have I5' := I5.pinned (stat fr5) (T.obj _ _ st5)
    have hg' := hg.run _ s5 τ3 H5 x u _ I5' r5 (step x H5 y5)
    rw [xe] at hg'
    refine wpAny_bind (thnF hg' fun _ s6 ⟨τ6, H6, I6, q6⟩ => ?_)
    refine wpAny_bind (m := forIn [] true _) (wpAny_pure ?_)
    rw [if_pos rfl]
    have he' := he.run _ s6 τ6 H6 _ I6 q6
    rw [xe] at he'
    refine wpAny_bind (wpAny_bind (thnF he' fun z s7 ⟨yv, H7, I7, r7, k, l, ez, hD, room, nx⟩ => ?_))
    subst ez
    obtain ⟨tk, rfl⟩ := r7
    refine wpAny_bind (wpAny_standAt (wpAny_bind (txO_add I7 hD room fun s8 I8 => ?_)))
    refine wpAny_pure (wpAny_pure ⟨rfl, ?_⟩)
    obtain ⟨m', hm, w8⟩ := hN _ _ nx
    have pin' : ∀ b ∈ fp, ∀ o, s5.heap.get? b = some o → s8.heap.get? b = some o ∧ upd H7 D (TxO Y.prog Y.w D (insT k l)) b = none := fun b hb o e =>
      let z := I8.pin (b, o) (List.mem_append_right _ (List.mem_append_right _ (mem_pinsAt hb e)))
      ⟨z.1, z.2.1⟩
    refine ⟨m', hm, i + 1, τ6, _, I8.unpinned, T.keep _ _ _ st5 fun b hb o e => (pin' b hb o e).1, fun b hb => ?_, w8⟩
    obtain ⟨o, e, _⟩ := T.obj _ _ st5 b hb
    exact (pin' b hb o e).2
def tSc2 (P : Program) (w : World) (wi : TI) (g1 : TG) (wi2 : TI) (g2 : TG) (te : TE) (vs : List Nat) : TE := fun σ H Q => wi σ H fun J H1 => ∀ D, H1 D = none → ∃ W : Nat → Nat → L2.St → Hp → Prop, (∃ m, W 0 m (L2.wipe σ vs) (upd H1 D (TxO P w D []))) ∧ ∀ i m τ H, W i m τ H →
  (J.stop i H ∧ Q (.ref D) H) ∨ (J.go i H ∧ ∃ Nx : L2.St → Hp → Prop, (∀ τ' H', Nx τ' H' → ∃ m', m' < m ∧ W (i + 1) m' τ' H') ∧ ∀ x H', J.yld i H x H' → g1 x τ H' fun τ2 H2 => wi2 τ2 H2 fun J2 H3 =>
    ∃ W2 : Nat → Nat → L2.St → Hp → Prop, (∃ m2, W2 0 m2 τ2 H3) ∧ ∀ i2 m2 τ3 H4, W2 i2 m2 τ3 H4 → (J2.stop i2 H4 ∧ Nx τ3 H4) ∨ (J2.go i2 H4 ∧ ∃ N2 : L2.St → Hp → Prop, (∀ τ' H', N2 τ' H' → ∃ m', m' < m2 ∧ W2 (i2 + 1) m' τ' H') ∧ ∀ y H5, J2.yld i2 H4 y H5 → g2 y τ3 H5 fun τ4 H6 =>
      te τ4 H6 fun z H7 => ∃ (k : Str) (l : List Str), z = .str k ∧ H7 D = some (TxO P w D l) ∧ l.length + 1 < scanBound ∧ N2 τ4 (upd H7 D (TxO P w D (insT k l)))))
variable {X : L2.Cx}
theorem pe_sc2 {own : List (Str × Nat)} {wi wi2 : TI} {g1 g2 : TG} {te : TE} (hc : X.calm = true) (hN : X.N.Nodup) (hi : PI X t1 i1 wi) (ok : BlkOk X.N X.env.scope scope own)
    (hg1 : ∀ (s : Shared) (H : Hp) (C : Addr) (cl : List (Str × Addr)) (fp : List Addr), PG (X.blk s H scope (compEnvC scope cl C X.env) fp) t1 g1) (hi2 : ∀ (s : Shared) (H : Hp) (C : Addr) (cl : List (Str × Addr)) (fp : List Addr), PI (X.blk s H scope (compEnvC scope cl C X.env) fp) t2 i2 wi2)
    (hg2 : ∀ (s : Shared) (H : Hp) (C : Addr) (cl : List (Str × Addr)) (fp : List Addr), PG (X.blk s H scope (compEnvC scope cl C X.env) fp) t2 g2) (he : ∀ (s : Shared) (H : Hp) (C : Addr) (cl : List (Str × Addr)) (fp : List Addr), PE (X.blk s H scope (compEnvC scope cl C X.env) fp) elt te)
    (hs : ∀ x, foldedSetIterable i1 X.env x = pure x := by intro _; rfl) (hs2 : ∀ env x, foldedSetIterable i2 env x = pure x := by intro _ _; rfl) : PE X (.SetComp elt [⟨t1, i1, [], 0⟩, ⟨t2, i2, [], 0⟩] scope pos) (tSc2 X.prog X.w wi g1 wi2 g2 te (own.map (·.2))) := by
  refine ⟨fun pins s σ H Q I h => ?_⟩
  rw [PpSet.eval_SetComp]
  have free : ∀ y ∈ scope.names, y.2 = .free → ∃ c, X.env.cells.lookup y.1 = some c := fun y hy e =>
    (ok.free y hy e).elim (fun k => I.ok.has _ (.inl k)) fun k => I.ok.has _ (.inr k)
  refine wpAny_comprehension_free (use := none) rfl hs (closure_ok free) ok.kind (fun y hy e => (ok.uniq y hy).trans (by rw [e]))
    (thn (hi.run pins s σ H _ I h) fun xv s1 hx => thn hx fun itv s2 h2 => ?_)
  obtain ⟨it, fp, tn, J, H2, e, I2, T, st2, f2, q⟩ := h2
  subst e
  refine PpSet.newSet_ok (newEnv_comp ?_)
  generalize hD : s2.heap.objs.size = D
  obtain ⟨W, ⟨m0, w0⟩, turn⟩ := q D (I2.hok.fresh (Nat.le_of_eq hD))
  generalize hT0 : (!X.w.params.followText "set-order") = led0
  generalize hS3 : ({ s2 with heap := s2.heap.push { cls := .type "set", dict := none, data := .set #[] 0 (.fresh 0 0 led0) } } : Shared) = s3
  have hh3 : s3.heap = s2.heap.push { cls := .type "set", dict := none, data := .set #[] 0 (.fresh 0 0 led0) } := by rw [← hS3]
  have I3 : Inv X pins σ (upd H2 D (TxO X.prog X.w D [])) s3 := by
    rw [← hS3]
    refine I2.laid (t' := s2.toks) (fun b o e => Heap.get?_push_of_some _ e) (Nat.le_of_eq hD) ?_
    refine txO_new (D := (#[], 0, .fresh 0 0 led0)) ?_ ?_
    · rw [← hD]; exact Heap.get?_push_size _ rfl
    · rw [← hT0]; exact pay_new
  have under : ∀ b ∈ fp, b < s2.heap.objs.size := fun b hb => by
    obtain ⟨o, e, _⟩ := T.obj _ _ st2 b hb
    exact Heap.lt_size e
  have f3 : ∀ b ∈ fp, FpOk X pins (upd H2 D (TxO X.prog X.w D [])) b ∧ b < s3.heap.objs.size := fun b hb => by
    have lt := under b hb
    refine ⟨⟨?_, (f2 b hb).2⟩, by rw [hh3, Heap.size_push]; exact Nat.lt_succ_of_lt lt⟩
    rw [upd_ne (Nat.ne_of_lt (hD ▸ lt))]
    exact (f2 b hb).1
  have st3 : tn 0 s3.heap := T.keep _ _ _ st2 fun b _ o e => by rw [hh3]; exact Heap.get?_push_of_some _ e
  have I4 := block_start I3 ok hN f3
  have p1 := hg1 s3 (upd H2 D (TxO X.prog X.w D [])) s3.heap.objs.size (cellsFrom (s3.heap.objs.size + 1) scope.names (cloFrom X.env.cells scope.names [])) fp
  have p2 := hi2 s3 (upd H2 D (TxO X.prog X.w D [])) s3.heap.objs.size (cellsFrom (s3.heap.objs.size + 1) scope.names (cloFrom X.env.cells scope.names [])) fp
  have p3 := hg2 s3 (upd H2 D (TxO X.prog X.w D [])) s3.heap.objs.size (cellsFrom (s3.heap.objs.size + 1) scope.names (cloFrom X.env.cells scope.names [])) fp
  have p4 := he s3 (upd H2 D (TxO X.prog X.w D [])) s3.heap.objs.size (cellsFrom (s3.heap.objs.size + 1) scope.names (cloFrom X.env.cells scope.names [])) fp
  show codeAny _ _ (.compStart (.SetComp elt [⟨t1, i1, [], 0⟩, ⟨t2, i2, [], 0⟩] scope pos) 0 (.ref it) (.ref D) (compEnvC scope (cellsFrom (s3.heap.objs.size + 1) scope.names (cloFrom X.env.cells scope.names [])) s3.heap.objs.size X.env)) (compPost (model X.prog X.w) X.A X.xe none (EP X pins σ Q) (.ref D) s3.heap.objs.size) { s3 with heap := pushCells (s3.heap.push { cls := .type "dict", data := .dict #[] }) scope.names }
  have nfp : ∀ b ∈ fp, (upd H2 D (TxO X.prog X.w D [])) b = none := fun b hb => (f3 b hb).1.1
  generalize hce : compEnvC scope (cellsFrom (s3.heap.objs.size + 1) scope.names (cloFrom X.env.cells scope.names [])) s3.heap.objs.size X.env = ce at I4 p1 p2 p3 p4 ⊢
  have cL : ce.locals = s3.heap.objs.size := by subst hce; rfl
  generalize hH3 : upd H2 D (TxO X.prog X.w D []) = H3 at I3 I4 p1 p2 p3 p4 w0 nfp f3
  generalize hs4 : ({ s3 with heap := pushCells (s3.heap.push { cls := .type "dict", data := .dict #[] }) scope.names } : Shared) = s4 at I4 ⊢
  have st4 : tn 0 s4.heap := T.keep _ _ _ st3 fun b _ o e => by rw [← hs4]; exact pushCells_keeps _ _ _ _ (Heap.get?_push_of_some _ e)
  have stat : ∀ {τ' : L2.St} {H' : Hp} {s' : Shared}, Inv (X.blk s3 H3 scope ce fp) [] τ' H' s' → (∀ b ∈ fp, H' b = none) → ∀ b ∈ fp, FpOk (X.blk s3 H3 scope ce fp) [] H' b := fun {τ' H' s'} I' hn b hb =>
    ⟨hn b hb, (I'.ok.exf b hb).1, I'.ok.exfs b hb, .inl hb, fun x c e => (I'.ok.exf b hb).2 x c e, fun p hp => absurd (show p ∈ ([] : List (Addr × Obj)) ++ [] from hp) (by simp)⟩
  have loop : codeAny (model X.prog X.w) X.A (.compLoop (.SetComp elt [⟨t1, i1, [], 0⟩, ⟨t2, i2, [], 0⟩] scope pos) 0 (.ref it) (.ref D) ce) (compPost (model X.prog X.w) X.A X.xe none (EP X pins σ Q) (.ref D) s3.heap.objs.size) s4 := by
    refine codeAny_loop rfl (fun n s' => ∃ i τ' H', Inv (X.blk s3 H3 scope ce fp) [] τ' H' s' ∧ tn i s'.heap ∧ (∀ b ∈ fp, H' b = none) ∧ W i n τ' H') ?_ m0 ⟨0, _, H3, I4, st4, nfp, w0⟩
    rintro n s5 ⟨i, τ5, H5, I5, st5, n5, w5⟩
    show wpAny _ _ ((compTurn (.SetComp elt [⟨t1, i1, [], 0⟩, ⟨t2, i2, [], 0⟩] scope pos) 0 (.ref it) (.ref D) ce).onRaise (fun x => do noteFrame x ce; theTreesLotGoes x)) _ _ s5
    refine wpAny_noted ?_
    rw [turnS_out]
    refine wpAny_bind (wpAny_standAt ?_)
    rcases turn i n τ5 H5 w5 with ⟨stop, qq⟩ | ⟨go, Nx, hNx, step⟩
    · refine wpAny_bind (thnF (T.done (X.blk s3 H3 scope ce fp) rfl rfl rfl hc i [] s5 τ5 H5 (fun _ _ => False) I5 (stat I5 n5) st5 stop) fun r s6 ⟨hr, I6⟩ => ?_)
      subst hr
      have I7 : Inv X pins σ H5 s6 := I3.call' (ch := fp) I6.os I6.base I6.hok I6.bare fun b hb => ⟨(f3 b hb).1.2.2.2.1, (f3 b hb).1.2.1, (f3 b hb).1.2.2.2.2.1, (f3 b hb).1.2.2.2.2.2⟩
      have nC : H5 s3.heap.objs.size = none := by
        have z : H5 ce.locals = none := I6.free
        rw [cL] at z
        exact z
      obtain ⟨m, hn, _⟩ := I6.loc
      have hn : s6.heap.Ns ce.locals m := hn
      rw [cL] at hn
      obtain ⟨k0, k1, k2, k3, k4, k5⟩ := I3.fpOk (Nat.le_refl _) nC
      refine wpAny_pure ⟨m, hn, fun h'' sb => ⟨.ref D, H5, ?_, rfl, qq⟩⟩
      exact I7.turned (t' := s6.toks) (fun b o hb e => (sb.2 b hb).trans e) k0 k1 k3 k4 k5
    · refine wpAny_bind (thnF (T.item (X.blk s3 H3 scope ce fp) rfl rfl rfl hc i [] s5 τ5 H5 (fun _ _ => False) I5 (stat I5 n5) st5 go) fun r s6 ⟨u, hr, h6⟩ => ?_)
      subst hr
      refine wpAny_bind (thnF h6 fun _ s7 ⟨x, H7, I7, r7, y7, st7, n7⟩ => ?_)
      have I7' := I7.pinned (stat I7 n7) (T.obj _ _ st7)
      refine wpAny_bind (thnF (p1.run _ s7 _ H7 x u _ I7' r7 (step x H7 y7)) fun _ s8 ⟨τ8, H8, I8, q8⟩ => ?_)
      refine wpAny_bind (m := forIn [] true _) (wpAny_pure ?_)
      rw [if_pos rfl]
      refine wpAny_bind (thnF (p2.run _ s8 τ8 H8 _ I8 q8) fun xv s9 h9 => ?_)
      refine wpAny_bind (wpAny_standAt (wpAny_bind (wpAny_of_eq (hs2 ce xv) ?_)))
      refine wpAny_bind (wpAny_holding (thnF h9 fun itv s10 h10 => ?_))
      obtain ⟨it2, fp2, tn2, J2, H10, e2, I10, T2, st10, f10, W2, ⟨m2, w2⟩, turn2⟩ := h10
      subst e2
      refine wpAny_bind (wpAny_runOwn ?_)
      have inner := set2_in (Y := X.blk s3 H3 scope ce fp) (scope := scope) (pos := pos) (t1 := t1) (i1 := i1) (i2 := i2) (D := D) (Nx := Nx) (R := fun r s' => match r with
            | .ok f => wpAny (model X.prog X.w) X.A (again (.compLoop (.SetComp elt [⟨t1, i1, [], 0⟩, ⟨t2, i2, [], 0⟩] scope pos) 0 (.ref it) (.ref D) ce)) (fun fin s' => match fin with
                | .done f => compPost (model X.prog X.w) X.A X.xe none (EP X pins σ Q) (.ref D) s3.heap.objs.size (.ok f) s'
                | .again c' => c' = .compLoop (.SetComp elt [⟨t1, i1, [], 0⟩, ⟨t2, i2, [], 0⟩] scope pos) 0 (.ref it) (.ref D) ce ∧ ∃ m, m < n ∧ ∃ i τ' H', Inv (X.blk s3 H3 scope ce fp) [] τ' H' s' ∧ tn i s'.heap ∧ (∀ b ∈ fp, H' b = none) ∧ W i m τ' H') (notedBy (model X.prog X.w) X.A ce fun e s' => compPost (model X.prog X.w) X.A X.xe none (EP X pins σ Q) (.ref D) s3.heap.objs.size (.error e) s') s'
            | .error e => cameBackBy (model X.prog X.w) X.A ce (notedBy (model X.prog X.w) X.A ce fun e s' => compPost (model X.prog X.w) X.A X.xe none (EP X pins σ Q) (.ref D) s3.heap.objs.size (.error e) s') e s') hc rfl p3 p4 I10 T2 st10 f10 w2 turn2 fun s' τ' H' I' nx => by
        obtain ⟨m', hm, w'⟩ := hNx τ' H' nx
        have pin' : ∀ b ∈ fp, ∀ o, s7.heap.get? b = some o → s'.heap.get? b = some o ∧ H' b = none := fun b hb o e =>
          let z := I'.pin (b, o) (List.mem_append_right _ (List.mem_append_right _ (mem_pinsAt hb e)))
          ⟨z.1, z.2.1⟩
        refine wpAny_pure ⟨rfl, m', hm, i + 1, τ', H', I'.unpinned (pins := []), T.keep _ _ _ st7 fun b hb o e => (pin' b hb o e).1, fun b hb => ?_, w'⟩
        obtain ⟨o, e, _⟩ := T.obj _ _ st7 b hb
        exact (pin' b hb o e).2
      exact startS_in inner (T2.self X.A 0 _ _ _ st10 inner)
  exact PpSet.codeAny_compStart_set loop (T.self X.A 0 _ _ _ st4 loop)
end
end DL
namespace DL
open PySem PySem.Spec PyProof.Rows L2 RT
def addsL (T : Tg) (F : Rho → Res PyData) : List PyData → Rho → List Str → Option (List Str × Rho)
  | [], ρ, acc => some (acc, ρ)
  | d :: ds, ρ, acc => match T d ρ with
    | none => none
    | some ρ2 => match F ρ2 with
      | .ok (.str k) ρ3 => if acc.length < 63 then addsL T F ds (blkR ρ3) (insT k acc) else none
      | _ => none
def setL (T1 : Tg) (Fi : Rho → Res (List PyData)) (T2 : Tg) (F : Rho → Res PyData) : List PyData → Rho → List Str → Option (List Str)
  | [], _, acc => some acc
  | d :: ds, ρ, acc => match T1 d ρ with
    | none => none
    | some ρ2 => match Fi ρ2 with
      | .ok es ρ3 => match addsL T2 F es (blkR ρ3) acc with
        | some (acc2, ρ4) => setL T1 Fi T2 F ds ρ4 acc2
        | none => none
      | _ => none
def iX (m : KM) (Fi : Rho → Res (List PyData)) : TI := fun σ H R => ∃ B, iD m B (fun _ _ _ _ => False) Fi σ H R
section
variable {m : KM} {B : Bx} {G H : Hp} {σ : L2.St} {ρ : Rho}
theorem DEnv.anewU (E : DEnv m B G H σ ρ) (n : noOwn ρ) {D : Addr} {o : HO} (hd : ∀ vs, H D ≠ some (.dK vs)) (hG : G D = none) : DEnv m ⟨G, upd H D o⟩ G (upd H D o) σ (ρ.map roE) := by
  have gh' : Same G (upd H D o) := fun b u e => by
    rw [upd_ne (fun z => by rw [z, hG] at e; cases e)]
    exact E.base.gh _ _ e
  have no : ∀ (i : Nat) (xs : List PyData), (ρ.map roE)[i]? ≠ some (.own xs) := fun i xs h => by
    obtain ⟨e', h1, h2⟩ := ro_get h
    cases e' <;> first | (cases h2; done) | (cases h2; exact n i _ h1)
  have ne : ∀ {a : Addr} {vs : List (Key × V)}, H a = some (.dK vs) → a ≠ D := fun h z => hd _ (z ▸ h)
  refine ⟨Ext.refl gh', by rw [List.length_map]; exact E.len, fun i e h => ?_, fun i j a xs ys h => absurd h (no i xs), fun i j a kvs f h => ?_⟩
  · obtain ⟨e', h1, rfl⟩ := ro_get h
    have q := E.ent i e' h1
    generalize hs : σ[i]? = x at q
    cases q with
    | un => exact .un
    | d z => exact .d z
    | own z1 z2 z3 z4 => exact absurd h1 (n i _)
    | dct z1 z2 z3 z4 => exact .rdd ((upd_ne (ne z1)).trans z1) z4
    | rdd z1 z4 => exact .rdd ((upd_ne (ne z1)).trans z1) z4
    | ndc _ _ _ _ => exact .un
  · obtain ⟨e', h1, h2⟩ := ro_get h
    cases e' <;> cases h2
end
section
variable {X : L2.Cx} {B : Bx} {W : WX} {pos : Pos} {vs : List Nat}
theorem pi_ex {tg e : Expr} {Fi : Rho → Res (List PyData)} (h : ∀ B, PI X tg e (iD (km X) B (fun _ _ _ _ => False) Fi)) : PI X tg e (iX (km X) Fi) := ⟨fun pins s σ H R I ⟨B, q⟩ => (h B).run pins s σ H R I q⟩
theorem scan_64 {n : Nat} (h : n < 63) : n + 1 < scanBound := Nat.lt_of_lt_of_le (show n + 1 < 64 by omega) (by decide)
theorem t_sc2 {Fi Fi2 : Rho → Res (List PyData)} {T1 T2 : Tg} {F : Rho → Res PyData} {σ : L2.St} {H G : Hp} {ρ : Rho} {Q : VK} (E : DEnv (km X) B G H σ ρ) (S : Sat (km X) B W G σ (Fi ρ) fun ds ρ1 => (∀ v ∈ vs, v < ρ1.length) ∧ ∃ r, setL T1 Fi2 T2 F ds (wipeR (blkR ρ1) vs) [] = some r ∧
      ∀ D G' H', DEnv (km X) B G' H' σ (frz ρ1) → Same G G' → H' D = some (TxO X.prog X.w D r) → G' D = none → Q (.ref D) H') :
    tSc2 X.prog X.w (iD (km X) B W Fi) (gW (km X) vs T1) (iX (km X) Fi2) (gW (km X) vs T2) (exE (km X) F) vs σ H Q := by
  refine ⟨G, ρ, E, S.imp fun ds ρ1 s1 J G1 H1 E1 g1 wk D hD => ?_⟩
  obtain ⟨hv, r, hr, q⟩ := s1
  obtain ⟨Gf, sf, Ef⟩ := E1.frz
  have no := frz_noOwn ρ1
  have x0 : Ext Gf H1 Gf (upd H1 D (TxO X.prog X.w D [])) := Ext.newOwn Ef.base.gh hD
  have hGf : Gf D = none := Ef.base.gh.free hD
  have E0 : DEnv (km X) ⟨Gf, upd H1 D (TxO X.prog X.w D [])⟩ Gf (upd H1 D (TxO X.prog X.w D [])) σ (blkR ρ1) := Ef.anew no (Same.refl _) x0.h x0.gh
  have E0w := (E0.wipe vs (by unfold blkR frz; rw [List.length_map, List.length_map]; exact hv)).1
  refine ⟨fun i m τ H => m = ds.length - i ∧ i ≤ ds.length ∧ ∃ G acc ρ', Ext Gf H1 G H ∧ H D = some (TxO X.prog X.w D acc) ∧ G D = none ∧ DEnv (km X) ⟨G, H⟩ G H τ ρ' ∧ setL T1 Fi2 T2 F (ds.drop i) ρ' acc = some r,
    ⟨_, rfl, Nat.zero_le _, Gf, [], _, x0, upd_same, hGf, E0w, hr⟩, ?_⟩
  rintro i m τ H2 ⟨rfl, hi, G2, acc, ρ', x2, hH, hG, E2, hc⟩
  by_cases hl : i < ds.length
  · have hd : ds[i]? = some ds[i] := List.getElem?_eq_getElem hl
    obtain ⟨w1, w2⟩ := wk.go i _ G2 H2 (sf.trans x2.g) x2.gh hd
    refine .inr ⟨w1, fun τ' H' => ∃ G acc ρ', Ext Gf H1 G H' ∧ H' D = some (TxO X.prog X.w D acc) ∧ G D = none ∧ DEnv (km X) ⟨G, H'⟩ G H' τ' ρ' ∧ setL T1 Fi2 T2 F (ds.drop (i + 1)) ρ' acc = some r, fun τ' H' n => ⟨ds.length - (i + 1), by omega, rfl, hl, n⟩, fun v H3 y => ?_⟩
    obtain ⟨G3, x3, dp⟩ := w2 v H3 y
    rw [List.drop_eq_getElem_cons hl] at hc
    unfold setL at hc
    cases hT : T1 ds[i] ρ' with
    | none => rw [hT] at hc; cases hc
    | some ρ2 =>
      rw [hT] at hc
      dsimp only at hc
      refine ⟨⟨G2, H2⟩, G3, ρ', ds[i], ρ2, E2.ext x3, dp, hT, fun τ2 E4 _ => ⟨⟨G2, H2⟩, G3, ρ2, E4, ?_⟩⟩
      cases hF2 : Fi2 ρ2 with
      | bad => rw [hF2] at hc; cases hc
      | ex x ρ3 => rw [hF2] at hc; cases hc
      | ok es ρ3 =>
        rw [hF2] at hc
        dsimp only at hc
        cases hA : addsL T2 F es (blkR ρ3) acc with
        | none => rw [hA] at hc; cases hc
        | some z =>
          obtain ⟨acc2, ρ4⟩ := z
          rw [hA] at hc
          dsimp only at hc
          intro J2 G5 H5 E5 g5 wk2
          obtain ⟨G6, sf6, Ef6⟩ := E5.frz
          have no6 := frz_noOwn ρ3
          have x6 : Ext G2 H2 G6 H5 := Ef6.base
          have hH6 : H5 D = some (TxO X.prog X.w D acc) := x6.h _ _ hH
          have hG6 : G6 D = none := x6.cap D (by rw [hH]; exact fun z => nomatch z) hG
          have E6 : DEnv (km X) ⟨G6, H5⟩ G6 H5 τ2 (blkR ρ3) := Ef6.anew no6 (Same.refl _) (Same.refl _) x6.gh
          refine ⟨fun i2 m2 τ H => m2 = es.length - i2 ∧ i2 ≤ es.length ∧ ∃ G a ρ', Ext Gf H1 G H ∧ Same G6 G ∧ H D = some (TxO X.prog X.w D a) ∧ G D = none ∧ DEnv (km X) ⟨G, H⟩ G H τ ρ' ∧ addsL T2 F (es.drop i2) ρ' a = some (acc2, ρ4),
            ⟨_, rfl, Nat.zero_le _, G6, acc, _, x2.trans x6, Same.refl _, hH6, hG6, E6, hA⟩, ?_⟩
          rintro j m2 τ5 H7 ⟨rfl, hj, G7, a7, ρ7, x7, s7, hH7, hG7, E7, hc7⟩
          by_cases hl2 : j < es.length
          · have hd2 : es[j]? = some es[j] := List.getElem?_eq_getElem hl2
            obtain ⟨w3, w4⟩ := wk2.go j _ G7 H7 (sf6.trans s7) x7.gh hd2
            refine .inr ⟨w3, fun τ' H' => ∃ G a ρ', Ext Gf H1 G H' ∧ Same G6 G ∧ H' D = some (TxO X.prog X.w D a) ∧ G D = none ∧ DEnv (km X) ⟨G, H'⟩ G H' τ' ρ' ∧ addsL T2 F (es.drop (j + 1)) ρ' a = some (acc2, ρ4), fun τ' H' n => ⟨es.length - (j + 1), by omega, rfl, hl2, n⟩, fun v2 H8 y2 => ?_⟩
            obtain ⟨G8, x8, dp8⟩ := w4 v2 H8 y2
            rw [List.drop_eq_getElem_cons hl2] at hc7
            unfold addsL at hc7
            cases hT2 : T2 es[j] ρ7 with
            | none => rw [hT2] at hc7; cases hc7
            | some ρ8 =>
              rw [hT2] at hc7
              dsimp only at hc7
              refine ⟨⟨G7, H7⟩, G8, ρ7, es[j], ρ8, E7.ext x8, dp8, hT2, fun τ8 E8 _ => ⟨⟨G7, H7⟩, G8, ρ8, E8, ?_⟩⟩
              cases hF : F ρ8 with
              | bad => rw [hF] at hc7; cases hc7
              | ex x ρ9 => rw [hF] at hc7; cases hc7
              | ok y ρ9 =>
                rw [hF] at hc7
                cases y <;> first | (cases hc7; done) | skip
                rename_i k
                dsimp only at hc7
                by_cases hlen : a7.length < 63
                · rw [if_pos hlen] at hc7
                  intro u G9 H9 E9 g9 dp9
                  cases dp9
                  obtain ⟨Gx, sx, Ex⟩ := E9.frz
                  have x9 : Ext G7 H7 Gx H9 := Ex.base
                  have hH9 : H9 D = some (TxO X.prog X.w D a7) := x9.h _ _ hH7
                  have hG9 : Gx D = none := x9.cap D (by rw [hH7]; exact fun z => nomatch z) hG7
                  have xx : Ext Gf H1 Gx H9 := x7.trans x9
                  refine ⟨k, a7, rfl, hH9, scan_64 hlen, Gx, insT k a7, _, ⟨xx.g, fun b o e => ?_, fun b o e => ?_, xx.cap⟩, s7.trans x9.g, upd_same, hG9, Ex.anewU (frz_noOwn ρ9) (fun vs z => by rw [hH9] at z; cases z) hG9, hc7⟩
                  · rw [upd_ne (ne_of_none e hD)]
                    exact xx.h _ _ e
                  · rw [upd_ne (ne_of_none e hG9)]
                    exact xx.gh _ _ e
                · rw [if_neg hlen] at hc7
                  cases hc7
          · have hj' : j = es.length := by omega
            subst hj'
            rw [List.drop_length] at hc7
            unfold addsL at hc7
            cases hc7
            exact .inl ⟨wk2.stop _ G7 H7 (sf6.trans s7) x7.gh rfl, G7, _, _, x7, hH7, hG7, E7, hc⟩
  · have hi' : i = ds.length := by omega
    subst hi'
    rw [List.drop_length] at hc
    unfold setL at hc
    cases hc
    exact .inl ⟨wk.stop _ G2 H2 (sf.trans x2.g) x2.gh rfl, q D G2 H2 (Ef.ext x2) (g1.trans (sf.trans x2.g)) hH hG⟩
theorem insT_few {k : Str} {l : List Str} {n : Nat} (h : l.length < n) : (insT k l).length ≤ n := Nat.le_trans (insT_len k l) h
theorem addsL_few {T : Tg} {F : Rho → Res PyData} : ∀ (ds : List PyData) (ρ : Rho) (acc : List Str) {r : List Str × Rho}, addsL T F ds ρ acc = some r → acc.length ≤ 63 → r.1.length ≤ 63
  | [], ρ, acc, r, h, hl => by
    unfold addsL at h
    cases h
    exact hl
  | d :: ds, ρ, acc, r, h, hl => by
    unfold addsL at h
    split at h
    · cases h
    · split at h
      · split at h
        · rename_i hh
          exact addsL_few ds _ _ h (insT_few hh)
        · cases h
      · cases h
theorem setL_few {T1 T2 : Tg} {Fi : Rho → Res (List PyData)} {F : Rho → Res PyData} : ∀ (ds : List PyData) (ρ : Rho) (acc : List Str) {r : List Str}, setL T1 Fi T2 F ds ρ acc = some r → acc.length ≤ 63 → r.length ≤ 63
  | [], ρ, acc, r, h, hl => by
    unfold setL at h
    cases h
    exact hl
  | d :: ds, ρ, acc, r, h, hl => by
    unfold setL at h
    split at h
    · cases h
    · split at h
      · split at h
        · rename_i hh
          exact setL_few ds _ _ h (addsL_few _ _ _ hh hl)
        · cases h
      · cases h
def sortSetF (vs : List Nat) (Fi : Rho → Res (List PyData)) (T1 : Tg) (Fi2 : Rho → Res (List PyData)) (T2 : Tg) (F : Rho → Res PyData) : Rho → Res PyData := fun ρ => (Fi ρ).bind fun ds ρ1 =>
  if (∀ v ∈ vs, v < ρ1.length) then (match setL T1 Fi2 T2 F ds (wipeR (blkR ρ1) vs) [] with
    | some r => .ok (.list ((sortS r).map PyData.str)) (frz ρ1)
    | none => .bad) else .bad
theorem pd_sortSet {elt t1 t2 i1 i2 : Expr} {scope : Scope} {p cpos : Pos} {own : List (Str × Nat)} {Fi Fi2 : Rho → Res (List PyData)} {T1 T2 : Tg} {F : Rho → Res PyData} (hc : X.calm = true) (hN : X.N.Nodup) (hm : X.mg "sorted" = none) (hi : PI X t1 i1 (iD (km X) B W Fi)) (ok : BlkOk X.N X.env.scope scope own)
    (hg1 : ∀ (s : Shared) (H : Hp) (C : Addr) (cl : List (Str × Addr)) (fp : List Addr), PG (X.blk s H scope (compEnvC scope cl C X.env) fp) t1 (gW (km X) (own.map (·.2)) T1))
    (hi2 : ∀ (s : Shared) (H : Hp) (C : Addr) (cl : List (Str × Addr)) (fp : List Addr) (B : Bx), PI (X.blk s H scope (compEnvC scope cl C X.env) fp) t2 i2 (iD (km X) B (fun _ _ _ _ => False) Fi2))
    (hg2 : ∀ (s : Shared) (H : Hp) (C : Addr) (cl : List (Str × Addr)) (fp : List Addr), PG (X.blk s H scope (compEnvC scope cl C X.env) fp) t2 (gW (km X) (own.map (·.2)) T2))
    (he : ∀ (s : Shared) (H : Hp) (C : Addr) (cl : List (Str × Addr)) (fp : List Addr) (B : Bx), PE (X.blk s H scope (compEnvC scope cl C X.env) fp) elt (tD (km X) B (fun _ _ _ _ => False) F))
    (hs : ∀ x, foldedSetIterable i1 X.env x = pure x := by intro _; rfl) (hs2 : ∀ env x, foldedSetIterable i2 env x = pure x := by intro _ _; rfl) (hg : Gl X "sorted" := by rfl)
    (hst : starEach [.SetComp elt [⟨t1, i1, [], 0⟩, ⟨t2, i2, [], 0⟩] scope cpos] X.env = (false, eval (.SetComp elt [⟨t1, i1, [], 0⟩, ⟨t2, i2, [], 0⟩] scope cpos) X.env) :: starEach [] X.env := by rfl) (hpl : (backTo pos (starEach [] X.env)).any (·.1) = false := by rfl) :
    PE X (.Call (.Name "sorted" p) [.SetComp elt [⟨t1, i1, [], 0⟩, ⟨t2, i2, [], 0⟩] scope cpos] [] pos) (tD (km X) B W (sortSetF (own.map (·.2)) Fi T1 Fi2 T2 F)) := by
  have z := pe_sc2 (pos := cpos) (wi2 := iX (km X) Fi2) (te := exE (km X) F) hc hN hi ok hg1 (fun s H C cl fp => pi_ex (X := X.blk s H scope (compEnvC scope cl C X.env) fp) (hi2 s H C cl fp)) hg2 (fun s H C cl fp => pe_ex (X := X.blk s H scope (compEnvC scope cl C X.env) fp) (he s H C cl fp)) hs hs2
  refine (pe_callB (cr_sortedT hc) hg hm (by decide +kernel) (pa_cons z pa_nil hst) (by decide) (by decide) hst hpl).of ?_
  rintro σ H Q ⟨G, ρ, E, S⟩
  unfold tCB tCons
  refine t_sc2 E ((Sat.bind S).imp fun ds ρ1 s1 => ?_)
  by_cases hv : ∀ v ∈ own.map (·.2), v < ρ1.length
  · rw [if_pos hv] at s1
    refine ⟨hv, ?_⟩
    cases hr : setL T1 Fi2 T2 F ds (wipeR (blkR ρ1) (own.map (·.2))) [] with
    | none => rw [hr] at s1; exact s1.elim
    | some r =>
      rw [hr] at s1
      refine ⟨r, rfl, fun D G' H' E' g' hH hG => ⟨D, r, rfl, hH, by have := setL_few _ _ _ hr (by decide); omega, fun ys p hp hsd hn => ?_⟩⟩
      rw [sortedS_eq hp hsd]
      have x := Ext.new (o := .lst ((sortS r).map V.str)) E'.base.gh hn
      exact s1 _ _ _ (E'.ext x) (g'.trans x.g) (.lst (SqL.of upd_same) (dp_strs _))
  · rw [if_neg hv] at s1
    exact s1.elim
end
end DL
namespace DL
open PySem PySem.Spec PyProof.Rows L2 RT
section
variable {X : L2.Cx} {B : Bx} {W : WX} {e : Expr} {pos : Pos} {F : Rho → Res PyData}
noncomputable def inO (neg : Bool) (i : Nat) (F : Rho → Res PyData) : Rho → Res PyData := fun ρ => (F ρ).bind fun k ρ => match ρ[i]? with
  | some (.own xs) => if SeqAt.shaped k = true ∧ SeqAt.shaped (.list xs) = true then .ok (.bool (neg != xs.any fun z => PyData.eqv z k)) ρ else .bad
  | _ => .bad
end
end DL
namespace DL
open PySem PySem.Spec PyProof.Rows L2 RT
mutual
def keyN : PyData → Option NestedKey
  | .none => some .none
  | .int i => some (.num i)
  | .str x => some (.text x)
  | .tuple ds => (keysN ds).map .tup
  | _ => none
def keysN : List PyData → Option (List NestedKey)
  | [] => some []
  | d :: ds => (keyN d).bind fun k => (keysN ds).map (k :: ·)
end
section
variable {X : L2.Cx} {pins : List (Addr × Obj)} {σ : L2.St} {G H : Hp} {s : Shared}
end
def valN (kvs : List (NestedKey × Int)) (k : NestedKey) : Option Int := (kvs.find? fun p => decide (p.1 = k)).map (·.2)
def putN (kvs : List (NestedKey × Int)) (k : NestedKey) (n : Int) : List (NestedKey × Int) :=
  if (valN kvs k).isSome = true then kvs.map (fun p => if p.1 = k then (p.1, n) else p) else kvs ++ [(k, n)]
section
variable {K : PySem.W.Frag} {G : Hp}
theorem valN_mem {kvs : List (NestedKey × Int)} {k : NestedKey} (h : (valN kvs k).isSome = false) : k ∉ kvs.map (·.1) := fun z => by
  obtain ⟨p, hp, e⟩ := List.mem_map.mp z
  cases q : kvs.find? fun p => decide (p.1 = k) with
  | none =>
    have := List.find?_eq_none.mp q p hp
    simp [e] at this
  | some x => simp [valN, q] at h
end
section
variable {X : L2.Cx} {pins : List (Addr × Obj)} {σ : L2.St} {G H : Hp} {s : Shared} {A : Around} {E : Value → Shared → Prop} {a b : Addr} {xs : List (NestedKey × Addr × Value)} {kvs : List (NestedKey × Int)} {d : PyData} {k : NestedKey}
end
end DL
namespace DL
open PySem PySem.Spec PyProof.Rows L2 RT
section
variable {X : L2.Cx} {o : Expr} {p pos apos mpos : Pos} {td : TE}
end
end DL
namespace DL
open PySem PySem.Spec PyProof.Rows L2 RT
def isNdc : Ent → Bool
  | .ndc _ => true
  | _ => false
def onlyN (i : Nat) (ρ : Rho) : Bool := (ρ.set i .un).all fun e => !isNdc e
section
variable {m : KM} {B : Bx} {G H : Hp} {σ : L2.St} {ρ : Rho}
end
section
variable {X : L2.Cx} {B : Bx} {W : WX} {pos pos' px : Pos} {e f : Expr} {x : Str} {F Fk Fv : Rho → Res PyData}
def newNS (i : Nat) : Rho → Out := fun ρ => if i < ρ.length then .nx (ρ.set i (.ndc [])) else .bad
def isN (o : Option Ent) : Bool := match o with
  | some (.ndc _) => true
  | _ => false
def isTupN : PyData → Bool
  | .tuple _ => true
  | _ => false
def atN (i : Nat) (k : PyData) (ρ : Rho) : Option (List (NestedKey × Int) × NestedKey) := match ρ[i]? with
  | some (.ndc kvs) => if isTupN k = true then (keyN k).bind fun key => if key.depth ≤ 8 then some (kvs, key) else none else none
  | _ => none
noncomputable def putNS (i : Nat) (Fk Fv : Rho → Res PyData) : Rho → Out := fun ρ => (Fv ρ).out fun v ρ => if isN ρ[i]? = true then (Fk ρ).out fun k ρ => match atN i k ρ, v with
  | some (kvs, key), .int n => if kvs.length < 1000000 ∧ onlyN i ρ = true then .nx (ρ.set i (.ndc (putN kvs key n))) else .bad
  | _, _ => .bad
  else .bad
noncomputable def inNF (neg : Bool) (i : Nat) (Fk : Rho → Res PyData) : Rho → Res PyData := fun ρ => (Fk ρ).bind fun k ρ => match atN i k ρ with
  | some (kvs, key) => .ok (.bool (neg != (valN kvs key).isSome)) ρ
  | none => .bad
noncomputable def ixNF (i : Nat) (Fk : Rho → Res PyData) : Rho → Res PyData := fun ρ => if isN ρ[i]? = true then (Fk ρ).bind fun k ρ => match atN i k ρ with
  | some (kvs, key) => optR ((valN kvs key).map PyData.int) ρ
  | none => .bad
  else .bad
def sortNF (i : Nat) : Rho → Res PyData := fun ρ => match ρ[i]? with
  | some (.ndc kvs) => if kvs.length < 64 then .ok (.list ((sortI (kvs.map (·.2))).map PyData.int)) ρ else .bad
  | _ => .bad
end
end DL
namespace DL
open PySem PySem.Spec PyProof.Rows L2 RT
section
variable {X : L2.Cx} {B : Bx} {W : WX} {pos : Pos} {e : Expr} {F : Rho → Res PyData}
def dgetT (F : Rho → Res PyData) (i : Nat) (c : PyData) : Rho → Res PyData := fun ρ => (F ρ).bind fun d ρ1 => match (itemsOf d).bind pairsD, ρ1[i]? with
  | some qs, some (.d kd) => (match keyOf kd with
    | some k => .ok ((valD (mergeD [] qs) k).getD c) ρ1
    | none => .bad)
  | _, _ => .bad
def zipF (F1 F2 : Rho → Res PyData) : Rho → Res (List (PyData × PyData)) := fun ρ => (F1 ρ).bind fun d ρ => (F2 ρ).bind fun e ρ => match d, e with
  | .list xs, .list ys => .ok (xs.zip ys) ρ
  | _, _ => .bad
abbrev mkP (d : PyData × PyData) : PyData := .tuple [d.1, d.2]
def pairsF (F : Rho → Res (List (PyData × PyData))) : Rho → Res (List PyData) := fun ρ => (F ρ).bind fun ds ρ => .ok (ds.map mkP) ρ
end
end DL
namespace DL
open PySem PySem.Spec PyProof.Rows L2 RT
def noFn : Fn := fun _ => .bad
section
variable {X : L2.Cx} {B : Bx} {W : WX} {pos : Pos} {e : Expr} {F : Rho → Res PyData}
theorem pds_bad {sts : List Stmt} : PSs X sts (tDS (km X) B W badS) := ⟨fun pins s σ H D I h => by
  obtain ⟨G, ρ, E, S⟩ := h
  exact S.elim⟩
def popF (i : Nat) : Rho → Res PyData := fun ρ => match ρ[i]? with
  | some (.own xs) => (match xs[xs.length - 1]? with
    | some y => .ok y (ρ.set i (.own xs.dropLast))
    | none => .bad)
  | _ => .bad
theorem pd_pop (i : Nat) {x : Str} {px apos cpos : Pos} (hN : X.N[i]? = some x := by rfl) (hv : Vis X.env.scope x := by first | exact Or.inl rfl | exact Or.inr (Or.inl rfl) | exact Or.inr (Or.inr rfl)) (hd : (x == ("__debug__" : Str)) = false := by decide)
    (hcd : (x == ("__classdict__" : Str)) = false := by decide)
    (hbase : attributeBase (.Name x px) "pop" X.env (eval (.Name x px) X.env) = eval (.Name x px) X.env := by rfl) (hline : (apos.endLine == cpos.line) = true := by rfl) :
    PE X (.Call (.Attribute (.Name x px) "pop" apos) [] [] cpos) (tD (km X) B W (popF i)) := by
  refine (pe_bm0 PySem.F.plainAttrs_list PySem.F.slot_list_pop PySem.F.type_list_pop mt_pop (pe_var hN hv hd hcd) hbase hline).of ?_
  rintro σ H Q ⟨G, ρ, E, S⟩
  unfold popF at S
  cases e1 : ρ[i]? with
  | none => rw [e1] at S; exact S.elim
  | some en =>
    have q := E.ent i _ e1
    generalize hσ : σ[i]? = o at q
    rw [e1] at S
    cases q with
    | un => exact S.elim
    | d dp => exact S.elim
    | @own a vs xs k1 k2 k3 k4 =>
      cases hy : xs[xs.length - 1]? with
      | none => simp only [hy] at S; exact S.elim
      | some y =>
        simp only [hy] at S
        obtain ⟨v, hv, dv⟩ := k4.get hy
        refine ⟨_, hσ, .inl ⟨rfl, _, SqL.of k1⟩, _, _, v, rfl, rfl, k1, by rw [k4.len]; exact hv, ?_⟩
        have dl : DqAll (km X).K G vs.dropLast xs.dropLast := by
          rw [List.dropLast_eq_take, List.dropLast_eq_take, k4.len]
          exact k4.take _
        exact S _ _ _ (E.change e1 hσ dl) (Same.refl _) dv
    | dct _ _ _ _ => exact S.elim
    | rdd _ _ => exact S.elim
    | ndc _ _ _ _ => exact S.elim
def truO (i : Nat) : Rho → Res Bool := fun ρ => match ρ[i]? with
  | some (.own xs) => .ok (!xs.isEmpty) ρ
  | some (.d d) => optR (truth d) ρ
  | _ => .bad
theorem pd_truO (i : Nat) {x : Str} {px : Pos} (hN : X.N[i]? = some x := by rfl) (hv : Vis X.env.scope x := by first | exact Or.inl rfl | exact Or.inr (Or.inl rfl) | exact Or.inr (Or.inr rfl)) (hd : (x == ("__debug__" : Str)) = false := by decide)
    (hcd : (x == ("__classdict__" : Str)) = false := by decide) (he : ∀ whole, isTrue (.Name x px) X.env whole = (do let v ← whole; standAt (Expr.Name x px).pos; holding [v] (truthy v)) := by intro _; rfl) : PT X (.Name x px) (tDT (km X) B W (truO i)) := by
  refine (pt_truth (pe_var hN hv hd hcd) he).of ?_
  rintro σ H Q ⟨G, ρ, E, S⟩
  unfold truO at S
  cases e1 : ρ[i]? with
  | none => rw [e1] at S; exact S.elim
  | some en =>
    have q := E.ent i _ e1
    generalize hσ : σ[i]? = o at q
    rw [e1] at S
    cases q with
    | un => exact S.elim
    | @d v d dp =>
      obtain ⟨k, hk, q⟩ := sat_opt S
      refine ⟨_, hσ, ?_⟩
      have q' := q G H E (Same.refl _)
      cases d <;> first | (cases hk; done) | skip
      · cases hk; cases dp; exact ⟨_, rfl, q'⟩
      · cases hk; cases dp; exact ⟨_, rfl, q'⟩
      · cases hk; cases dp; exact ⟨_, rfl, q'⟩
      · cases dp
        obtain ⟨hl, rfl⟩ := of_if hk
        exact ⟨_, ⟨hl, rfl⟩, q'⟩
      · cases hk
        cases dp with
        | lst h1 h2 => exact ⟨_, .inl ⟨_, E.base.gh.seq h1, by rw [empty_dp h2]⟩, q'⟩
      · cases hk
        cases dp with
        | tup h1 h2 => exact ⟨_, .inr (.inl ⟨_, seqT_same E.base.gh h1, by rw [empty_dp h2]⟩), q'⟩
    | @own a vs xs k1 k2 k3 k4 =>
      refine ⟨_, hσ, ⟨_, .inl ⟨_, SqL.of k1, rfl⟩, ?_⟩⟩
      have := S G H E (Same.refl _)
      rwa [empty_dp k4] at this
    | dct _ _ _ _ => exact S.elim
    | rdd _ _ => exact S.elim
    | ndc _ _ _ _ => exact S.elim
end
theorem ext_lst (l : Addr) (items : Array Value) (n : Nat) (b : Addr) (items2 : Array Value) (n2 : Nat) (sl : Array (Option Value))
    (hs0 : ¬(!items.isEmpty && Builtin.List.listTooLong (items.size + items2.size)) = true) (hs1 : items.size ≤ sizeLine)
    (hs2 : items.size + items2.size ≤ sizeLine + 1) :
    Meets (Builtin.«list.extend» ⟨[.ref l, .ref b], []⟩) fun _ R s =>
      s.heap.get? l = some ⟨.type "list", none, .seq items n, #[]⟩ ∧ s.heap.get? b = some ⟨.type "list", none, .seq items2 n2, sl⟩ ∧
      R (.ok (.ret Value.none)) { s with heap := s.heap.update l (Obj.mapSeq fun x => x ++ items2), toks := s.toks } :=
  .of_wp fun prog w A R s h => by
    obtain ⟨hp, g, d, tk, os⟩ := s
    obtain ⟨hl, hb, h⟩ := h
    have f1 := AutoSeq1.idx_int
    have f2 := AutoSeq1.sub_tuple_tuple
    have f3 := AutoSeq1.sub_list_list
    have f4 := AutoSeq1.sub_tuple_list
    have f5 := AutoSeq1.sub_list_tuple
    have hz' : (items ++ items2).size ≤ sizeLine + 1 := by
      rw [Array.size_append]
      exact hs2
    wp_walk using (wpAny_updateSeq hl rfl (hz := hs1) (_hz' := hz')), AutoSeq1.wpAny_loadPart' hl, AutoSeq1.wpAny_loadPart' hb
    exact ⟨_, rfl, h⟩
section
variable {X : L2.Cx} {B : Bx} {W : WX} {pos : Pos} {e : Expr} {F : Rho → Res PyData}
def rExtL (K : PySem.W.Frag) : V → List V → Hp → VK → Prop := fun x vs H Q => ∃ l b xs zs, x = .ref l ∧ vs = [.ref b] ∧ H l = some (.lst xs) ∧ (SqN K H b zs ∨ SqL K H b zs) ∧ xs.length + zs.length ≤ sizeLine ∧ Q .non (upd H l (.lst (xs ++ zs)))
theorem mt_extL : MtM X "list.extend" (rExtL X.K) := by
  intro pins s σ H x vs v us Q I rx rv h
  obtain ⟨l, b, xs, zs, rfl, rfl, hH, hB | hB, hz, q⟩ := h
  · exact mt_extT pins s σ H _ _ v us Q I rx rv ⟨l, b, xs, zs, rfl, rfl, hH, hB, hz, q⟩
  cases rx
  obtain ⟨u, rfl, ru⟩ := rv.one
  cases ru
  obtain ⟨z, its, n, r, hl, e⟩ := I.lstM hH
  obtain ⟨its2, r2, ⟨⟨oc, od, dt, sl⟩, n2, hl2, h1, h2, h3⟩, z2⟩ := I.list hB
  simp only at h1 h2 h3
  subst h1 h2 h3
  have e2 : its2.length = zs.length := (r2.length).symm
  have hsz : its.toArray.size + its2.toArray.size ≤ sizeLine := by
    rw [List.size_toArray, List.size_toArray]
    omega
  have hlong : ¬ (!its.toArray.isEmpty && Builtin.List.listTooLong (its.toArray.size + its2.toArray.size)) = true := by
    rw [notLongL hsz, Bool.and_false]
    exact Bool.false_ne_true
  refine call_meets F.slot_list_extend ⟨_, e, rfl⟩ F.entry_list_extend (F.args_list_extend_2 _ _) (ext_lst l its.toArray n b its2.toArray n2 sl hlong (by rw [List.size_toArray]; omega) (by omega)) ⟨e, hl2, ?_⟩
  refine ⟨.non, _, I.lset (its' := its ++ its2) hH e (by simp) (r.append r2) ?_, rfl, q⟩
  rw [List.length_append]
  omega
def exlS (i : Nat) (F : Rho → Res PyData) : Rho → Out := fun ρ => if isOwn ρ[i]? = true then (F ρ).out fun d ρ => match ρ[i]?, d with
  | some (.own xs), .tuple ys => if xs.length + ys.length ≤ sizeLine then .nx (ρ.set i (.own (xs ++ ys))) else .bad
  | some (.own xs), .list ys => if xs.length + ys.length ≤ sizeLine then .nx (ρ.set i (.own (xs ++ ys))) else .bad
  | _, _ => .bad
  else .bad
theorem pd_exl (i : Nat) {x : Str} {px apos cpos : Pos} (he : PE X e (tD (km X) B W F)) (hN : X.N[i]? = some x := by rfl)
    (hv : Vis X.env.scope x := by first | exact Or.inl rfl | exact Or.inr (Or.inl rfl) | exact Or.inr (Or.inr rfl)) (hd : (x == ("__debug__" : Str)) = false := by decide)
    (hcd : (x == ("__classdict__" : Str)) = false := by decide) (hbase : attributeBase (.Name x px) "extend" X.env (eval (.Name x px) X.env) = eval (.Name x px) X.env := by rfl)
    (hfew : ((backTo cpos (starEach [e] X.env)).all (fun x => !x.1) && (backToKw cpos (keywordEach [] X.env)).all (fun x => x.1.isSome)
      && decide ([e].length + ([] : List Keyword).length + (if ([] : List Keyword).isEmpty then 0 else 1) < 30)) = true := by rfl)
    (hline : (apos.endLine == cpos.line) = true := by rfl) (hs : starEach [e] X.env = (false, eval e X.env) :: starEach [] X.env := by rfl) (hplain : (backTo cpos (starEach [] X.env)).any (·.1) = false := by rfl)
    (hsw : swapsWith (.Call (.Attribute (.Name x px) "extend" apos) [e] [] cpos) none pos.line X.env = pure false := by rfl) :
    PS X (.Expr (.Call (.Attribute (.Name x px) "extend" apos) [e] [] cpos) pos) (tDS (km X) B W (exlS i F)) := by
  refine (ps_expr (pe_bm PySem.F.plainAttrs_list PySem.F.slot_list_extend PySem.F.type_list_extend mt_extL (pe_var hN hv hd hcd) (pa_cons he pa_nil hs) hbase hfew hline hs hplain) hsw).of ?_
  rintro D σ H ⟨G, ρ, E, S⟩
  unfold exlS at S
  cases ho : isOwn ρ[i]? with
  | false => rw [ho, if_neg (by decide)] at S; exact S.elim
  | true =>
    rw [ho, if_pos rfl] at S
    obtain ⟨zs, hz⟩ := isOwn_of ho
    have q := E.ent i _ hz
    generalize hσ : σ[i]? = o at q
    cases q with
    | own h1 h2 h3 h4 =>
      refine ⟨_, hσ, .inl ⟨rfl, _, SqL.of h1⟩, G, ρ, E, S.out.imp fun d ρ1 s1 v G1 H1 E1 g1 dp1 => ?_⟩
      show ∃ l b xs zs, _
      split at s1
      · rename_i ys ts hy
        have q := E1.ent i _ hy
        rw [hσ] at q
        cases q with
        | own k1 k2 k3 k4 =>
          by_cases hl : ys.length + ts.length ≤ sizeLine
          · rw [if_pos hl] at s1
            cases dp1 with
            | tup t1 t2 =>
              exact ⟨_, _, _, _, rfl, rfl, k1, .inl (t1.same E1.base.gh), by rw [k4.len, t2.len]; exact hl, s1 _ _ _ (E1.change hy hσ (k4.append t2)) g1⟩
          · rw [if_neg hl] at s1
            exact s1.elim
      · rename_i ys ts hy
        have q := E1.ent i _ hy
        rw [hσ] at q
        cases q with
        | own k1 k2 k3 k4 =>
          by_cases hl : ys.length + ts.length ≤ sizeLine
          · rw [if_pos hl] at s1
            cases dp1 with
            | lst t1 t2 =>
              exact ⟨_, _, _, _, rfl, rfl, k1, .inr (E1.base.gh.seq t1), by rw [k4.len, t2.len]; exact hl, s1 _ _ _ (E1.change hy hσ (k4.append t2)) g1⟩
          · rw [if_neg hl] at s1
            exact s1.elim
      · exact s1.elim
end
theorem popF_snoc {i : Nat} {ρ : Rho} {ys : List PyData} {y : PyData} (h : ρ[i]? = some (.own (ys ++ [y]))) : popF i ρ = .ok y (ρ.set i (.own ys)) := by
  unfold popF
  rw [h]
  simp
@[simp] theorem truO_apc {i : Nat} {e0 : Ent} {ρ : Rho} : truO i (e0 :: ρ) = match (e0 :: ρ)[i]? with
  | some (.own xs) => .ok (!xs.isEmpty) (e0 :: ρ)
  | some (.d d) => optR (truth d) (e0 :: ρ)
  | _ => .bad := by unfold truO; exact id rfl
@[simp] theorem exlS_apc {i : Nat} {F : Rho → Res PyData} {e0 : Ent} {ρ : Rho} : exlS i F (e0 :: ρ) = (if isOwn (e0 :: ρ)[i]? = true then (F (e0 :: ρ)).out fun d ρ => match ρ[i]?, d with
  | some (.own xs), .tuple ys => iteC (xs.length + ys.length ≤ 16777216) (.nx (ρ.set i (.own (xs ++ ys)))) .bad
  | some (.own xs), .list ys => iteC (xs.length + ys.length ≤ 16777216) (.nx (ρ.set i (.own (xs ++ ys)))) .bad
  | _, _ => .bad
  else .bad) := by
  unfold exlS
  split
  · refine congrArg (Res.out (F (e0 :: ρ))) ?_
    funext d ρ
    split <;> first | rfl | (unfold iteC; simp only [sizeLine_eq]; rfl) | (unfold iteC; simp only [sizeLine_eq]; split <;> rfl)
  · rfl
section
variable {X : L2.Cx} {B : Bx} {W : WX} {pos : Pos}
def parQ (i j k : Nat) (n : Int) : Rho → Out := fun ρ => match ρ[k]? with
  | some (.d d) => if i < ρ.length ∧ j < ρ.length ∧ k ≠ i ∧ k ≠ j then .nx ((ρ.set i (.own [])).set j (.own [.tuple [d, .int n]])) else .bad
  | _ => .bad
theorem pd_parQ (i j k : Nat) {n : Int} {x y z : Str} {px py pz pt p1 p2 p3 p4 : Pos} {kt k2 k3 pt2 kk} (hc : X.calm = true) (hN : X.N.Nodup) (hi : X.N[i]? = some x := by rfl) (hj : X.N[j]? = some y := by rfl) (hk : X.N[k]? = some z := by rfl)
    (hij : i ≠ j := by decide) (hx : X.env.scope.names.lookup x = some .local := by rfl) (hy : X.env.scope.names.lookup y = some .local := by rfl) (hvz : Vis X.env.scope z := by first | exact Or.inl rfl | exact Or.inr (Or.inl rfl) | exact Or.inr (Or.inr rfl)) (hdz : (z == ("__debug__" : Str)) = false := by decide)
    (hcz : (z == ("__classdict__" : Str)) = false := by decide)
    (he1 : starEach [(.Name z pz : Expr), .Constant (.int n) kk p4] X.env = (false, eval (.Name z pz) X.env) :: starEach [.Constant (.int n) kk p4] X.env := by rfl)
    (he2 : starEach [(.Constant (.int n) kk p4 : Expr)] X.env = (false, eval (.Constant (.int n) kk p4) X.env) :: starEach [] X.env := by rfl)
    (he3 : starEach [(.Tuple [.Name z pz, .Constant (.int n) kk p4] k3 p3 : Expr)] X.env = (false, eval (.Tuple [.Name z pz, .Constant (.int n) kk p4] k3 p3) X.env) :: starEach [] X.env := by rfl)
    (he4 : starEach [(.List [] p1 : Expr), .List [.Tuple [.Name z pz, .Constant (.int n) kk p4] k3 p3] p2] X.env = (false, eval (.List [] p1) X.env) :: starEach [.List [.Tuple [.Name z pz, .Constant (.int n) kk p4] k3 p3] p2] X.env := by rfl)
    (he5 : starEach [(.List [.Tuple [.Name z pz, .Constant (.int n) kk p4] k3 p3] p2 : Expr)] X.env = (false, eval (.List [.Tuple [.Name z pz, .Constant (.int n) kk p4] k3 p3] p2) X.env) :: starEach [] X.env := by rfl)
    (hw : swappedStores [.Tuple [.Name x px, .Name y py] kt pt] (.Tuple [.List [] p1, .List [.Tuple [.Name z pz, .Constant (.int n) kk p4] k3 p3] p2] k2 pt2) X.env = pure (some [x, y]) := by rfl)
    (hs : swapsWithSole [.Tuple [.Name x px, .Name y py] kt pt] (.Tuple [.List [] p1, .List [.Tuple [.Name z pz, .Constant (.int n) kk p4] k3 p3] p2] k2 pt2) pos.line X.env = pure false := by rfl) :
    PS X (.Assign [.Tuple [.Name x px, .Name y py] kt pt] (.Tuple [.List [] p1, .List [.Tuple [.Name z pz, .Constant (.int n) kk p4] k3 p3] p2] k2 pt2) pos) (tDS (km X) B W (parQ i j k n)) := by
  refine (ps_par hc hN hi hj hij hx hy (pa_cons (pe_lst pa_nil) (pa_cons (pe_lst (pa_cons (pe_tupN (pa_cons (pe_var hk hvz hdz hcz) (pa_cons pe_int pa_nil he2) he1)) pa_nil he3)) pa_nil he5) he4) hw hs).of ?_
  rintro D σ H ⟨G, ρ, E, S⟩
  unfold parQ at S
  cases e1 : ρ[k]? with
  | none => rw [e1] at S; exact S.elim
  | some en =>
    have q := E.ent k _ e1
    generalize hσ : σ[k]? = o at q
    rw [e1] at S
    cases q with
    | un => exact S.elim
    | @d v d dp =>
      simp only at S
      by_cases h : i < ρ.length ∧ j < ρ.length ∧ k ≠ i ∧ k ≠ j
      · rw [if_pos h] at S
        obtain ⟨h1, h2, h3, h4⟩ := h
        refine ⟨Nat.zero_le _, fun q1 hq1 => ⟨_, hσ, ⟨(show 2 ≤ sizeLine by decide), fun q2 o2 hq2 ho2 => ⟨(show 1 ≤ sizeLine by decide), fun q3 hq3 => ⟨_, _, rfl, ?_⟩⟩⟩⟩⟩
        have E1 := E.putOwn h1 hq1 .nil
        have ex := Ext.new (o := .frz o2 (.tup [v, .int n])) E1.base.gh hq2
        have E2 := E1.ext ex
        have d2 : Dq (km X).K _ (.ref q2) (.tuple [d, .int n]) := .tup (SqN.of ho2 upd_same) (.cons (dp_same ex.g _ _ dp) (.cons (.int n) .nil))
        have E3 := E2.putOwn (i := j) (by simpa using h2) hq3 (.cons d2 .nil)
        exact S _ _ _ E3 ex.g
      · rw [if_neg h] at S
        exact S.elim
    | own _ _ _ _ => exact S.elim
    | dct _ _ _ _ => exact S.elim
    | rdd _ _ => exact S.elim
    | ndc _ _ _ _ => exact S.elim
end
@[simp] theorem parQ_apc {i j k : Nat} {n : Int} {e0 : Ent} {ρ : Rho} : parQ i j k n (e0 :: ρ) = match (e0 :: ρ)[k]? with
  | some (.d d) => if i < (e0 :: ρ).length ∧ j < (e0 :: ρ).length ∧ k ≠ i ∧ k ≠ j then .nx (((e0 :: ρ).set i (.own [])).set j (.own [.tuple [d, .int n]])) else .bad
  | _ => .bad := by unfold parQ; exact id rfl
end DL
namespace G_k46
open PySem PySem.Spec PyProof.Rows L2 DL
def topS (i : Nat) : Stmt := PySem.Challenge.pw_linpapers_k46_truth_of_formulas.main.body.getD i (.Pass ⟨0, 0, 0, 0⟩)
abbrev s_number : Stmt := topS 8
theorem sc_number : FnScope ["top", "bottom", "common"] ["top", "bottom"] (defScope s_number) := ⟨rfl, rfl, rfl, by decide +kernel, rfl, by decide +kernel, by decide +kernel⟩
noncomputable def S_number : Rho → Out := (seqS (ifS (testF (binF dEq (varF 1) (cF (.int 0)))) (raiseS "NumberError") nxS) (seqS (asgS (appF (app2 bGcd) (consA (varF 0) (consA (varF 1) nilA))) (nameT 2)) (seqS (ifS (testF (binF dLt (varF 1) (cF (.int 0)))) (asgS (unF dNeg (varF 2)) (nameT 2)) nxS) (retS (tupF (consA (binF dDiv (varF 0) (varF 2)) (consA (binF dDiv (varF 1) (varF 2)) nilA)))))))
noncomputable def B_number (a0 a1 : PyData) : FR := outFR (S_number [.d a0, .d a1, .un])
noncomputable def m_number : Fn := fn2 B_number
abbrev s_plus : Stmt := topS 9
theorem sc_plus : FnScope ["first", "second", "top", "bottom", "other_top", "other_bottom"] ["first", "second"] (defScope s_plus) := ⟨rfl, rfl, rfl, by decide +kernel, rfl, by decide +kernel, by decide +kernel⟩
noncomputable def S_plus : Rho → Out := (seqS (asgS (varF 0) (tupT 2 (consTs (nameT 2) (consTs (nameT 3) nilTs)))) (seqS (asgS (varF 1) (tupT 2 (consTs (nameT 4) (consTs (nameT 5) nilTs)))) (retS (callF m_number (consA (binF dAdd (binF dMul (varF 2) (varF 5)) (binF dMul (varF 4) (varF 3))) (consA (binF dMul (varF 3) (varF 5)) nilA))))))
noncomputable def B_plus (a0 a1 : PyData) : FR := outFR (S_plus [.d a0, .d a1, .un, .un, .un, .un])
noncomputable def m_plus : Fn := fn2 B_plus
abbrev s_minus : Stmt := topS 10
theorem sc_minus : FnScope ["first", "second", "top", "bottom", "other_top", "other_bottom"] ["first", "second"] (defScope s_minus) := ⟨rfl, rfl, rfl, by decide +kernel, rfl, by decide +kernel, by decide +kernel⟩
noncomputable def S_minus : Rho → Out := (seqS (asgS (varF 0) (tupT 2 (consTs (nameT 2) (consTs (nameT 3) nilTs)))) (seqS (asgS (varF 1) (tupT 2 (consTs (nameT 4) (consTs (nameT 5) nilTs)))) (retS (callF m_number (consA (binF dSub (binF dMul (varF 2) (varF 5)) (binF dMul (varF 4) (varF 3))) (consA (binF dMul (varF 3) (varF 5)) nilA))))))
noncomputable def B_minus (a0 a1 : PyData) : FR := outFR (S_minus [.d a0, .d a1, .un, .un, .un, .un])
noncomputable def m_minus : Fn := fn2 B_minus
abbrev s_times : Stmt := topS 11
theorem sc_times : FnScope ["first", "second"] ["first", "second"] (defScope s_times) := ⟨rfl, rfl, rfl, by decide +kernel, rfl, by decide +kernel, by decide +kernel⟩
noncomputable def S_times : Rho → Out := (retS (callF m_number (consA (binF dMul (binF dIx (varF 0) (cF (.int 0))) (binF dIx (varF 1) (cF (.int 0)))) (consA (binF dMul (binF dIx (varF 0) (cF (.int 1))) (binF dIx (varF 1) (cF (.int 1)))) nilA))))
noncomputable def B_times (a0 a1 : PyData) : FR := outFR (S_times [.d a0, .d a1])
noncomputable def m_times : Fn := fn2 B_times
abbrev s_compare : Stmt := topS 12
theorem sc_compare : FnScope ["first", "second", "left", "right"] ["first", "second"] (defScope s_compare) := ⟨rfl, rfl, rfl, by decide +kernel, rfl, by decide +kernel, by decide +kernel⟩
noncomputable def S_compare : Rho → Out := (seqS (asgS (binF dMul (binF dIx (varF 0) (cF (.int 0))) (binF dIx (varF 1) (cF (.int 1)))) (nameT 2)) (seqS (asgS (binF dMul (binF dIx (varF 1) (cF (.int 0))) (binF dIx (varF 0) (cF (.int 1)))) (nameT 3)) (seqS (ifS (testF (binF dLt (varF 2) (varF 3))) (retS (unF dNeg (cF (.int 1)))) nxS) (seqS (ifS (testF (binF dGt (varF 2) (varF 3))) (retS (cF (.int 1))) nxS) (retS (cF (.int 0)))))))
noncomputable def B_compare (a0 a1 : PyData) : FR := outFR (S_compare [.d a0, .d a1, .un, .un])
noncomputable def m_compare : Fn := fn2 B_compare
abbrev s_whole_factor : Stmt := topS 13
theorem sc_whole_factor : FnScope ["values", "common", "multiple", "top", "bottom"] ["values"] (defScope s_whole_factor) := ⟨rfl, rfl, rfl, by decide +kernel, rfl, by decide +kernel, by decide +kernel⟩
noncomputable def L_whole_factor_1 : Rho → Out := (seqS (asgS (appF (app2 bGcd) (consA (varF 1) (consA (varF 3) nilA))) (nameT 1)) (asgS (appF (app2 bLcm) (consA (varF 2) (consA (varF 4) nilA))) (nameT 2)))
noncomputable def S_whole_factor : Rho → Out := (seqS (asgS (tupF (consA (cF (.int 0)) (consA (cF (.int 1)) nilA))) (tupT 2 (consTs (nameT 1) (consTs (nameT 2) nilTs)))) (seqS (forS (itemsQ (varF 0)) (tupT 2 (consTs (nameT 3) (consTs (nameT 4) nilTs))) L_whole_factor_1) (retS (callF m_number (consA (varF 2) (consA (varF 1) nilA))))))
noncomputable def B_whole_factor (a0 : PyData) : FR := outFR (S_whole_factor [.d a0, .un, .un, .un, .un])
noncomputable def m_whole_factor : Fn := fn1 B_whole_factor
abbrev s_added_up : Stmt := topS 15
theorem sc_added_up : FnScope ["pairs", "totals", "name", "amount"] ["pairs"] (defScope s_added_up) := ⟨rfl, rfl, rfl, by decide +kernel, rfl, by decide +kernel, by decide +kernel⟩
noncomputable def L_added_up_1 : Rho → Out := (putS 1 (varF 2) (callF m_plus (consA (dgetF 1 (varF 2) (cF (.tuple [.int 0, .int 1]))) (consA (varF 3) nilA))))
noncomputable def S_added_up : Rho → Out := (seqS (newDS 1) (seqS (forS (itemsQ (varF 0)) (tupT 2 (consTs (nameT 2) (consTs (nameT 3) nilTs))) L_added_up_1) (retS (appF (app1 bTuple) (consA (lcF [2] (itemsQ (dsortF 1)) (nameT 2) (testF (binF dNe (dixF 1 (varF 2)) (cF (.tuple [.int 0, .int 1])))) (tupF (consA (varF 2) (consA (dixF 1 (varF 2)) nilA)))) nilA)))))
noncomputable def B_added_up (a0 : PyData) : FR := outFR (S_added_up [.d a0, .un, .un, .un])
noncomputable def m_added_up : Fn := fn1 B_added_up
abbrev s_multiplied : Stmt := topS 16
theorem sc_multiplied : FnScope ["pairs", "factor", "name", "amount"] ["pairs", "factor"] (defScope s_multiplied) := ⟨rfl, rfl, rfl, by decide +kernel, rfl, by decide +kernel, by decide +kernel⟩
noncomputable def S_multiplied : Rho → Out := (retS (appF (app1 bTuple) (consA (lcF [2, 3] (itemsQ (varF 0)) (tupT 2 (consTs (nameT 2) (consTs (nameT 3) nilTs))) yesT (tupF (consA (varF 2) (consA (callF m_times (consA (varF 3) (consA (varF 1) nilA))) nilA)))) nilA)))
noncomputable def B_multiplied (a0 a1 : PyData) : FR := outFR (S_multiplied [.d a0, .d a1, .un, .un])
noncomputable def m_multiplied : Fn := fn2 B_multiplied
abbrev s_normal_factor : Stmt := topS 21
theorem sc_normal_factor : FnScope ["some_row", "parts", "sign", "bound", "amounts", "_", "amount", "factor"] ["some_row"] (defScope s_normal_factor) := ⟨rfl, rfl, rfl, by decide +kernel, rfl, by decide +kernel, by decide +kernel⟩
noncomputable def S_normal_factor : Rho → Out := (seqS (asgS (varF 0) (tupT 3 (consTs (nameT 1) (consTs (nameT 2) (consTs (nameT 3) nilTs))))) (seqS (ifS (andT (notT (truF (varF 1))) (testF (binF dEq (varF 3) (cF (.tuple [.int 0, .int 1]))))) (retS (cF (.tuple [.int 1, .int 1]))) nxS) (seqS (asgS (orL (lcF [5, 6] (itemsQ (varF 1)) (tupT 2 (consTs (nameT 5) (consTs (nameT 6) nilTs))) yesT (varF 6)) (lstF (consA (varF 3) nilA))) (nameT 4)) (seqS (asgS (callF m_whole_factor (consA (varF 4) nilA)) (nameT 7)) (seqS (ifS (andT (testF (binF dEq (varF 2) (cF (.str "=")))) (testF (binF dLt (callF m_compare (consA (binF dIx (varF 4) (cF (.int 0))) (consA (cF (.tuple [.int 0, .int 1])) nilA))) (cF (.int 0))))) (retS (callF m_minus (consA (cF (.tuple [.int 0, .int 1])) (consA (varF 7) nilA)))) nxS) (retS (varF 7)))))))
noncomputable def B_normal_factor (a0 : PyData) : FR := outFR (S_normal_factor [.d a0, .un, .un, .un, .un, .un, .un, .un])
noncomputable def m_normal_factor : Fn := fn1 B_normal_factor
abbrev s_normal : Stmt := topS 20
theorem sc_normal : FnScope ["some_row", "parts", "sign", "bound", "factor"] ["some_row"] (defScope s_normal) := ⟨rfl, rfl, rfl, by decide +kernel, rfl, by decide +kernel, by decide +kernel⟩
noncomputable def S_normal : Rho → Out := (seqS (asgS (varF 0) (tupT 3 (consTs (nameT 1) (consTs (nameT 2) (consTs (nameT 3) nilTs))))) (seqS (asgS (callF m_normal_factor (consA (varF 0) nilA)) (nameT 4)) (retS (tupF (consA (callF m_multiplied (consA (varF 1) (consA (varF 4) nilA))) (consA (varF 2) (consA (callF m_times (consA (varF 3) (consA (varF 4) nilA))) nilA)))))))
noncomputable def B_normal (a0 : PyData) : FR := outFR (S_normal [.d a0, .un, .un, .un, .un])
noncomputable def m_normal : Fn := fn1 B_normal
abbrev s_row : Stmt := topS 19
theorem sc_row : FnScope ["pairs", "sign", "bound", "parts"] ["pairs", "sign", "bound"] (defScope s_row) := ⟨rfl, rfl, rfl, by decide +kernel, rfl, by decide +kernel, by decide +kernel⟩
noncomputable def S_row : Rho → Out := (seqS (asgS (callF m_added_up (consA (varF 0) nilA)) (nameT 3)) (seqS (ifS (testF (inKF false [(">=", "<="), (">", "<")] ["<=", "<", "="] (varF 1))) (retS (callF m_normal (consA (tupF (consA (callF m_multiplied (consA (varF 3) (consA (cF (.tuple [.int (-1), .int 1])) nilA))) (consA (ixKF [(">=", "<="), (">", "<")] (varF 1)) (consA (callF m_minus (consA (cF (.tuple [.int 0, .int 1])) (consA (varF 2) nilA))) nilA)))) nilA))) nxS) (retS (callF m_normal (consA (tupF (consA (varF 3) (consA (varF 1) (consA (varF 2) nilA)))) nilA)))))
noncomputable def B_row (a0 a1 a2 : PyData) : FR := outFR (S_row [.d a0, .d a1, .d a2, .un])
noncomputable def m_row : Fn := fn3 B_row
abbrev s_unknowns : Stmt := topS 22
theorem sc_unknowns : FnScope ["system", "parts", "_", "unknown"] ["system"] (defScope s_unknowns) := ⟨rfl, rfl, rfl, by decide +kernel, rfl, by decide +kernel, by decide +kernel⟩
noncomputable def S_unknowns : Rho → Out := (retS (sortSetF [1, 2, 3] (itemsQ (varF 0)) (tupT 3 (consTs (nameT 1) (consTs (nameT 2) (consTs (nameT 2) nilTs)))) (itemsQ (varF 1)) (tupT 2 (consTs (nameT 3) (consTs (nameT 2) nilTs))) (varF 3)))
noncomputable def B_unknowns (a0 : PyData) : FR := outFR (S_unknowns [.d a0, .un, .un, .un])
noncomputable def m_unknowns : Fn := fn1 B_unknowns
abbrev s_value : Stmt := topS 23
theorem sc_value : FnScope ["some_term", "point", "parts", "total", "known", "unknown", "amount"] ["some_term", "point"] (defScope s_value) := ⟨rfl, rfl, rfl, by decide +kernel, rfl, by decide +kernel, by decide +kernel⟩
noncomputable def L_value_1 : Rho → Out := (asgS (callF m_plus (consA (varF 3) (consA (callF m_times (consA (varF 6) (consA (dgetF 4 (varF 5) (cF (.tuple [.int 0, .int 1]))) nilA))) nilA))) (nameT 3))
noncomputable def S_value : Rho → Out := (seqS (asgS (varF 0) (tupT 2 (consTs (nameT 2) (consTs (nameT 3) nilTs)))) (seqS (dictS (varF 1) 4) (seqS (forS (itemsQ (varF 2)) (tupT 2 (consTs (nameT 5) (consTs (nameT 6) nilTs))) L_value_1) (retS (varF 3)))))
noncomputable def B_value (a0 a1 : PyData) : FR := outFR (S_value [.d a0, .d a1, .un, .un, .un, .un, .un])
noncomputable def m_value : Fn := fn2 B_value
abbrev s_holds : Stmt := topS 24
theorem sc_holds : FnScope ["some_row", "point", "parts", "sign", "bound", "order"] ["some_row", "point"] (defScope s_holds) := ⟨rfl, rfl, rfl, by decide +kernel, rfl, by decide +kernel, by decide +kernel⟩
noncomputable def S_holds : Rho → Out := (seqS (asgS (varF 0) (tupT 3 (consTs (nameT 2) (consTs (nameT 3) (consTs (nameT 4) nilTs))))) (seqS (asgS (callF m_compare (consA (callF m_value (consA (tupF (consA (varF 2) (consA (cF (.tuple [.int 0, .int 1])) nilA))) (consA (varF 1) nilA))) (consA (varF 4) nilA))) (nameT 5)) (seqS (ifS (testF (binF dEq (varF 3) (cF (.str "=")))) (retS (binF dEq (varF 5) (cF (.int 0)))) nxS) (seqS (ifS (testF (binF dEq (varF 3) (cF (.str "<")))) (retS (binF dLt (varF 5) (cF (.int 0)))) nxS) (retS (binF dLe (varF 5) (cF (.int 0))))))))
noncomputable def B_holds (a0 a1 : PyData) : FR := outFR (S_holds [.d a0, .d a1, .un, .un, .un, .un])
noncomputable def m_holds : Fn := fn2 B_holds
abbrev s_opposites : Stmt := topS 25
theorem sc_opposites : FnScope ["some_row", "parts", "sign", "bound"] ["some_row"] (defScope s_opposites) := ⟨rfl, rfl, rfl, by decide +kernel, rfl, by decide +kernel, by decide +kernel⟩
noncomputable def S_opposites : Rho → Out := (seqS (asgS (varF 0) (tupT 3 (consTs (nameT 1) (consTs (nameT 2) (consTs (nameT 3) nilTs))))) (seqS (ifS (testF (binF dEq (varF 2) (cF (.str "<=")))) (retS (lstF (consA (callF m_row (consA (varF 1) (consA (cF (.str ">")) (consA (varF 3) nilA)))) nilA))) nxS) (seqS (ifS (testF (binF dEq (varF 2) (cF (.str "<")))) (retS (lstF (consA (callF m_row (consA (varF 1) (consA (cF (.str ">=")) (consA (varF 3) nilA)))) nilA))) nxS) (retS (lstF (consA (callF m_row (consA (varF 1) (consA (cF (.str "<")) (consA (varF 3) nilA)))) (consA (callF m_row (consA (varF 1) (consA (cF (.str ">")) (consA (varF 3) nilA)))) nilA)))))))
noncomputable def B_opposites (a0 : PyData) : FR := outFR (S_opposites [.d a0, .un, .un, .un])
noncomputable def m_opposites : Fn := fn1 B_opposites
abbrev s_is_true : Stmt := topS 29
theorem sc_is_true : FnScope ["formula", "point", "word", "part"] ["formula", "point"] (defScope s_is_true) := ⟨rfl, rfl, rfl, by decide +kernel, rfl, by decide +kernel, by decide +kernel⟩
noncomputable def S_is_true (r_is_true : Fn) : Rho → Out := (seqS (asgS (binF dIx (varF 0) (cF (.int 0))) (nameT 2)) (seqS (ifS (testF (binF dEq (varF 2) (cF (.str "row")))) (retS (callF m_holds (consA (binF dIx (varF 0) (cF (.int 1))) (consA (varF 1) nilA)))) nxS) (seqS (ifS (testF (binF dEq (varF 2) (cF (.str "not")))) (retS (notV (callF r_is_true (consA (binF dIx (varF 0) (cF (.int 1))) (consA (varF 1) nilA))))) nxS) (seqS (ifS (testF (binF dEq (varF 2) (cF (.str "and")))) (retS (appF (app1 bAll) (consA (lcF [3] (itemsQ (binF dIx (varF 0) (cF (.int 1)))) (nameT 3) yesT (callF r_is_true (consA (varF 3) (consA (varF 1) nilA)))) nilA))) nxS) (seqS (ifS (testF (binF dEq (varF 2) (cF (.str "or")))) (retS (appF (app1 bAny) (consA (lcF [3] (itemsQ (binF dIx (varF 0) (cF (.int 1)))) (nameT 3) yesT (callF r_is_true (consA (varF 3) (consA (varF 1) nilA)))) nilA))) nxS) (retS (binF dEq (varF 2) (cF (.str "true")))))))))
noncomputable def B_is_true (r_is_true : Fn) (a0 a1 : PyData) : FR := outFR (S_is_true r_is_true [.d a0, .d a1, .un, .un])
noncomputable def R_is_true : Nat → Fn
  | 0 => noFn
  | n + 1 => fn2 (B_is_true (R_is_true n))
noncomputable def m_is_true : Fn := (R_is_true 24)
abbrev s__joined : Stmt := topS 32
theorem sc__joined : FnScope ["word", "formulas"] ["word", "formulas"] (defScope s__joined) := ⟨rfl, rfl, rfl, by decide +kernel, rfl, by decide +kernel, by decide +kernel⟩
noncomputable def S__joined : Rho → Out := (seqS (ifS (testF (binF dEq (appF (app1 bLen) (consA (varF 1) nilA)) (cF (.int 1)))) (retS (binF dIx (varF 1) (cF (.int 0)))) nxS) (retS (tupF (consA (varF 0) (consA (appF (app1 bTuple) (consA (varF 1) nilA)) nilA)))))
noncomputable def B__joined (a0 a1 : PyData) : FR := outFR (S__joined [.d a0, .d a1])
noncomputable def m__joined : Fn := fn2 B__joined
abbrev s_plain : Stmt := topS 30
theorem sc_plain : FnScope ["formula", "word", "part"] ["formula"] (defScope s_plain) := ⟨rfl, rfl, rfl, by decide +kernel, rfl, by decide +kernel, by decide +kernel⟩
noncomputable def S_plain (r_plain r__plain_not : Fn) : Rho → Out := (seqS (asgS (binF dIx (varF 0) (cF (.int 0))) (nameT 1)) (seqS (ifS (testF (binF dEq (varF 1) (cF (.str "not")))) (retS (callF r__plain_not (consA (binF dIx (varF 0) (cF (.int 1))) nilA))) nxS) (seqS (ifS (testF (binF dIn3 (varF 1) (cF (.tuple [.str "and", .str "or"])))) (retS (tupF (consA (varF 1) (consA (appF (app1 bTuple) (consA (lcF [2] (itemsQ (binF dIx (varF 0) (cF (.int 1)))) (nameT 2) yesT (callF r_plain (consA (varF 2) nilA))) nilA)) nilA)))) nxS) (retS (varF 0)))))
noncomputable def B_plain (r_plain r__plain_not : Fn) (a0 : PyData) : FR := outFR (S_plain r_plain r__plain_not [.d a0, .un, .un])
abbrev s__plain_not : Stmt := topS 31
theorem sc__plain_not : FnScope ["formula", "word", "part", "opposite"] ["formula"] (defScope s__plain_not) := ⟨rfl, rfl, rfl, by decide +kernel, rfl, by decide +kernel, by decide +kernel⟩
noncomputable def S__plain_not (r_plain r__plain_not : Fn) : Rho → Out := (seqS (asgS (binF dIx (varF 0) (cF (.int 0))) (nameT 1)) (seqS (ifS (testF (binF dEq (varF 1) (cF (.str "not")))) (retS (callF r_plain (consA (binF dIx (varF 0) (cF (.int 1))) nilA))) nxS) (seqS (ifS (testF (binF dIn3 (varF 1) (cF (.tuple [.str "and", .str "or"])))) (retS (tupF (consA (ixKF [("and", "or"), ("or", "and"), ("true", "false"), ("false", "true")] (varF 1)) (consA (appF (app1 bTuple) (consA (lcF [2] (itemsQ (binF dIx (varF 0) (cF (.int 1)))) (nameT 2) yesT (callF r__plain_not (consA (varF 2) nilA))) nilA)) nilA)))) nxS) (seqS (ifS (testF (binF dEq (varF 1) (cF (.str "row")))) (retS (callF m__joined (consA (cF (.str "or")) (consA (lcF [3] (itemsQ (callF m_opposites (consA (binF dIx (varF 0) (cF (.int 1))) nilA))) (nameT 3) yesT (tupF (consA (cF (.str "row")) (consA (varF 3) nilA)))) nilA)))) nxS) (retS (tupF (consA (ixKF [("and", "or"), ("or", "and"), ("true", "false"), ("false", "true")] (varF 1)) nilA)))))))
noncomputable def B__plain_not (r_plain r__plain_not : Fn) (a0 : PyData) : FR := outFR (S__plain_not r_plain r__plain_not [.d a0, .un, .un, .un])
noncomputable def R_plain : Nat → Fn × Fn
  | 0 => (noFn, noFn)
  | n + 1 => (fn1 (B_plain (R_plain n).1 (R_plain n).2), fn1 (B__plain_not (R_plain n).1 (R_plain n).2))
noncomputable def m_plain : Fn := (R_plain 24).1
noncomputable def m__plain_not : Fn := (R_plain 24).2
abbrev s__parts : Stmt := topS 35
theorem sc__parts : FnScope ["formula"] ["formula"] (defScope s__parts) := ⟨rfl, rfl, rfl, by decide +kernel, rfl, by decide +kernel, by decide +kernel⟩
noncomputable def S__parts : Rho → Out := (seqS (ifS (testF (binF dEq (binF dIx (varF 0) (cF (.int 0))) (cF (.str "not")))) (retS (tupF (consA (binF dIx (varF 0) (cF (.int 1))) nilA))) nxS) (seqS (ifS (testF (binF dIn3 (binF dIx (varF 0) (cF (.int 0))) (cF (.tuple [.str "and", .str "or"])))) (retS (binF dIx (varF 0) (cF (.int 1)))) nxS) (retS (tupF nilA))))
noncomputable def B__parts (a0 : PyData) : FR := outFR (S__parts [.d a0])
noncomputable def m__parts : Fn := fn1 B__parts
abbrev s__all_in : Stmt := topS 34
theorem sc__all_in : FnScope ["formula", "found", "waiting", "inner", "around", "part"] ["formula"] (defScope s__all_in) := ⟨rfl, rfl, rfl, by decide +kernel, rfl, by decide +kernel, by decide +kernel⟩
noncomputable def L__all_in_1 : Rho → Out := (seqS (asgS (popF 2) (tupT 2 (consTs (nameT 3) (consTs (nameT 4) nilTs)))) (seqS (appendS 1 (tupF (consA (varF 3) (consA (varF 4) nilA)))) (exlS 2 (lcO [5] (itemsQ (callF m__parts (consA (varF 3) nilA))) (nameT 5) yesT (tupF (consA (varF 5) (consA (binF dAdd (varF 4) (cF (.int 1))) nilA)))))))
noncomputable def S__all_in : Rho → Out := (seqS (parQ 1 2 0 0) (seqS (whileS (truO 2) L__all_in_1) (retS (varF 1))))
noncomputable def B__all_in (a0 : PyData) : FR := outFR (S__all_in [.d a0, .un, .un, .un, .un, .un])
noncomputable def m__all_in : Fn := fn1 B__all_in
abbrev s_unknowns_of : Stmt := topS 33
theorem sc_unknowns_of : FnScope ["formula", "inner", "_"] ["formula"] (defScope s_unknowns_of) := ⟨rfl, rfl, rfl, by decide +kernel, rfl, by decide +kernel, by decide +kernel⟩
noncomputable def S_unknowns_of : Rho → Out := (retS (callF m_unknowns (consA (lcF [1, 2] (itemsQ (callF m__all_in (consA (varF 0) nilA))) (tupT 2 (consTs (nameT 1) (consTs (nameT 2) nilTs))) (testF (binF dEq (binF dIx (varF 1) (cF (.int 0))) (cF (.str "row")))) (binF dIx (varF 1) (cF (.int 1)))) nilA)))
noncomputable def B_unknowns_of (a0 : PyData) : FR := outFR (S_unknowns_of [.d a0, .un, .un])
noncomputable def m_unknowns_of : Fn := fn1 B_unknowns_of
abbrev s__law_cell : Stmt := topS 37
theorem sc__law_cell : FnScope ["script", "k"] ["script", "k"] (defScope s__law_cell) := ⟨rfl, rfl, rfl, by decide +kernel, rfl, by decide +kernel, by decide +kernel⟩
noncomputable def S__law_cell : Rho → Out := (seqS (ifS (testF (binF dLt (varF 1) (appF (app1 bLen) (consA (varF 0) nilA)))) (retS (binF dIx (varF 0) (varF 1))) nxS) (retS (cF (.int 0))))
noncomputable def B__law_cell (a0 a1 : PyData) : FR := outFR (S__law_cell [.d a0, .d a1])
noncomputable def m__law_cell : Fn := fn2 B__law_cell
abbrev s__law_draw : Stmt := topS 38
theorem sc__law_draw : FnScope ["script", "k", "sizes", "cell", "drawn", "size", "mixed", "j"] ["script", "k", "sizes"] (defScope s__law_draw) := ⟨rfl, rfl, rfl, by decide +kernel, rfl, by decide +kernel, by decide +kernel⟩
noncomputable def L__law_draw_1 : Rho → Out := (seqS (appendS 4 (binF dMod (varF 3) (varF 5))) (asgS (binF dDiv (varF 3) (varF 5)) (nameT 3)))
noncomputable def L__law_draw_2 : Rho → Out := (seqS (asgS (binF dMod (binF dAdd (binF dAdd (binF dMul (varF 6) (cF (.int 48271))) (cF (.int 11))) (varF 7)) (cF (.int 2147483647))) (nameT 6)) (seqS (asgS (binF dMod (binF dAdd (binF dMul (varF 6) (cF (.int 69621))) (cF (.int 3))) (cF (.int 2147483647))) (nameT 6)) (appendS 4 (binF dMod (binF dDiv (varF 6) (cF (.int 7))) (binF dIx (varF 2) (varF 7))))))
noncomputable def S__law_draw : Rho → Out := (seqS (asgS (callF m__law_cell (consA (varF 0) (consA (varF 1) nilA))) (nameT 3)) (seqS (ifS (testF (binF dLt (varF 3) (cF (.int 0)))) (asgS (unF dNeg (varF 3)) (nameT 3)) nxS) (seqS (ownS nilA 4) (seqS (ifS (testF (binF dGe (varF 3) (binF dPow (cF (.int 10)) (cF (.int 18))))) (seqS (asgS (binF dSub (varF 3) (binF dPow (cF (.int 10)) (cF (.int 18)))) (nameT 3)) (seqS (forS (itemsQ (varF 2)) (nameT 5) L__law_draw_1) (retS (varF 4)))) nxS) (seqS (asgS (binF dMod (binF dAdd (binF dAdd (varF 3) (cF (.int 1))) (binF dMul (cF (.int 31)) (varF 1))) (cF (.int 2147483647))) (nameT 6)) (seqS (forS (range1F (consA (appF (app1 bLen) (consA (varF 2) nilA)) nilA)) (nameT 7) L__law_draw_2) (retS (varF 4))))))))
noncomputable def B__law_draw (a0 a1 a2 : PyData) : FR := outFR (S__law_draw [.d a0, .d a1, .d a2, .un, .un, .un, .un, .un])
noncomputable def m__law_draw : Fn := fn3 B__law_draw
abbrev s__law_row : Stmt := topS 39
theorem sc__law_row : FnScope ["digits", "at", "names", "pairs", "k", "number_v", "bound", "sign"] ["digits", "at"] (defScope s__law_row) := ⟨rfl, rfl, rfl, by decide +kernel, rfl, by decide +kernel, by decide +kernel⟩
noncomputable def L__law_row_1 : Rho → Out := (seqS (asgS (binF dSub (binF dMod (binF dIx (varF 0) (binF dMod (appF (app1 bInt) (consA (binF dAdd (varF 1) (varF 4)) nilA)) (appF (app1 bLen) (consA (varF 0) nilA)))) (cF (.int 7))) (cF (.int 3))) (nameT 5)) (seqS (ifS (testF (binF dEq (binF dMod (binF dIx (varF 0) (binF dMod (appF (app1 bInt) (consA (binF dAdd (varF 1) (cF (.int 5))) nilA)) (appF (app1 bLen) (consA (varF 0) nilA)))) (cF (.int 5))) (varF 4))) (asgS (cF (.int 0)) (nameT 5)) nxS) (appendS 3 (tupF (consA (binF dIx (varF 2) (varF 4)) (consA (tupF (consA (varF 5) (consA (cF (.int 1)) nilA))) nilA))))))
noncomputable def S__law_row : Rho → Out := (seqS (ownS (consA (cF (.str "x")) (consA (cF (.str "y")) (consA (cF (.str "z2")) nilA))) 2) (seqS (ownS nilA 3) (seqS (forS (range1F (consA (cF (.int 3)) nilA)) (nameT 4) L__law_row_1) (seqS (asgS (binF dSub (binF dMod (binF dIx (varF 0) (binF dMod (appF (app1 bInt) (consA (binF dAdd (varF 1) (cF (.int 3))) nilA)) (appF (app1 bLen) (consA (varF 0) nilA)))) (cF (.int 9))) (cF (.int 4))) (nameT 6)) (seqS (asgS (binF dIx (lstF (consA (cF (.str "<=")) (consA (cF (.str "<")) (consA (cF (.str "<=")) (consA (cF (.str "=")) (consA (cF (.str ">=")) (consA (cF (.str "<")) nilA))))))) (binF dMod (binF dIx (varF 0) (binF dMod (appF (app1 bInt) (consA (binF dAdd (varF 1) (cF (.int 4))) nilA)) (appF (app1 bLen) (consA (varF 0) nilA)))) (cF (.int 6)))) (nameT 7)) (seqS (ifS (testF (binF dEq (binF dMod (binF dIx (varF 0) (binF dMod (appF (app1 bInt) (consA (binF dAdd (varF 1) (cF (.int 6))) nilA)) (appF (app1 bLen) (consA (varF 0) nilA)))) (cF (.int 4))) (cF (.int 0)))) (retS (callF m_row (consA (varF 3) (consA (varF 7) (consA (tupF (consA (binF dAdd (binF dMul (cF (.int 2)) (varF 6)) (cF (.int 1))) (consA (cF (.int 2)) nilA))) nilA))))) nxS) (retS (callF m_row (consA (varF 3) (consA (varF 7) (consA (tupF (consA (varF 6) (consA (cF (.int 1)) nilA))) nilA)))))))))))
noncomputable def B__law_row (a0 a1 : PyData) : FR := outFR (S__law_row [.d a0, .d a1, .un, .un, .un, .un, .un, .un])
noncomputable def m__law_row : Fn := fn2 B__law_row
abbrev s__law_formula : Stmt := topS 40
theorem sc__law_formula : FnScope ["digits", "at", "depth", "kind", "first", "parts"] ["digits", "at", "depth"] (defScope s__law_formula) := ⟨rfl, rfl, rfl, by decide +kernel, rfl, by decide +kernel, by decide +kernel⟩
noncomputable def S__law_formula (r__law_formula : Fn) : Rho → Out := (seqS (asgS (binF dMod (binF dIx (varF 0) (binF dMod (appF (app1 bInt) (consA (varF 1) nilA)) (appF (app1 bLen) (consA (varF 0) nilA)))) (cF (.int 9))) (nameT 3)) (seqS (ifS (andT (testF (binF dEq (varF 3) (cF (.int 8)))) (testF (binF dEq (binF dMod (binF dIx (varF 0) (binF dMod (appF (app1 bInt) (consA (binF dAdd (varF 1) (cF (.int 1))) nilA)) (appF (app1 bLen) (consA (varF 0) nilA)))) (cF (.int 4))) (cF (.int 0))))) (retS (binF dIx (lstF (consA (tupF (consA (cF (.str "true")) nilA)) (consA (tupF (consA (cF (.str "false")) nilA)) nilA))) (binF dMod (binF dIx (varF 0) (binF dMod (appF (app1 bInt) (consA (binF dAdd (varF 1) (cF (.int 2))) nilA)) (appF (app1 bLen) (consA (varF 0) nilA)))) (cF (.int 2))))) nxS) (seqS (ifS (orT (testF (binF dEq (varF 2) (cF (.int 0)))) (orT (testF (binF dLt (varF 3) (cF (.int 3)))) (testF (binF dEq (varF 3) (cF (.int 8)))))) (retS (tupF (consA (cF (.str "row")) (consA (callF m__law_row (consA (varF 0) (consA (binF dAdd (varF 1) (cF (.int 1))) nilA))) nilA)))) nxS) (seqS (asgS (callF r__law_formula (consA (varF 0) (consA (binF dAdd (varF 1) (cF (.int 2))) (consA (binF dSub (varF 2) (cF (.int 1))) nilA)))) (nameT 4)) (seqS (ifS (testF (binF dEq (varF 3) (cF (.int 3)))) (retS (tupF (consA (cF (.str "not")) (consA (varF 4) nilA)))) nxS) (seqS (ownS (consA (varF 4) (consA (callF r__law_formula (consA (varF 0) (consA (binF dAdd (varF 1) (cF (.int 11))) (consA (binF dSub (varF 2) (cF (.int 1))) nilA)))) nilA)) 5) (seqS (ifS (testF (binF dEq (varF 3) (cF (.int 7)))) (appendS 5 (tupF (consA (cF (.str "row")) (consA (callF m__law_row (consA (varF 0) (consA (binF dAdd (varF 1) (cF (.int 5))) nilA))) nilA)))) nxS) (retS (tupF (consA (binF dIx (lstF (consA (cF (.str "and")) (consA (cF (.str "and")) (consA (cF (.str "or")) (consA (cF (.str "or")) nilA))))) (binF dSub (varF 3) (cF (.int 4)))) (consA (appF (app1 bTuple) (consA (varF 5) nilA)) nilA)))))))))))
noncomputable def B__law_formula (r__law_formula : Fn) (a0 a1 a2 : PyData) : FR := outFR (S__law_formula r__law_formula [.d a0, .d a1, .d a2, .un, .un, .un])
noncomputable def R__law_formula : Nat → Fn
  | 0 => noFn
  | n + 1 => fn3 (B__law_formula (R__law_formula n))
noncomputable def m__law_formula : Fn := (R__law_formula 24)
abbrev s__law_some : Stmt := topS 41
theorem sc__law_some : FnScope ["script", "k", "depth"] ["script", "k", "depth"] (defScope s__law_some) := ⟨rfl, rfl, rfl, by decide +kernel, rfl, by decide +kernel, by decide +kernel⟩
noncomputable def S__law_some : Rho → Out := (retS (callF m__law_formula (consA (callF m__law_draw (consA (varF 0) (consA (varF 1) (consA (repF (consA (cF (.int 97)) nilA) (cF (.int 40))) nilA)))) (consA (cF (.int 0)) (consA (varF 2) nilA)))))
noncomputable def B__law_some (a0 a1 a2 : PyData) : FR := outFR (S__law_some [.d a0, .d a1, .d a2])
noncomputable def m__law_some : Fn := fn3 B__law_some
abbrev s__law_number : Stmt := topS 42
theorem sc__law_number : FnScope ["top", "bottom", "one", "other"] ["top", "bottom"] (defScope s__law_number) := ⟨rfl, rfl, rfl, by decide +kernel, rfl, by decide +kernel, by decide +kernel⟩
noncomputable def L__law_number_1 : Rho → Out := (parS (consA (varF 3) (consA (binF dMod (varF 2) (varF 3)) nilA)) 2 3)
noncomputable def S__law_number : Rho → Out := (seqS (asgS (appF (app1 bAbs) (consA (varF 0) nilA)) (nameT 2)) (seqS (asgS (varF 1) (nameT 3)) (seqS (whileS (testF (binF dNe (varF 3) (cF (.int 0)))) L__law_number_1) (retS (tupF (consA (binF dDiv (varF 0) (varF 2)) (consA (binF dDiv (varF 1) (varF 2)) nilA)))))))
noncomputable def B__law_number (a0 a1 : PyData) : FR := outFR (S__law_number [.d a0, .d a1, .un, .un])
noncomputable def m__law_number : Fn := fn2 B__law_number
abbrev s__law_holds : Stmt := topS 43
theorem sc__law_holds : FnScope ["one", "point", "values", "name", "value_v", "top", "bottom", "number_v", "left", "right"] ["one", "point"] (defScope s__law_holds) := ⟨rfl, rfl, rfl, by decide +kernel, rfl, by decide +kernel, by decide +kernel⟩
noncomputable def L__law_holds_1 : Rho → Out := (putS 2 (varF 3) (varF 4))
noncomputable def L__law_holds_2 : Rho → Out := (seqS (asgS (dgetF 2 (varF 3) (tupF (consA (cF (.int 0)) (consA (cF (.int 1)) nilA)))) (nameT 4)) (seqS (asgS (binF dAdd (binF dMul (binF dMul (varF 5) (binF dIx (varF 7) (cF (.int 1)))) (binF dIx (varF 4) (cF (.int 1)))) (binF dMul (binF dMul (binF dIx (varF 7) (cF (.int 0))) (binF dIx (varF 4) (cF (.int 0)))) (varF 6))) (nameT 5)) (asgS (binF dMul (binF dMul (varF 6) (binF dIx (varF 7) (cF (.int 1)))) (binF dIx (varF 4) (cF (.int 1)))) (nameT 6))))
noncomputable def S__law_holds : Rho → Out := (seqS (newDS 2) (seqS (forS (itemsQ (varF 1)) (tupT 2 (consTs (nameT 3) (consTs (nameT 4) nilTs))) L__law_holds_1) (seqS (asgS (cF (.int 0)) (nameT 5)) (seqS (asgS (cF (.int 1)) (nameT 6)) (seqS (forS (itemsQ (binF dIx (varF 0) (cF (.int 0)))) (tupT 2 (consTs (nameT 3) (consTs (nameT 7) nilTs))) L__law_holds_2) (seqS (asgS (binF dMul (varF 5) (binF dIx (binF dIx (varF 0) (cF (.int 2))) (cF (.int 1)))) (nameT 8)) (seqS (asgS (binF dMul (binF dIx (binF dIx (varF 0) (cF (.int 2))) (cF (.int 0))) (varF 6)) (nameT 9)) (seqS (ifS (testF (binF dEq (binF dIx (varF 0) (cF (.int 1))) (cF (.str "=")))) (retS (binF dEq (varF 8) (varF 9))) nxS) (retS (orV (binF dLt (varF 8) (varF 9)) (andV (binF dEq (binF dIx (varF 0) (cF (.int 1))) (cF (.str "<="))) (binF dEq (varF 8) (varF 9)))))))))))))
noncomputable def B__law_holds (a0 a1 : PyData) : FR := outFR (S__law_holds [.d a0, .d a1, .un, .un, .un, .un, .un, .un, .un, .un])
noncomputable def m__law_holds : Fn := fn2 B__law_holds
abbrev s__law_true : Stmt := topS 44
theorem sc__law_true : FnScope ["formula", "point", "kind", "told", "part"] ["formula", "point"] (defScope s__law_true) := ⟨rfl, rfl, rfl, by decide +kernel, rfl, by decide +kernel, by decide +kernel⟩
noncomputable def S__law_true (r__law_true : Fn) : Rho → Out := (seqS (asgS (binF dIx (varF 0) (cF (.int 0))) (nameT 2)) (seqS (ifS (testF (binF dEq (varF 2) (cF (.str "row")))) (retS (callF m__law_holds (consA (binF dIx (varF 0) (cF (.int 1))) (consA (varF 1) nilA)))) nxS) (seqS (ifS (testF (binF dEq (varF 2) (cF (.str "not")))) (retS (notV (callF r__law_true (consA (binF dIx (varF 0) (cF (.int 1))) (consA (varF 1) nilA))))) nxS) (seqS (ifS (orT (testF (binF dEq (varF 2) (cF (.str "and")))) (testF (binF dEq (varF 2) (cF (.str "or"))))) (seqS (lcS 3 [4] (itemsQ (binF dIx (varF 0) (cF (.int 1)))) (nameT 4) yesT (callF r__law_true (consA (varF 4) (consA (varF 1) nilA)))) (seqS (ifS (testF (binF dEq (varF 2) (cF (.str "and")))) (retS (binF dNotIn3 (cF (.bool false)) (varF 3))) nxS) (retS (binF dIn3 (cF (.bool true)) (varF 3))))) nxS) (retS (binF dEq (varF 2) (cF (.str "true"))))))))
noncomputable def B__law_true (r__law_true : Fn) (a0 a1 : PyData) : FR := outFR (S__law_true r__law_true [.d a0, .d a1, .un, .un, .un])
noncomputable def R__law_true : Nat → Fn
  | 0 => noFn
  | n + 1 => fn2 (B__law_true (R__law_true n))
noncomputable def m__law_true : Fn := (R__law_true 24)
abbrev s__law_point : Stmt := topS 45
theorem sc__law_point : FnScope ["script", "k", "digits", "names", "point", "j"] ["script", "k"] (defScope s__law_point) := ⟨rfl, rfl, rfl, by decide +kernel, rfl, by decide +kernel, by decide +kernel⟩
noncomputable def L__law_point_1 : Rho → Out := (ifS (testF (binF dNe (binF dIx (varF 2) (cF (.int 4))) (varF 5))) (appendS 4 (tupF (consA (binF dIx (varF 3) (varF 5)) (consA (callF m__law_number (consA (binF dSub (binF dIx (varF 2) (varF 5)) (cF (.int 6))) (consA (binF dAdd (cF (.int 1)) (binF dIx (varF 2) (cF (.int 3)))) nilA))) nilA)))) nxS)
noncomputable def S__law_point : Rho → Out := (seqS (asgS (callF m__law_draw (consA (varF 0) (consA (varF 1) (consA (lstF (consA (cF (.int 13)) (consA (cF (.int 13)) (consA (cF (.int 13)) (consA (cF (.int 3)) (consA (cF (.int 9)) nilA)))))) nilA)))) (nameT 2)) (seqS (ownS (consA (cF (.str "x")) (consA (cF (.str "y")) (consA (cF (.str "z2")) nilA))) 3) (seqS (ownS nilA 4) (seqS (forS (range1F (consA (cF (.int 3)) nilA)) (nameT 5) L__law_point_1) (retS (appF (app1 bTuple) (consA (varF 4) nilA)))))))
noncomputable def B__law_point (a0 a1 : PyData) : FR := outFR (S__law_point [.d a0, .d a1, .un, .un, .un, .un])
noncomputable def m__law_point : Fn := fn2 B__law_point
abbrev s__law_opposite : Stmt := topS 46
theorem sc__law_opposite : FnScope ["one", "parts", "name", "number_v", "bound"] ["one"] (defScope s__law_opposite) := ⟨rfl, rfl, rfl, by decide +kernel, rfl, by decide +kernel, by decide +kernel⟩
noncomputable def S__law_opposite : Rho → Out := (seqS (asgS (appF (app1 bTuple) (consA (lcF [2, 3] (itemsQ (binF dIx (varF 0) (cF (.int 0)))) (tupT 2 (consTs (nameT 2) (consTs (nameT 3) nilTs))) yesT (tupF (consA (varF 2) (consA (tupF (consA (binF dSub (cF (.int 0)) (binF dIx (varF 3) (cF (.int 0)))) (consA (binF dIx (varF 3) (cF (.int 1))) nilA))) nilA)))) nilA)) (nameT 1)) (seqS (asgS (tupF (consA (binF dSub (cF (.int 0)) (binF dIx (binF dIx (varF 0) (cF (.int 2))) (cF (.int 0)))) (consA (binF dIx (binF dIx (varF 0) (cF (.int 2))) (cF (.int 1))) nilA))) (nameT 4)) (seqS (ifS (testF (binF dEq (binF dIx (varF 0) (cF (.int 1))) (cF (.str "<=")))) (retS (tupF (consA (cF (.str "row")) (consA (tupF (consA (varF 1) (consA (cF (.str "<")) (consA (varF 4) nilA)))) nilA)))) nxS) (seqS (ifS (testF (binF dEq (binF dIx (varF 0) (cF (.int 1))) (cF (.str "<")))) (retS (tupF (consA (cF (.str "row")) (consA (tupF (consA (varF 1) (consA (cF (.str "<=")) (consA (varF 4) nilA)))) nilA)))) nxS) (seqS (ifS (andT (testF (binF dEq (appF (app1 bLen) (consA (varF 1) nilA)) (cF (.int 0)))) (testF (binF dEq (binF dIx (binF dIx (varF 0) (cF (.int 2))) (cF (.int 0))) (cF (.int 0))))) (retS (tupF (consA (cF (.str "or")) (consA (tupF (consA (tupF (consA (cF (.str "row")) (consA (tupF (consA (varF 1) (consA (cF (.str "<")) (consA (varF 4) nilA)))) nilA))) (consA (tupF (consA (cF (.str "row")) (consA (tupF (consA (varF 1) (consA (cF (.str "<")) (consA (varF 4) nilA)))) nilA))) nilA))) nilA)))) nxS) (retS (tupF (consA (cF (.str "or")) (consA (tupF (consA (tupF (consA (cF (.str "row")) (consA (tupF (consA (binF dIx (varF 0) (cF (.int 0))) (consA (cF (.str "<")) (consA (binF dIx (varF 0) (cF (.int 2))) nilA)))) nilA))) (consA (tupF (consA (cF (.str "row")) (consA (tupF (consA (varF 1) (consA (cF (.str "<")) (consA (varF 4) nilA)))) nilA))) nilA))) nilA)))))))))
noncomputable def B__law_opposite (a0 : PyData) : FR := outFR (S__law_opposite [.d a0, .un, .un, .un, .un])
noncomputable def m__law_opposite : Fn := fn1 B__law_opposite
abbrev s__law_plain : Stmt := topS 47
theorem sc__law_plain : FnScope ["formula", "denied", "kind", "part"] ["formula", "denied"] (defScope s__law_plain) := ⟨rfl, rfl, rfl, by decide +kernel, rfl, by decide +kernel, by decide +kernel⟩
noncomputable def S__law_plain (r__law_plain : Fn) : Rho → Out := (seqS (asgS (binF dIx (varF 0) (cF (.int 0))) (nameT 2)) (seqS (ifS (testF (binF dEq (varF 2) (cF (.str "not")))) (retS (callF r__law_plain (consA (binF dIx (varF 0) (cF (.int 1))) (consA (notV (varF 1)) nilA)))) nxS) (seqS (ifS (orT (testF (binF dEq (varF 2) (cF (.str "and")))) (testF (binF dEq (varF 2) (cF (.str "or"))))) (seqS (ifS (truF (varF 1)) (asgS (binF dIx (lstF (consA (cF (.str "and")) (consA (cF (.str "or")) nilA))) (appF (app1 bInt) (consA (binF dEq (varF 2) (cF (.str "and"))) nilA))) (nameT 2)) nxS) (retS (tupF (consA (varF 2) (consA (appF (app1 bTuple) (consA (lcF [3] (itemsQ (binF dIx (varF 0) (cF (.int 1)))) (nameT 3) yesT (callF r__law_plain (consA (varF 3) (consA (varF 1) nilA)))) nilA)) nilA))))) nxS) (seqS (ifS (testF (binF dEq (varF 2) (cF (.str "row")))) (seqS (ifS (truF (varF 1)) (retS (callF m__law_opposite (consA (binF dIx (varF 0) (cF (.int 1))) nilA))) nxS) (retS (varF 0))) nxS) (seqS (ifS (truF (varF 1)) (retS (binF dIx (lstF (consA (tupF (consA (cF (.str "true")) nilA)) (consA (tupF (consA (cF (.str "false")) nilA)) nilA))) (appF (app1 bInt) (consA (binF dEq (varF 2) (cF (.str "true"))) nilA)))) nxS) (retS (varF 0)))))))
noncomputable def B__law_plain (r__law_plain : Fn) (a0 a1 : PyData) : FR := outFR (S__law_plain r__law_plain [.d a0, .d a1, .un, .un])
noncomputable def R__law_plain : Nat → Fn
  | 0 => noFn
  | n + 1 => fn2 (B__law_plain (R__law_plain n))
noncomputable def m__law_plain : Fn := (R__law_plain 24)
abbrev s__law_many : Stmt := topS 48
theorem sc__law_many : FnScope ["formula", "waiting", "turn"] ["formula"] (defScope s__law_many) := ⟨rfl, rfl, rfl, by decide +kernel, rfl, by decide +kernel, by decide +kernel⟩
noncomputable def L__law_many_1 : Rho → Out := (ifS (andT (testF (binF dLt (varF 2) (appF (app1 bLen) (consA (varF 1) nilA)))) (testF (binF dIn3 (binF dIx (binF dIx (varF 1) (varF 2)) (cF (.int 0))) (lstF (consA (cF (.str "and")) (consA (cF (.str "or")) nilA)))))) (asgS (binF dAdd (varF 1) (appF (app1 bList) (consA (binF dIx (binF dIx (varF 1) (varF 2)) (cF (.int 1))) nilA))) (nameT 1)) nxS)
noncomputable def S__law_many : Rho → Out := (seqS (ownS (consA (varF 0) nilA) 1) (seqS (forS (range1F (consA (cF (.int 60)) nilA)) (nameT 2) L__law_many_1) (retS (appF (app1 bLen) (consA (varF 1) nilA)))))
noncomputable def B__law_many (a0 : PyData) : FR := outFR (S__law_many [.d a0, .un, .un])
noncomputable def m__law_many : Fn := fn1 B__law_many
abbrev s_law : Stmt := topS 49
theorem sc_law : FnScope ["script", "w", "formula", "due", "j", "names", "waiting", "seen", "turn", "point", "told", "part", "name", "number_v"] ["script"] (defScope s_law) := ⟨rfl, rfl, rfl, by decide +kernel, rfl, by decide +kernel, by decide +kernel⟩
noncomputable def L_law_1 : Rho → Out := (seqS (asgS (callF m__law_point (consA (varF 0) (consA (binF dAdd (binF dAdd (binF dMul (cF (.int 4)) (varF 1)) (cF (.int 1))) (varF 4)) nilA))) (nameT 9)) (seqS (asgS (callF m_is_true (consA (varF 2) (consA (varF 9) nilA))) (nameT 10)) (seqS (ifS (orT (notT (truF (isaF "bool" (varF 10)))) (orT (testF (binF dNe (varF 10) (callF m__law_true (consA (varF 2) (consA (varF 9) nilA))))) (testF (binF dNe (callF m_is_true (consA (varF 3) (consA (varF 9) nilA))) (varF 10))))) (retS (cF (.bool false))) nxS) (ifS (andT (testF (binF dLt (callF m__law_many (consA (callF m__law_plain (consA (varF 2) (consA (cF (.bool true)) nilA))) nilA)) (cF (.int 41)))) (testF (binF dEq (callF m_is_true (consA (callF m_plain (consA (tupF (consA (cF (.str "not")) (consA (varF 2) nilA))) nilA)) (consA (varF 9) nilA))) (varF 10)))) (retS (cF (.bool false))) nxS))))
noncomputable def L_law_2 : Rho → Out := (ifS (testF (binF dLt (varF 8) (lenO 6))) (seqS (asgS (ixO 6 (varF 8)) (nameT 11)) (seqS (ifS (testF (binF dEq (binF dIx (varF 11) (cF (.int 0))) (cF (.str "row")))) (asgS (binF dAdd (varF 7) (lcO [12, 13] (itemsQ (binF dIx (binF dIx (varF 11) (cF (.int 1))) (cF (.int 0)))) (tupT 2 (consTs (nameT 12) (consTs (nameT 13) nilTs))) (testF (binF dNotIn3 (varF 12) (varF 7))) (varF 12))) (nameT 7)) nxS) (seqS (ifS (testF (binF dEq (binF dIx (varF 11) (cF (.int 0))) (cF (.str "not")))) (appendS 6 (binF dIx (varF 11) (cF (.int 1)))) nxS) (ifS (orT (testF (binF dEq (binF dIx (varF 11) (cF (.int 0))) (cF (.str "and")))) (testF (binF dEq (binF dIx (varF 11) (cF (.int 0))) (cF (.str "or"))))) (newS (catL (varF 6) (appF (app1 bList) (consA (binF dIx (varF 11) (cF (.int 1))) nilA))) 6) nxS)))) nxS)
noncomputable def L_law_3 : Rho → Out := (seqS (asgS (callF m__law_some (consA (varF 0) (consA (binF dMul (cF (.int 4)) (varF 1)) (consA (cF (.int 3)) nilA)))) (nameT 2)) (seqS (asgS (callF m__law_plain (consA (varF 2) (consA (cF (.bool false)) nilA))) (nameT 3)) (seqS (ifS (orT (testF (binF dNe (callF m_plain (consA (varF 2) nilA)) (varF 3))) (orT (testF (binF dNe (callF m_plain (consA (varF 3) nilA)) (varF 3))) (testF (binF dNe (callF m_plain (consA (tupF (consA (cF (.str "not")) (consA (varF 2) nilA))) nilA)) (callF m__law_plain (consA (varF 2) (consA (cF (.bool true)) nilA))))))) (retS (cF (.bool false))) nxS) (seqS (forS (range1F (consA (cF (.int 3)) nilA)) (nameT 4) L_law_1) (seqS (asgS (callF m_unknowns_of (consA (varF 2) nilA)) (nameT 5)) (seqS (ownS (consA (varF 2) nilA) 6) (seqS (ownS nilA 7) (seqS (forS (range1F (consA (cF (.int 60)) nilA)) (nameT 8) L_law_2) (ifS (testF (binF dNe (varF 5) (appF (app1 bSorted) (consA (varF 7) nilA)))) (retS (cF (.bool false))) nxS)))))))))
noncomputable def S_law : Rho → Out := (seqS (forS (range1F (consA (appF (app2 bMin) (consA (cF (.int 6)) (consA (binF dAdd (cF (.int 1)) (binF dDiv (appF (app1 bLen) (consA (varF 0) nilA)) (cF (.int 4)))) nilA))) nilA)) (nameT 1) L_law_3) (retS (cF (.bool true))))
noncomputable def B_law (a0 : PyData) : FR := outFR (S_law [.d a0, .un, .un, .un, .un, .un, .un, .un, .un, .un, .un, .un, .un, .un])
noncomputable def m_law : Fn := fn1 B_law
structure Txt (w : World) (K : PySem.W.Frag) (mg : Str → Option Value) : Prop where
  f_number : ∃ f fd, Fun K "number" "number" s_number f fd ∧ mg "number" = some (.ref f)
  f_plus : ∃ f fd, Fun K "plus" "plus" s_plus f fd ∧ mg "plus" = some (.ref f)
  f_minus : ∃ f fd, Fun K "minus" "minus" s_minus f fd ∧ mg "minus" = some (.ref f)
  f_times : ∃ f fd, Fun K "times" "times" s_times f fd ∧ mg "times" = some (.ref f)
  f_compare : ∃ f fd, Fun K "compare" "compare" s_compare f fd ∧ mg "compare" = some (.ref f)
  f_whole_factor : ∃ f fd, Fun K "whole_factor" "whole_factor" s_whole_factor f fd ∧ mg "whole_factor" = some (.ref f)
  f_added_up : ∃ f fd, Fun K "added_up" "added_up" s_added_up f fd ∧ mg "added_up" = some (.ref f)
  f_multiplied : ∃ f fd, Fun K "multiplied" "multiplied" s_multiplied f fd ∧ mg "multiplied" = some (.ref f)
  f_normal_factor : ∃ f fd, Fun K "normal_factor" "normal_factor" s_normal_factor f fd ∧ mg "normal_factor" = some (.ref f)
  f_normal : ∃ f fd, Fun K "normal" "normal" s_normal f fd ∧ mg "normal" = some (.ref f)
  f_row : ∃ f fd, Fun K "row" "row" s_row f fd ∧ mg "row" = some (.ref f)
  f_unknowns : ∃ f fd, Fun K "unknowns" "unknowns" s_unknowns f fd ∧ mg "unknowns" = some (.ref f)
  f_value : ∃ f fd, Fun K "value" "value" s_value f fd ∧ mg "value" = some (.ref f)
  f_holds : ∃ f fd, Fun K "holds" "holds" s_holds f fd ∧ mg "holds" = some (.ref f)
  f_opposites : ∃ f fd, Fun K "opposites" "opposites" s_opposites f fd ∧ mg "opposites" = some (.ref f)
  f_is_true : ∃ f fd, Fun K "is_true" "is_true" s_is_true f fd ∧ mg "is_true" = some (.ref f)
  f__joined : ∃ f fd, Fun K "_joined" "_joined" s__joined f fd ∧ mg "_joined" = some (.ref f)
  f_plain : ∃ f fd, Fun K "plain" "plain" s_plain f fd ∧ mg "plain" = some (.ref f)
  f__plain_not : ∃ f fd, Fun K "_plain_not" "_plain_not" s__plain_not f fd ∧ mg "_plain_not" = some (.ref f)
  f__parts : ∃ f fd, Fun K "_parts" "_parts" s__parts f fd ∧ mg "_parts" = some (.ref f)
  f__all_in : ∃ f fd, Fun K "_all_in" "_all_in" s__all_in f fd ∧ mg "_all_in" = some (.ref f)
  f_unknowns_of : ∃ f fd, Fun K "unknowns_of" "unknowns_of" s_unknowns_of f fd ∧ mg "unknowns_of" = some (.ref f)
  f__law_cell : ∃ f fd, Fun K "_law_cell" "_law_cell" s__law_cell f fd ∧ mg "_law_cell" = some (.ref f)
  f__law_draw : ∃ f fd, Fun K "_law_draw" "_law_draw" s__law_draw f fd ∧ mg "_law_draw" = some (.ref f)
  f__law_row : ∃ f fd, Fun K "_law_row" "_law_row" s__law_row f fd ∧ mg "_law_row" = some (.ref f)
  f__law_formula : ∃ f fd, Fun K "_law_formula" "_law_formula" s__law_formula f fd ∧ mg "_law_formula" = some (.ref f)
  f__law_some : ∃ f fd, Fun K "_law_some" "_law_some" s__law_some f fd ∧ mg "_law_some" = some (.ref f)
  f__law_number : ∃ f fd, Fun K "_law_number" "_law_number" s__law_number f fd ∧ mg "_law_number" = some (.ref f)
  f__law_holds : ∃ f fd, Fun K "_law_holds" "_law_holds" s__law_holds f fd ∧ mg "_law_holds" = some (.ref f)
  f__law_true : ∃ f fd, Fun K "_law_true" "_law_true" s__law_true f fd ∧ mg "_law_true" = some (.ref f)
  f__law_point : ∃ f fd, Fun K "_law_point" "_law_point" s__law_point f fd ∧ mg "_law_point" = some (.ref f)
  f__law_opposite : ∃ f fd, Fun K "_law_opposite" "_law_opposite" s__law_opposite f fd ∧ mg "_law_opposite" = some (.ref f)
  f__law_plain : ∃ f fd, Fun K "_law_plain" "_law_plain" s__law_plain f fd ∧ mg "_law_plain" = some (.ref f)
  f__law_many : ∃ f fd, Fun K "_law_many" "_law_many" s__law_many f fd ∧ mg "_law_many" = some (.ref f)
  f_law : ∃ f fd, Fun K "law" "law" s_law f fd ∧ mg "law" = some (.ref f)
  z_abs : mg "abs" = none
  z_all : mg "all" = none
  z_any : mg "any" = none
  z_bool : mg "bool" = none
  z_dict : mg "dict" = none
  z_int : mg "int" = none
  z_isinstance : mg "isinstance" = none
  z_len : mg "len" = none
  z_list : mg "list" = none
  z_min : mg "min" = none
  z_range : mg "range" = none
  z_sorted : mg "sorted" = none
  z_tuple : mg "tuple" = none
  z_gcd : mg "gcd" = some (.builtin "math.gcd")
  z_lcm : mg "lcm" = some (.builtin "math.lcm")
  x_NumberError : ∃ C, ExcTxt K mg "NumberError" C
  c_TURNED_formulas : KD w K mg "TURNED_formulas" [("and", "or"), ("or", "and"), ("true", "false"), ("false", "true")] ["<=", "<", "=", ">=", ">"]
  c_TURNED_rows : KD w K mg "TURNED_rows" [(">=", "<="), (">", "<")] ["<=", "<", "="]
  c_MINUS_ONE : ∃ v u, mg "MINUS_ONE" = some u ∧ RelV v u ∧ ∀ G : Hp, Dq K G v (.tuple [.int (-1), .int 1])
  c_ONE : ∃ v u, mg "ONE" = some u ∧ RelV v u ∧ ∀ G : Hp, Dq K G v (.tuple [.int 1, .int 1])
  c_ZERO : ∃ v u, mg "ZERO" = some u ∧ RelV v u ∧ ∀ G : Hp, Dq K G v (.tuple [.int 0, .int 1])
  c__JOINING : ∃ v u, mg "_JOINING" = some u ∧ RelV v u ∧ ∀ G : Hp, Dq K G v (.tuple [.str "and", .str "or"])
section
variable {P : Program} {w : World} {K : PySem.W.Frag} {mg : Str → Option Value} {base : Heap}
theorem d_number (T : Txt w K mg) : DefOk P w K mg base "number" 1 m_number := by
  obtain ⟨f, fd, F, hm⟩ := T.f_number
  have z_gcd := T.z_gcd
  obtain ⟨C_NumberError, x_NumberError⟩ := T.x_NumberError
  exact ⟨f, fd, ["top", "bottom"], fnD F sc_number S_number m_number (fn2_len _) (fn2_body fun _ _ => rfl) (fun cdv A outer s H E B W hr tk hp => (pds_cons (pd_if (pt_cmp' (op_eqD hr.units) rd_eq (nomark _) (pd_var 1) pd_int) (pds_one (pd_raise0 rfl tk PySem.F.excBase_ValueError x_NumberError.xP x_NumberError.gP x_NumberError.kP (raises_own x_NumberError.bP x_NumberError.tP))) pds_nil) (pds_cons (pd_set 2 sc_number.nd (pd_callM cr_gcd rd_gcd z_gcd (pda_cons (pd_var 0) (pda_cons (pd_var 1) pda_nil)))) (pds_cons (pd_if (pt_cmp' (op_lt.or op_lt_str) rd_lt (nomark _) (pd_var 1) pd_int) (pds_one (pd_set 2 sc_number.nd (pd_neg (pd_var 2)))) pds_nil) (pds_one (pd_ret (pd_tup (pda_cons (pd_div (pd_var 0) (pd_var 2)) (pda_cons (pd_div (pd_var 1) (pd_var 2)) pda_nil))))))))), hm, F.kp, F.binds fun _ _ _ _ _ _ us hl => match us, hl with | [_, _], _ => rfl⟩
theorem d_plus (T : Txt w K mg) : DefOk P w K mg base "plus" 2 m_plus := by
  obtain ⟨f, fd, F, hm⟩ := T.f_plus
  have d_number : DefOk P w K mg base "number" 1 m_number := d_number T
  exact ⟨f, fd, ["first", "second"], fnD F sc_plus S_plus m_plus (fn2_len _) (fn2_body fun _ _ => rfl) (fun cdv A outer s H E B W hr tk hp => (pds_cons (pd_asg (pd_var 0) (pgd_tup rfl (pgds_cons (pgd_name 2 sc_plus.nd) (pgds_cons (pgd_name 3 sc_plus.nd) pgds_nil)))) (pds_cons (pd_asg (pd_var 1) (pgd_tup rfl (pgds_cons (pgd_name 4 sc_plus.nd) (pgds_cons (pgd_name 5 sc_plus.nd) pgds_nil)))) (pds_one (pd_ret (pd_call d_number (hr.mono (by decide)) tk (pda_cons (pd_add (pd_mul (pd_var 2) (pd_var 5)) (pd_mul (pd_var 4) (pd_var 3))) (pda_cons (pd_mul (pd_var 3) (pd_var 5)) pda_nil)))))))), hm, F.kp, F.binds fun _ _ _ _ _ _ us hl => match us, hl with | [_, _], _ => rfl⟩
theorem d_minus (T : Txt w K mg) : DefOk P w K mg base "minus" 2 m_minus := by
  obtain ⟨f, fd, F, hm⟩ := T.f_minus
  have d_number : DefOk P w K mg base "number" 1 m_number := d_number T
  exact ⟨f, fd, ["first", "second"], fnD F sc_minus S_minus m_minus (fn2_len _) (fn2_body fun _ _ => rfl) (fun cdv A outer s H E B W hr tk hp => (pds_cons (pd_asg (pd_var 0) (pgd_tup rfl (pgds_cons (pgd_name 2 sc_minus.nd) (pgds_cons (pgd_name 3 sc_minus.nd) pgds_nil)))) (pds_cons (pd_asg (pd_var 1) (pgd_tup rfl (pgds_cons (pgd_name 4 sc_minus.nd) (pgds_cons (pgd_name 5 sc_minus.nd) pgds_nil)))) (pds_one (pd_ret (pd_call d_number (hr.mono (by decide)) tk (pda_cons (pd_sub (pd_mul (pd_var 2) (pd_var 5)) (pd_mul (pd_var 4) (pd_var 3))) (pda_cons (pd_mul (pd_var 3) (pd_var 5)) pda_nil)))))))), hm, F.kp, F.binds fun _ _ _ _ _ _ us hl => match us, hl with | [_, _], _ => rfl⟩
theorem d_times (T : Txt w K mg) : DefOk P w K mg base "times" 2 m_times := by
  obtain ⟨f, fd, F, hm⟩ := T.f_times
  have d_number : DefOk P w K mg base "number" 1 m_number := d_number T
  exact ⟨f, fd, ["first", "second"], fnD F sc_times S_times m_times (fn2_len _) (fn2_body fun _ _ => rfl) (fun cdv A outer s H E B W hr tk hp => (pds_one (pd_ret (pd_call d_number (hr.mono (by decide)) tk (pda_cons (pd_mul (pd_ix (pd_var 0) pd_int) (pd_ix (pd_var 1) pd_int)) (pda_cons (pd_mul (pd_ix (pd_var 0) pd_int) (pd_ix (pd_var 1) pd_int)) pda_nil)))))), hm, F.kp, F.binds fun _ _ _ _ _ _ us hl => match us, hl with | [_, _], _ => rfl⟩
theorem d_compare (T : Txt w K mg) : DefOk P w K mg base "compare" 1 m_compare := by
  obtain ⟨f, fd, F, hm⟩ := T.f_compare
  exact ⟨f, fd, ["first", "second"], fnD F sc_compare S_compare m_compare (fn2_len _) (fn2_body fun _ _ => rfl) (fun cdv A outer s H E B W hr tk hp => (pds_cons (pd_set 2 sc_compare.nd (pd_mul (pd_ix (pd_var 0) pd_int) (pd_ix (pd_var 1) pd_int))) (pds_cons (pd_set 3 sc_compare.nd (pd_mul (pd_ix (pd_var 1) pd_int) (pd_ix (pd_var 0) pd_int))) (pds_cons (pd_if (pt_cmp' (op_lt.or op_lt_str) rd_lt (nomark _) (pd_var 2) (pd_var 3)) (pds_one (pd_ret (pd_neg pd_int))) pds_nil) (pds_cons (pd_if (pt_cmp' op_gt rd_gt (nomark _) (pd_var 2) (pd_var 3)) (pds_one (pd_ret pd_int)) pds_nil) (pds_one (pd_ret pd_int))))))), hm, F.kp, F.binds fun _ _ _ _ _ _ us hl => match us, hl with | [_, _], _ => rfl⟩
theorem d_whole_factor (T : Txt w K mg) : DefOk P w K mg base "whole_factor" 2 m_whole_factor := by
  obtain ⟨f, fd, F, hm⟩ := T.f_whole_factor
  have d_number : DefOk P w K mg base "number" 1 m_number := d_number T
  have z_gcd := T.z_gcd
  have z_lcm := T.z_lcm
  exact ⟨f, fd, ["values"], fnD F sc_whole_factor S_whole_factor m_whole_factor (fn1_len _) (fn1_body fun _ => rfl) (fun cdv A outer s H E B W hr tk hp => (pds_cons (pd_asg (pd_tup (pda_cons pd_int (pda_cons pd_int pda_nil))) (pgd_tup rfl (pgds_cons (pgd_name 1 sc_whole_factor.nd) (pgds_cons (pgd_name 2 sc_whole_factor.nd) pgds_nil)))) (pds_cons (pd_for hp rfl (pid_seq (pd_var 0)) (pgd_tup rfl (pgds_cons (pgd_name 3 sc_whole_factor.nd) (pgds_cons (pgd_name 4 sc_whole_factor.nd) pgds_nil))) (pds_cons (pd_set 1 sc_whole_factor.nd (pd_callM cr_gcd rd_gcd z_gcd (pda_cons (pd_var 1) (pda_cons (pd_var 3) pda_nil)))) (pds_one (pd_set 2 sc_whole_factor.nd (pd_callM cr_lcm rd_lcm z_lcm (pda_cons (pd_var 2) (pda_cons (pd_var 4) pda_nil))))))) (pds_one (pd_ret (pd_call d_number (hr.mono (by decide)) tk (pda_cons (pd_var 2) (pda_cons (pd_var 1) pda_nil)))))))), hm, F.kp, F.binds fun _ _ _ _ _ _ us hl => match us, hl with | [_], _ => rfl⟩
theorem d_added_up (T : Txt w K mg) : DefOk P w K mg base "added_up" 3 m_added_up := by
  obtain ⟨f, fd, F, hm⟩ := T.f_added_up
  have d_plus : DefOk P w K mg base "plus" 2 m_plus := d_plus T
  have z_sorted := T.z_sorted
  have z_tuple := T.z_tuple
  obtain ⟨v_ZERO, u_ZERO, c_ZERO, r_ZERO, t_ZERO⟩ := T.c_ZERO
  exact ⟨f, fd, ["pairs"], fnD F sc_added_up S_added_up m_added_up (fn1_len _) (fn1_body fun _ => rfl) (fun cdv A outer s H E B W hr tk hp => (pds_cons (pd_newD 1 sc_added_up.nd) (pds_cons (pd_for hp rfl (pid_seq (pd_var 0)) (pgd_tup rfl (pgds_cons (pgd_name 2 sc_added_up.nd) (pgds_cons (pgd_name 3 sc_added_up.nd) pgds_nil))) (pds_one (pd_put 1 (hu1 hr) (pd_var 2) (pd_call d_plus (hr.mono (by decide)) tk (pda_cons (pd_dget 1 (hu1 hr) (pd_var 2) (pd_glob c_ZERO r_ZERO t_ZERO) ⟨rfl, rfl, rfl, rfl⟩) (pda_cons (pd_var 3) pda_nil)))))) (pds_one (pd_ret (pd_callTy call_tupleN rd_tuple z_tuple (by decide +kernel) (pda_cons (pd_lc (own := [("name", 2)]) rfl sc_added_up.nd (pid_seq (pd_dsort 1 rfl z_sorted)) (blkOk_by (N := ["pairs", "totals", "name", "amount"]) (sc := defScope s_added_up) (by decide +kernel)) (fun _ _ _ _ _ => (pgw_name 2 sc_added_up.nd)) (fun _ _ _ _ _ => (pts_oneD fun B => (pt_cmp' (op_neD hr.units) rd_ne (nomark _) (pd_dix 1 (hu1 hr) (pd_var 2)) (pd_glob c_ZERO r_ZERO t_ZERO)))) (fun _ _ _ _ _ B => (pd_tup (pda_cons (pd_var 2) (pda_cons (pd_dix 1 (hu1 hr) (pd_var 2)) pda_nil))))) pda_nil))))))), hm, F.kp, F.binds fun _ _ _ _ _ _ us hl => match us, hl with | [_], _ => rfl⟩
theorem d_multiplied (T : Txt w K mg) : DefOk P w K mg base "multiplied" 3 m_multiplied := by
  obtain ⟨f, fd, F, hm⟩ := T.f_multiplied
  have d_times : DefOk P w K mg base "times" 2 m_times := d_times T
  have z_tuple := T.z_tuple
  exact ⟨f, fd, ["pairs", "factor"], fnD F sc_multiplied S_multiplied m_multiplied (fn2_len _) (fn2_body fun _ _ => rfl) (fun cdv A outer s H E B W hr tk hp => (pds_one (pd_ret (pd_callTy call_tupleN rd_tuple z_tuple (by decide +kernel) (pda_cons (pd_lc (own := [("name", 2), ("amount", 3)]) rfl sc_multiplied.nd (pid_seq (pd_var 0)) (blkOk_by (N := ["pairs", "factor", "name", "amount"]) (sc := defScope s_multiplied) (by decide +kernel)) (fun _ _ _ _ _ => (pgw_tup rfl (pgws_cons (pgw_name 2 sc_multiplied.nd) (pgws_cons (pgw_name 3 sc_multiplied.nd) pgws_nil)))) (fun _ _ _ _ _ => pts_nilD) (fun _ _ _ _ _ B => (pd_tup (pda_cons (pd_var 2) (pda_cons (pd_call d_times (hr.mono (by decide)) takes0 (pda_cons (pd_var 3) (pda_cons (pd_var 1) pda_nil))) pda_nil))))) pda_nil))))), hm, F.kp, F.binds fun _ _ _ _ _ _ us hl => match us, hl with | [_, _], _ => rfl⟩
theorem d_normal_factor (T : Txt w K mg) : DefOk P w K mg base "normal_factor" 3 m_normal_factor := by
  obtain ⟨f, fd, F, hm⟩ := T.f_normal_factor
  have d_whole_factor : DefOk P w K mg base "whole_factor" 2 m_whole_factor := d_whole_factor T
  have d_compare : DefOk P w K mg base "compare" 1 m_compare := d_compare T
  have d_minus : DefOk P w K mg base "minus" 2 m_minus := d_minus T
  obtain ⟨v_ZERO, u_ZERO, c_ZERO, r_ZERO, t_ZERO⟩ := T.c_ZERO
  obtain ⟨v_ONE, u_ONE, c_ONE, r_ONE, t_ONE⟩ := T.c_ONE
  exact ⟨f, fd, ["some_row"], fnD F sc_normal_factor S_normal_factor m_normal_factor (fn1_len _) (fn1_body fun _ => rfl) (fun cdv A outer s H E B W hr tk hp => (pds_cons (pd_asg (pd_var 0) (pgd_tup rfl (pgds_cons (pgd_name 1 sc_normal_factor.nd) (pgds_cons (pgd_name 2 sc_normal_factor.nd) (pgds_cons (pgd_name 3 sc_normal_factor.nd) pgds_nil))))) (pds_cons (pd_if (PW.pt (pw_andD (pt_notD (pd_tru (pd_var 1))) (pw_and1 (pt_cmp' (op_eqD hr.units) rd_eq (nomark _) (pd_var 3) (pd_glob c_ZERO r_ZERO t_ZERO))))) (pds_one (pd_ret (pd_glob c_ONE r_ONE t_ONE))) pds_nil) (pds_cons (pd_set 4 sc_normal_factor.nd (pd_orL (pd_lc (own := [("_", 5), ("amount", 6)]) rfl sc_normal_factor.nd (pid_seq (pd_var 1)) (blkOk_by (N := ["some_row", "parts", "sign", "bound", "amounts", "_", "amount", "factor"]) (sc := defScope s_normal_factor) (by decide +kernel)) (fun _ _ _ _ _ => (pgw_tup rfl (pgws_cons (pgw_name 5 sc_normal_factor.nd) (pgws_cons (pgw_name 6 sc_normal_factor.nd) pgws_nil)))) (fun _ _ _ _ _ => pts_nilD) (fun _ _ _ _ _ B => (pd_var 6))) (pe_one (pd_lst (pda_cons (pd_var 3) pda_nil))))) (pds_cons (pd_set 7 sc_normal_factor.nd (pd_call d_whole_factor (hr.mono (by decide)) tk (pda_cons (pd_var 4) pda_nil))) (pds_cons (pd_if (PW.pt (pw_andD (pt_cmp' (op_eqD hr.units) rd_eq (nomark _) (pd_var 2) pd_str) (pw_and1 (pt_cmp' (op_lt.or op_lt_str) rd_lt (nomark _) (pd_call d_compare (hr.mono (by decide)) tk (pda_cons (pd_ix (pd_var 4) pd_int) (pda_cons (pd_glob c_ZERO r_ZERO t_ZERO) pda_nil))) pd_int)))) (pds_one (pd_ret (pd_call d_minus (hr.mono (by decide)) tk (pda_cons (pd_glob c_ZERO r_ZERO t_ZERO) (pda_cons (pd_var 7) pda_nil))))) pds_nil) (pds_one (pd_ret (pd_var 7))))))))), hm, F.kp, F.binds fun _ _ _ _ _ _ us hl => match us, hl with | [_], _ => rfl⟩
theorem d_normal (T : Txt w K mg) : DefOk P w K mg base "normal" 4 m_normal := by
  obtain ⟨f, fd, F, hm⟩ := T.f_normal
  have d_normal_factor : DefOk P w K mg base "normal_factor" 3 m_normal_factor := d_normal_factor T
  have d_times : DefOk P w K mg base "times" 2 m_times := d_times T
  have d_multiplied : DefOk P w K mg base "multiplied" 3 m_multiplied := d_multiplied T
  exact ⟨f, fd, ["some_row"], fnD F sc_normal S_normal m_normal (fn1_len _) (fn1_body fun _ => rfl) (fun cdv A outer s H E B W hr tk hp => (pds_cons (pd_asg (pd_var 0) (pgd_tup rfl (pgds_cons (pgd_name 1 sc_normal.nd) (pgds_cons (pgd_name 2 sc_normal.nd) (pgds_cons (pgd_name 3 sc_normal.nd) pgds_nil))))) (pds_cons (pd_set 4 sc_normal.nd (pd_call d_normal_factor (hr.mono (by decide)) tk (pda_cons (pd_var 0) pda_nil))) (pds_one (pd_ret (pd_tup (pda_cons (pd_call d_multiplied (hr.mono (by decide)) tk (pda_cons (pd_var 1) (pda_cons (pd_var 4) pda_nil))) (pda_cons (pd_var 2) (pda_cons (pd_call d_times (hr.mono (by decide)) tk (pda_cons (pd_var 3) (pda_cons (pd_var 4) pda_nil))) pda_nil))))))))), hm, F.kp, F.binds fun _ _ _ _ _ _ us hl => match us, hl with | [_], _ => rfl⟩
theorem d_row (T : Txt w K mg) : DefOk P w K mg base "row" 5 m_row := by
  obtain ⟨f, fd, F, hm⟩ := T.f_row
  have d_added_up : DefOk P w K mg base "added_up" 3 m_added_up := d_added_up T
  have d_minus : DefOk P w K mg base "minus" 2 m_minus := d_minus T
  have d_multiplied : DefOk P w K mg base "multiplied" 3 m_multiplied := d_multiplied T
  have d_normal : DefOk P w K mg base "normal" 4 m_normal := d_normal T
  have c_TURNED_rows := T.c_TURNED_rows
  obtain ⟨v_ZERO, u_ZERO, c_ZERO, r_ZERO, t_ZERO⟩ := T.c_ZERO
  obtain ⟨v_MINUS_ONE, u_MINUS_ONE, c_MINUS_ONE, r_MINUS_ONE, t_MINUS_ONE⟩ := T.c_MINUS_ONE
  exact ⟨f, fd, ["pairs", "sign", "bound"], fnD F sc_row S_row m_row (fn3_len _) (fn3_body fun _ _ _ => rfl) (fun cdv A outer s H E B W hr tk hp => (pds_cons (pd_set 3 sc_row.nd (pd_call d_added_up (hr.mono (by decide)) tk (pda_cons (pd_var 0) pda_nil))) (pds_cons (pd_if (pt_inK c_TURNED_rows (pd_var 1)) (pds_one (pd_ret (pd_call d_normal (hr.mono (by decide)) tk (pda_cons (pd_tup (pda_cons (pd_call d_multiplied (hr.mono (by decide)) tk (pda_cons (pd_var 3) (pda_cons (pd_glob c_MINUS_ONE r_MINUS_ONE t_MINUS_ONE) pda_nil))) (pda_cons (pd_ixK c_TURNED_rows (pd_var 1)) (pda_cons (pd_call d_minus (hr.mono (by decide)) tk (pda_cons (pd_glob c_ZERO r_ZERO t_ZERO) (pda_cons (pd_var 2) pda_nil))) pda_nil)))) pda_nil)))) pds_nil) (pds_one (pd_ret (pd_call d_normal (hr.mono (by decide)) tk (pda_cons (pd_tup (pda_cons (pd_var 3) (pda_cons (pd_var 1) (pda_cons (pd_var 2) pda_nil)))) pda_nil))))))), hm, F.kp, F.binds fun _ _ _ _ _ _ us hl => match us, hl with | [_, _, _], _ => rfl⟩
theorem d_unknowns (T : Txt w K mg) : DefOk P w K mg base "unknowns" 1 m_unknowns := by
  obtain ⟨f, fd, F, hm⟩ := T.f_unknowns
  have z_sorted := T.z_sorted
  exact ⟨f, fd, ["system"], fnD F sc_unknowns S_unknowns m_unknowns (fn1_len _) (fn1_body fun _ => rfl) (fun cdv A outer s H E B W hr tk hp => (pds_one (pd_ret (pd_sortSet (own := [("parts", 1), ("_", 2), ("unknown", 3)]) rfl sc_unknowns.nd z_sorted (pid_seq (pd_var 0)) (blkOk_by (N := ["system", "parts", "_", "unknown"]) (sc := defScope s_unknowns) (by decide +kernel)) (fun _ _ _ _ _ => (pgw_tup rfl (pgws_cons (pgw_name 1 sc_unknowns.nd) (pgws_cons (pgw_name 2 sc_unknowns.nd) (pgws_cons (pgw_name 2 sc_unknowns.nd) pgws_nil))))) (fun _ _ _ _ _ B => (pid_seq (pd_var 1))) (fun _ _ _ _ _ => (pgw_tup rfl (pgws_cons (pgw_name 3 sc_unknowns.nd) (pgws_cons (pgw_name 2 sc_unknowns.nd) pgws_nil)))) (fun _ _ _ _ _ B => (pd_var 3)))))), hm, F.kp, F.binds fun _ _ _ _ _ _ us hl => match us, hl with | [_], _ => rfl⟩
theorem d_value (T : Txt w K mg) : DefOk P w K mg base "value" 3 m_value := by
  obtain ⟨f, fd, F, hm⟩ := T.f_value
  have d_times : DefOk P w K mg base "times" 2 m_times := d_times T
  have d_plus : DefOk P w K mg base "plus" 2 m_plus := d_plus T
  have z_dict := T.z_dict
  obtain ⟨v_ZERO, u_ZERO, c_ZERO, r_ZERO, t_ZERO⟩ := T.c_ZERO
  exact ⟨f, fd, ["some_term", "point"], fnD F sc_value S_value m_value (fn2_len _) (fn2_body fun _ _ => rfl) (fun cdv A outer s H E B W hr tk hp => (pds_cons (pd_asg (pd_var 0) (pgd_tup rfl (pgds_cons (pgd_name 2 sc_value.nd) (pgds_cons (pgd_name 3 sc_value.nd) pgds_nil)))) (pds_cons (pd_dict 4 rfl sc_value.nd z_dict (pd_var 1)) (pds_cons (pd_for hp rfl (pid_seq (pd_var 2)) (pgd_tup rfl (pgds_cons (pgd_name 5 sc_value.nd) (pgds_cons (pgd_name 6 sc_value.nd) pgds_nil))) (pds_one (pd_set 3 sc_value.nd (pd_call d_plus (hr.mono (by decide)) tk (pda_cons (pd_var 3) (pda_cons (pd_call d_times (hr.mono (by decide)) tk (pda_cons (pd_var 6) (pda_cons (pd_dget 4 (hu1 hr) (pd_var 5) (pd_glob c_ZERO r_ZERO t_ZERO) ⟨rfl, rfl, rfl, rfl⟩) pda_nil))) pda_nil)))))) (pds_one (pd_ret (pd_var 3))))))), hm, F.kp, F.binds fun _ _ _ _ _ _ us hl => match us, hl with | [_, _], _ => rfl⟩
theorem d_holds (T : Txt w K mg) : DefOk P w K mg base "holds" 4 m_holds := by
  obtain ⟨f, fd, F, hm⟩ := T.f_holds
  have d_value : DefOk P w K mg base "value" 3 m_value := d_value T
  have d_compare : DefOk P w K mg base "compare" 1 m_compare := d_compare T
  obtain ⟨v_ZERO, u_ZERO, c_ZERO, r_ZERO, t_ZERO⟩ := T.c_ZERO
  exact ⟨f, fd, ["some_row", "point"], fnD F sc_holds S_holds m_holds (fn2_len _) (fn2_body fun _ _ => rfl) (fun cdv A outer s H E B W hr tk hp => (pds_cons (pd_asg (pd_var 0) (pgd_tup rfl (pgds_cons (pgd_name 2 sc_holds.nd) (pgds_cons (pgd_name 3 sc_holds.nd) (pgds_cons (pgd_name 4 sc_holds.nd) pgds_nil))))) (pds_cons (pd_set 5 sc_holds.nd (pd_call d_compare (hr.mono (by decide)) tk (pda_cons (pd_call d_value (hr.mono (by decide)) tk (pda_cons (pd_tup (pda_cons (pd_var 2) (pda_cons (pd_glob c_ZERO r_ZERO t_ZERO) pda_nil))) (pda_cons (pd_var 1) pda_nil))) (pda_cons (pd_var 4) pda_nil)))) (pds_cons (pd_if (pt_cmp' (op_eqD hr.units) rd_eq (nomark _) (pd_var 3) pd_str) (pds_one (pd_ret (pd_cmp (op_eqD hr.units) rd_eq (nomark _) (pd_var 5) pd_int))) pds_nil) (pds_cons (pd_if (pt_cmp' (op_eqD hr.units) rd_eq (nomark _) (pd_var 3) pd_str) (pds_one (pd_ret (pd_cmp (op_lt.or op_lt_str) rd_lt (nomark _) (pd_var 5) pd_int))) pds_nil) (pds_one (pd_ret (pd_cmp op_le rd_le (nomark _) (pd_var 5) pd_int)))))))), hm, F.kp, F.binds fun _ _ _ _ _ _ us hl => match us, hl with | [_, _], _ => rfl⟩
theorem d_opposites (T : Txt w K mg) : DefOk P w K mg base "opposites" 6 m_opposites := by
  obtain ⟨f, fd, F, hm⟩ := T.f_opposites
  have d_row : DefOk P w K mg base "row" 5 m_row := d_row T
  exact ⟨f, fd, ["some_row"], fnD F sc_opposites S_opposites m_opposites (fn1_len _) (fn1_body fun _ => rfl) (fun cdv A outer s H E B W hr tk hp => (pds_cons (pd_asg (pd_var 0) (pgd_tup rfl (pgds_cons (pgd_name 1 sc_opposites.nd) (pgds_cons (pgd_name 2 sc_opposites.nd) (pgds_cons (pgd_name 3 sc_opposites.nd) pgds_nil))))) (pds_cons (pd_if (pt_cmp' (op_eqD hr.units) rd_eq (nomark _) (pd_var 2) pd_str) (pds_one (pd_ret (pd_lst (pda_cons (pd_call d_row (hr.mono (by decide)) tk (pda_cons (pd_var 1) (pda_cons pd_str (pda_cons (pd_var 3) pda_nil)))) pda_nil)))) pds_nil) (pds_cons (pd_if (pt_cmp' (op_eqD hr.units) rd_eq (nomark _) (pd_var 2) pd_str) (pds_one (pd_ret (pd_lst (pda_cons (pd_call d_row (hr.mono (by decide)) tk (pda_cons (pd_var 1) (pda_cons pd_str (pda_cons (pd_var 3) pda_nil)))) pda_nil)))) pds_nil) (pds_one (pd_ret (pd_lst (pda_cons (pd_call d_row (hr.mono (by decide)) tk (pda_cons (pd_var 1) (pda_cons pd_str (pda_cons (pd_var 3) pda_nil)))) (pda_cons (pd_call d_row (hr.mono (by decide)) tk (pda_cons (pd_var 1) (pda_cons pd_str (pda_cons (pd_var 3) pda_nil)))) pda_nil))))))))), hm, F.kp, F.binds fun _ _ _ _ _ _ us hl => match us, hl with | [_], _ => rfl⟩
theorem db_is_true (T : Txt w K mg) (k : Nat) : DefOk P w K mg base "is_true" (k + 1) noFn := by
  obtain ⟨f, fd, F, hm⟩ := T.f_is_true
  exact ⟨f, fd, ["formula", "point"], fnD F sc_is_true badS noFn (fun _ h => absurd rfl h) (fun _ h => absurd rfl h) (fun cdv A outer s H E B W hr tk hp => pds_bad), hm, F.kp, F.binds fun _ _ _ _ _ _ us hl => match us, hl with | [_, _], _ => rfl⟩
theorem dr_is_true (T : Txt w K mg) : ∀ n, DefOk P w K mg base "is_true" (5 + n) (R_is_true n)
  | 0 => db_is_true T 4
  | n + 1 => by
    obtain d_is_true := dr_is_true T n
    have d_holds : DefOk P w K mg base "holds" 4 m_holds := d_holds T
    have z_all := T.z_all
    have z_any := T.z_any
    show DefOk P w K mg base "is_true" (5 + n + 1) (fn2 (B_is_true (R_is_true n)))
    · obtain ⟨f, fd, F, hm⟩ := T.f_is_true
      exact ⟨f, fd, ["formula", "point"], fnD F sc_is_true (S_is_true (R_is_true n)) (fn2 (B_is_true (R_is_true n))) (fn2_len _) (fn2_body fun _ _ => rfl) (fun cdv A outer s H E B W hr tk hp => (pds_cons (pd_set 2 sc_is_true.nd (pd_ix (pd_var 0) pd_int)) (pds_cons (pd_if (pt_cmp' (op_eqD hr.units) rd_eq (nomark _) (pd_var 2) pd_str) (pds_one (pd_ret (pd_call d_holds (hr.mono (by omega)) tk (pda_cons (pd_ix (pd_var 0) pd_int) (pda_cons (pd_var 1) pda_nil))))) pds_nil) (pds_cons (pd_if (pt_cmp' (op_eqD hr.units) rd_eq (nomark _) (pd_var 2) pd_str) (pds_one (pd_ret (pd_not (pd_call d_is_true (hr.mono (by omega)) tk (pda_cons (pd_ix (pd_var 0) pd_int) (pda_cons (pd_var 1) pda_nil)))))) pds_nil) (pds_cons (pd_if (pt_cmp' (op_eqD hr.units) rd_eq (nomark _) (pd_var 2) pd_str) (pds_one (pd_ret (pd_callB (cr_all rfl) rd_all z_all (by decide +kernel) (pda_cons (pd_lc (own := [("part", 3)]) rfl sc_is_true.nd (pid_seq (pd_ix (pd_var 0) pd_int)) (blkOk_by (N := ["formula", "point", "word", "part"]) (sc := defScope s_is_true) (by decide +kernel)) (fun _ _ _ _ _ => (pgw_name 3 sc_is_true.nd)) (fun _ _ _ _ _ => pts_nilD) (fun _ _ _ _ _ B => (pd_call d_is_true (hr.mono (by omega)) takes0 (pda_cons (pd_var 3) (pda_cons (pd_var 1) pda_nil))))) pda_nil)))) pds_nil) (pds_cons (pd_if (pt_cmp' (op_eqD hr.units) rd_eq (nomark _) (pd_var 2) pd_str) (pds_one (pd_ret (pd_callB (cr_any rfl) rd_any z_any (by decide +kernel) (pda_cons (pd_lc (own := [("part", 3)]) rfl sc_is_true.nd (pid_seq (pd_ix (pd_var 0) pd_int)) (blkOk_by (N := ["formula", "point", "word", "part"]) (sc := defScope s_is_true) (by decide +kernel)) (fun _ _ _ _ _ => (pgw_name 3 sc_is_true.nd)) (fun _ _ _ _ _ => pts_nilD) (fun _ _ _ _ _ B => (pd_call d_is_true (hr.mono (by omega)) takes0 (pda_cons (pd_var 3) (pda_cons (pd_var 1) pda_nil))))) pda_nil)))) pds_nil) (pds_one (pd_ret (pd_cmp (op_eqD hr.units) rd_eq (nomark _) (pd_var 2) pd_str))))))))), hm, F.kp, F.binds fun _ _ _ _ _ _ us hl => match us, hl with | [_, _], _ => rfl⟩
theorem d_is_true (T : Txt w K mg) : DefOk P w K mg base "is_true" 29 m_is_true := (dr_is_true T 24)
theorem d__joined (T : Txt w K mg) : DefOk P w K mg base "_joined" 1 m__joined := by
  obtain ⟨f, fd, F, hm⟩ := T.f__joined
  have z_len := T.z_len
  have z_tuple := T.z_tuple
  exact ⟨f, fd, ["word", "formulas"], fnD F sc__joined S__joined m__joined (fn2_len _) (fn2_body fun _ _ => rfl) (fun cdv A outer s H E B W hr tk hp => (pds_cons (pd_if (pt_cmp' (op_eqD hr.units) rd_eq (nomark _) (pd_callB call_len rd_len z_len (by decide +kernel) (pda_cons (pd_var 1) pda_nil)) pd_int) (pds_one (pd_ret (pd_ix (pd_var 1) pd_int))) pds_nil) (pds_one (pd_ret (pd_tup (pda_cons (pd_var 0) (pda_cons (pd_callTy call_tupleN rd_tuple z_tuple (by decide +kernel) (pda_cons (pd_var 1) pda_nil)) pda_nil))))))), hm, F.kp, F.binds fun _ _ _ _ _ _ us hl => match us, hl with | [_, _], _ => rfl⟩
theorem db_plain (T : Txt w K mg) (k : Nat) : DefOk P w K mg base "plain" (k + 1) noFn := by
  obtain ⟨f, fd, F, hm⟩ := T.f_plain
  exact ⟨f, fd, ["formula"], fnD F sc_plain badS noFn (fun _ h => absurd rfl h) (fun _ h => absurd rfl h) (fun cdv A outer s H E B W hr tk hp => pds_bad), hm, F.kp, F.binds fun _ _ _ _ _ _ us hl => match us, hl with | [_], _ => rfl⟩
theorem db__plain_not (T : Txt w K mg) (k : Nat) : DefOk P w K mg base "_plain_not" (k + 1) noFn := by
  obtain ⟨f, fd, F, hm⟩ := T.f__plain_not
  exact ⟨f, fd, ["formula"], fnD F sc__plain_not badS noFn (fun _ h => absurd rfl h) (fun _ h => absurd rfl h) (fun cdv A outer s H E B W hr tk hp => pds_bad), hm, F.kp, F.binds fun _ _ _ _ _ _ us hl => match us, hl with | [_], _ => rfl⟩
theorem dr_plain (T : Txt w K mg) : ∀ n, DefOk P w K mg base "plain" (7 + n) (R_plain n).1 ∧ DefOk P w K mg base "_plain_not" (7 + n) (R_plain n).2
  | 0 => ⟨db_plain T 6, db__plain_not T 6⟩
  | n + 1 => by
    obtain ⟨d_plain, d__plain_not⟩ := dr_plain T n
    have d_opposites : DefOk P w K mg base "opposites" 6 m_opposites := d_opposites T
    have d__joined : DefOk P w K mg base "_joined" 1 m__joined := d__joined T
    have z_tuple := T.z_tuple
    obtain ⟨v__JOINING, u__JOINING, c__JOINING, r__JOINING, t__JOINING⟩ := T.c__JOINING
    have c_TURNED_formulas := T.c_TURNED_formulas
    show DefOk P w K mg base "plain" (7 + n + 1) (fn1 (B_plain (R_plain n).1 (R_plain n).2)) ∧ DefOk P w K mg base "_plain_not" (7 + n + 1) (fn1 (B__plain_not (R_plain n).1 (R_plain n).2))
    refine ⟨?_, ?_⟩
    · obtain ⟨f, fd, F, hm⟩ := T.f_plain
      exact ⟨f, fd, ["formula"], fnD F sc_plain (S_plain (R_plain n).1 (R_plain n).2) (fn1 (B_plain (R_plain n).1 (R_plain n).2)) (fn1_len _) (fn1_body fun _ => rfl) (fun cdv A outer s H E B W hr tk hp => (pds_cons (pd_set 1 sc_plain.nd (pd_ix (pd_var 0) pd_int)) (pds_cons (pd_if (pt_cmp' (op_eqD hr.units) rd_eq (nomark _) (pd_var 1) pd_str) (pds_one (pd_ret (pd_call d__plain_not (hr.mono (by omega)) tk (pda_cons (pd_ix (pd_var 0) pd_int) pda_nil)))) pds_nil) (pds_cons (pd_if (pt_cmp' (op_in3 (hu65 hr)) rd_in3 rfl (pd_var 1) (pd_glob c__JOINING r__JOINING t__JOINING)) (pds_one (pd_ret (pd_tup (pda_cons (pd_var 1) (pda_cons (pd_callTy call_tupleN rd_tuple z_tuple (by decide +kernel) (pda_cons (pd_lc (own := [("part", 2)]) rfl sc_plain.nd (pid_seq (pd_ix (pd_var 0) pd_int)) (blkOk_by (N := ["formula", "word", "part"]) (sc := defScope s_plain) (by decide +kernel)) (fun _ _ _ _ _ => (pgw_name 2 sc_plain.nd)) (fun _ _ _ _ _ => pts_nilD) (fun _ _ _ _ _ B => (pd_call d_plain (hr.mono (by omega)) takes0 (pda_cons (pd_var 2) pda_nil)))) pda_nil)) pda_nil))))) pds_nil) (pds_one (pd_ret (pd_var 0))))))), hm, F.kp, F.binds fun _ _ _ _ _ _ us hl => match us, hl with | [_], _ => rfl⟩
    · obtain ⟨f, fd, F, hm⟩ := T.f__plain_not
      exact ⟨f, fd, ["formula"], fnD F sc__plain_not (S__plain_not (R_plain n).1 (R_plain n).2) (fn1 (B__plain_not (R_plain n).1 (R_plain n).2)) (fn1_len _) (fn1_body fun _ => rfl) (fun cdv A outer s H E B W hr tk hp => (pds_cons (pd_set 1 sc__plain_not.nd (pd_ix (pd_var 0) pd_int)) (pds_cons (pd_if (pt_cmp' (op_eqD hr.units) rd_eq (nomark _) (pd_var 1) pd_str) (pds_one (pd_ret (pd_call d_plain (hr.mono (by omega)) tk (pda_cons (pd_ix (pd_var 0) pd_int) pda_nil)))) pds_nil) (pds_cons (pd_if (pt_cmp' (op_in3 (hu65 hr)) rd_in3 rfl (pd_var 1) (pd_glob c__JOINING r__JOINING t__JOINING)) (pds_one (pd_ret (pd_tup (pda_cons (pd_ixK c_TURNED_formulas (pd_var 1)) (pda_cons (pd_callTy call_tupleN rd_tuple z_tuple (by decide +kernel) (pda_cons (pd_lc (own := [("part", 2)]) rfl sc__plain_not.nd (pid_seq (pd_ix (pd_var 0) pd_int)) (blkOk_by (N := ["formula", "word", "part", "opposite"]) (sc := defScope s__plain_not) (by decide +kernel)) (fun _ _ _ _ _ => (pgw_name 2 sc__plain_not.nd)) (fun _ _ _ _ _ => pts_nilD) (fun _ _ _ _ _ B => (pd_call d__plain_not (hr.mono (by omega)) takes0 (pda_cons (pd_var 2) pda_nil)))) pda_nil)) pda_nil))))) pds_nil) (pds_cons (pd_if (pt_cmp' (op_eqD hr.units) rd_eq (nomark _) (pd_var 1) pd_str) (pds_one (pd_ret (pd_call d__joined (hr.mono (by omega)) tk (pda_cons pd_str (pda_cons (pd_lc (own := [("opposite", 3)]) rfl sc__plain_not.nd (pid_seq (pd_call d_opposites (hr.mono (by omega)) tk (pda_cons (pd_ix (pd_var 0) pd_int) pda_nil))) (blkOk_by (N := ["formula", "word", "part", "opposite"]) (sc := defScope s__plain_not) (by decide +kernel)) (fun _ _ _ _ _ => (pgw_name 3 sc__plain_not.nd)) (fun _ _ _ _ _ => pts_nilD) (fun _ _ _ _ _ B => (pd_tup (pda_cons pd_str (pda_cons (pd_var 3) pda_nil))))) pda_nil))))) pds_nil) (pds_one (pd_ret (pd_tup (pda_cons (pd_ixK c_TURNED_formulas (pd_var 1)) pda_nil))))))))), hm, F.kp, F.binds fun _ _ _ _ _ _ us hl => match us, hl with | [_], _ => rfl⟩
theorem d_plain (T : Txt w K mg) : DefOk P w K mg base "plain" 31 m_plain := (dr_plain T 24).1
theorem d__plain_not (T : Txt w K mg) : DefOk P w K mg base "_plain_not" 31 m__plain_not := (dr_plain T 24).2
theorem d__parts (T : Txt w K mg) : DefOk P w K mg base "_parts" 1 m__parts := by
  obtain ⟨f, fd, F, hm⟩ := T.f__parts
  obtain ⟨v__JOINING, u__JOINING, c__JOINING, r__JOINING, t__JOINING⟩ := T.c__JOINING
  exact ⟨f, fd, ["formula"], fnD F sc__parts S__parts m__parts (fn1_len _) (fn1_body fun _ => rfl) (fun cdv A outer s H E B W hr tk hp => (pds_cons (pd_if (pt_cmp' (op_eqD hr.units) rd_eq (nomark _) (pd_ix (pd_var 0) pd_int) pd_str) (pds_one (pd_ret (pd_tup (pda_cons (pd_ix (pd_var 0) pd_int) pda_nil)))) pds_nil) (pds_cons (pd_if (pt_cmp' (op_in3 (hu65 hr)) rd_in3 rfl (pd_ix (pd_var 0) pd_int) (pd_glob c__JOINING r__JOINING t__JOINING)) (pds_one (pd_ret (pd_ix (pd_var 0) pd_int))) pds_nil) (pds_one (pd_ret (pd_tup pda_nil)))))), hm, F.kp, F.binds fun _ _ _ _ _ _ us hl => match us, hl with | [_], _ => rfl⟩
theorem d__all_in (T : Txt w K mg) : DefOk P w K mg base "_all_in" 2 m__all_in := by
  obtain ⟨f, fd, F, hm⟩ := T.f__all_in
  have d__parts : DefOk P w K mg base "_parts" 1 m__parts := d__parts T
  exact ⟨f, fd, ["formula"], fnD F sc__all_in S__all_in m__all_in (fn1_len _) (fn1_body fun _ => rfl) (fun cdv A outer s H E B W hr tk hp => (pds_cons (pd_parQ 1 2 0 rfl sc__all_in.nd) (pds_cons (pd_while hp (pd_truO 2) (pds_cons (pd_asg (pd_pop 2) (pgd_tup rfl (pgds_cons (pgd_name 3 sc__all_in.nd) (pgds_cons (pgd_name 4 sc__all_in.nd) pgds_nil)))) (pds_cons (pd_append 1 (pd_tup (pda_cons (pd_var 3) (pda_cons (pd_var 4) pda_nil)))) (pds_one (pd_exl 2 (pd_lcO (own := [("part", 5)]) rfl sc__all_in.nd (pid_seq (pd_call d__parts (hr.mono (by decide)) tk (pda_cons (pd_var 3) pda_nil))) (blkOk_by (N := ["formula", "found", "waiting", "inner", "around", "part"]) (sc := defScope s__all_in) (by decide +kernel)) (fun _ _ _ _ _ => (pgw_name 5 sc__all_in.nd)) (fun _ _ _ _ _ => pts_nilD) (fun _ _ _ _ _ B => (pd_tup (pda_cons (pd_var 5) (pda_cons (pd_add (pd_var 4) pd_int) pda_nil)))))))))) (pds_one (pd_ret (pd_var 1)))))), hm, F.kp, F.binds fun _ _ _ _ _ _ us hl => match us, hl with | [_], _ => rfl⟩
theorem d_unknowns_of (T : Txt w K mg) : DefOk P w K mg base "unknowns_of" 3 m_unknowns_of := by
  obtain ⟨f, fd, F, hm⟩ := T.f_unknowns_of
  have d__all_in : DefOk P w K mg base "_all_in" 2 m__all_in := d__all_in T
  have d_unknowns : DefOk P w K mg base "unknowns" 1 m_unknowns := d_unknowns T
  exact ⟨f, fd, ["formula"], fnD F sc_unknowns_of S_unknowns_of m_unknowns_of (fn1_len _) (fn1_body fun _ => rfl) (fun cdv A outer s H E B W hr tk hp => (pds_one (pd_ret (pd_call d_unknowns (hr.mono (by decide)) tk (pda_cons (pd_lc (own := [("inner", 1), ("_", 2)]) rfl sc_unknowns_of.nd (pid_seq (pd_call d__all_in (hr.mono (by decide)) tk (pda_cons (pd_var 0) pda_nil))) (blkOk_by (N := ["formula", "inner", "_"]) (sc := defScope s_unknowns_of) (by decide +kernel)) (fun _ _ _ _ _ => (pgw_tup rfl (pgws_cons (pgw_name 1 sc_unknowns_of.nd) (pgws_cons (pgw_name 2 sc_unknowns_of.nd) pgws_nil)))) (fun _ _ _ _ _ => (pts_oneD fun B => (pt_cmp' (op_eqD hr.units) rd_eq (nomark _) (pd_ix (pd_var 1) pd_int) pd_str))) (fun _ _ _ _ _ B => (pd_ix (pd_var 1) pd_int))) pda_nil))))), hm, F.kp, F.binds fun _ _ _ _ _ _ us hl => match us, hl with | [_], _ => rfl⟩
theorem d__law_cell (T : Txt w K mg) : DefOk P w K mg base "_law_cell" 1 m__law_cell := by
  obtain ⟨f, fd, F, hm⟩ := T.f__law_cell
  have z_len := T.z_len
  exact ⟨f, fd, ["script", "k"], fnD F sc__law_cell S__law_cell m__law_cell (fn2_len _) (fn2_body fun _ _ => rfl) (fun cdv A outer s H E B W hr tk hp => (pds_cons (pd_if (pt_cmp' (op_lt.or op_lt_str) rd_lt (nomark _) (pd_var 1) (pd_callB call_len rd_len z_len (by decide +kernel) (pda_cons (pd_var 0) pda_nil))) (pds_one (pd_ret (pd_ix (pd_var 0) (pd_var 1)))) pds_nil) (pds_one (pd_ret pd_int)))), hm, F.kp, F.binds fun _ _ _ _ _ _ us hl => match us, hl with | [_, _], _ => rfl⟩
theorem d__law_draw (T : Txt w K mg) : DefOk P w K mg base "_law_draw" 2 m__law_draw := by
  obtain ⟨f, fd, F, hm⟩ := T.f__law_draw
  have d__law_cell : DefOk P w K mg base "_law_cell" 1 m__law_cell := d__law_cell T
  have z_len := T.z_len
  have z_range := T.z_range
  exact ⟨f, fd, ["script", "k", "sizes"], fnD F sc__law_draw S__law_draw m__law_draw (fn3_len _) (fn3_body fun _ _ _ => rfl) (fun cdv A outer s H E B W hr tk hp => (pds_cons (pd_set 3 sc__law_draw.nd (pd_call d__law_cell (hr.mono (by decide)) tk (pda_cons (pd_var 0) (pda_cons (pd_var 1) pda_nil)))) (pds_cons (pd_if (pt_cmp' (op_lt.or op_lt_str) rd_lt (nomark _) (pd_var 3) pd_int) (pds_one (pd_set 3 sc__law_draw.nd (pd_neg (pd_var 3)))) pds_nil) (pds_cons (pd_setOwn 4 sc__law_draw.nd pda_nil) (pds_cons (pd_if (pt_cmp' op_ge rd_ge (nomark _) (pd_var 3) (pd_pow pd_int pd_int)) (pds_cons (pd_set 3 sc__law_draw.nd (pd_sub (pd_var 3) (pd_pow pd_int pd_int))) (pds_cons (pd_for hp rfl (pid_seq (pd_var 2)) (pgd_name 5 sc__law_draw.nd) (pds_cons (pd_append 4 (pd_mod (pd_var 3) (pd_var 5))) (pds_one (pd_set 3 sc__law_draw.nd (pd_div (pd_var 3) (pd_var 5)))))) (pds_one (pd_ret (pd_var 4))))) pds_nil) (pds_cons (pd_set 6 sc__law_draw.nd (pd_mod (pd_add (pd_add (pd_var 3) pd_int) (pd_mul pd_int (pd_var 1))) pd_int)) (pds_cons (pd_for hp rfl (pid_range1 z_range (pda_cons (pd_callB call_len rd_len z_len (by decide +kernel) (pda_cons (pd_var 2) pda_nil)) pda_nil)) (pgd_name 7 sc__law_draw.nd) (pds_cons (pd_set 6 sc__law_draw.nd (pd_mod (pd_add (pd_add (pd_mul (pd_var 6) pd_int) pd_int) (pd_var 7)) pd_int)) (pds_cons (pd_set 6 sc__law_draw.nd (pd_mod (pd_add (pd_mul (pd_var 6) pd_int) pd_int) pd_int)) (pds_one (pd_append 4 (pd_mod (pd_div (pd_var 6) pd_int) (pd_ix (pd_var 2) (pd_var 7)))))))) (pds_one (pd_ret (pd_var 4)))))))))), hm, F.kp, F.binds fun _ _ _ _ _ _ us hl => match us, hl with | [_, _, _], _ => rfl⟩
theorem d__law_row (T : Txt w K mg) : DefOk P w K mg base "_law_row" 6 m__law_row := by
  obtain ⟨f, fd, F, hm⟩ := T.f__law_row
  have d_row : DefOk P w K mg base "row" 5 m_row := d_row T
  have z_range := T.z_range
  have z_int := T.z_int
  have z_len := T.z_len
  exact ⟨f, fd, ["digits", "at"], fnD F sc__law_row S__law_row m__law_row (fn2_len _) (fn2_body fun _ _ => rfl) (fun cdv A outer s H E B W hr tk hp => (pds_cons (pd_setOwn 2 sc__law_row.nd (pda_cons pd_str (pda_cons pd_str (pda_cons pd_str pda_nil)))) (pds_cons (pd_setOwn 3 sc__law_row.nd pda_nil) (pds_cons (pd_for hp rfl (pid_range1 z_range (pda_cons pd_int pda_nil)) (pgd_name 4 sc__law_row.nd) (pds_cons (pd_set 5 sc__law_row.nd (pd_sub (pd_mod (pd_ix (pd_var 0) (pd_mod (pd_callTy (callR_or call_int1 call_int_str) rd_int z_int (by decide +kernel) (pda_cons (pd_add (pd_var 1) (pd_var 4)) pda_nil)) (pd_callB call_len rd_len z_len (by decide +kernel) (pda_cons (pd_var 0) pda_nil)))) pd_int) pd_int)) (pds_cons (pd_if (pt_cmp' (op_eqD hr.units) rd_eq (nomark _) (pd_mod (pd_ix (pd_var 0) (pd_mod (pd_callTy (callR_or call_int1 call_int_str) rd_int z_int (by decide +kernel) (pda_cons (pd_add (pd_var 1) pd_int) pda_nil)) (pd_callB call_len rd_len z_len (by decide +kernel) (pda_cons (pd_var 0) pda_nil)))) pd_int) (pd_var 4)) (pds_one (pd_set 5 sc__law_row.nd pd_int)) pds_nil) (pds_one (pd_append 3 (pd_tup (pda_cons (pd_ix (pd_var 2) (pd_var 4)) (pda_cons (pd_tup (pda_cons (pd_var 5) (pda_cons pd_int pda_nil))) pda_nil)))))))) (pds_cons (pd_set 6 sc__law_row.nd (pd_sub (pd_mod (pd_ix (pd_var 0) (pd_mod (pd_callTy (callR_or call_int1 call_int_str) rd_int z_int (by decide +kernel) (pda_cons (pd_add (pd_var 1) pd_int) pda_nil)) (pd_callB call_len rd_len z_len (by decide +kernel) (pda_cons (pd_var 0) pda_nil)))) pd_int) pd_int)) (pds_cons (pd_set 7 sc__law_row.nd (pd_ix (pd_lst (pda_cons pd_str (pda_cons pd_str (pda_cons pd_str (pda_cons pd_str (pda_cons pd_str (pda_cons pd_str pda_nil))))))) (pd_mod (pd_ix (pd_var 0) (pd_mod (pd_callTy (callR_or call_int1 call_int_str) rd_int z_int (by decide +kernel) (pda_cons (pd_add (pd_var 1) pd_int) pda_nil)) (pd_callB call_len rd_len z_len (by decide +kernel) (pda_cons (pd_var 0) pda_nil)))) pd_int))) (pds_cons (pd_if (pt_cmp' (op_eqD hr.units) rd_eq (nomark _) (pd_mod (pd_ix (pd_var 0) (pd_mod (pd_callTy (callR_or call_int1 call_int_str) rd_int z_int (by decide +kernel) (pda_cons (pd_add (pd_var 1) pd_int) pda_nil)) (pd_callB call_len rd_len z_len (by decide +kernel) (pda_cons (pd_var 0) pda_nil)))) pd_int) pd_int) (pds_one (pd_ret (pd_call d_row (hr.mono (by decide)) tk (pda_cons (pd_var 3) (pda_cons (pd_var 7) (pda_cons (pd_tup (pda_cons (pd_add (pd_mul pd_int (pd_var 6)) pd_int) (pda_cons pd_int pda_nil))) pda_nil)))))) pds_nil) (pds_one (pd_ret (pd_call d_row (hr.mono (by decide)) tk (pda_cons (pd_var 3) (pda_cons (pd_var 7) (pda_cons (pd_tup (pda_cons (pd_var 6) (pda_cons pd_int pda_nil))) pda_nil))))))))))))), hm, F.kp, F.binds fun _ _ _ _ _ _ us hl => match us, hl with | [_, _], _ => rfl⟩
theorem db__law_formula (T : Txt w K mg) (k : Nat) : DefOk P w K mg base "_law_formula" (k + 1) noFn := by
  obtain ⟨f, fd, F, hm⟩ := T.f__law_formula
  exact ⟨f, fd, ["digits", "at", "depth"], fnD F sc__law_formula badS noFn (fun _ h => absurd rfl h) (fun _ h => absurd rfl h) (fun cdv A outer s H E B W hr tk hp => pds_bad), hm, F.kp, F.binds fun _ _ _ _ _ _ us hl => match us, hl with | [_, _, _], _ => rfl⟩
theorem dr__law_formula (T : Txt w K mg) : ∀ n, DefOk P w K mg base "_law_formula" (7 + n) (R__law_formula n)
  | 0 => db__law_formula T 6
  | n + 1 => by
    obtain d__law_formula := dr__law_formula T n
    have d__law_row : DefOk P w K mg base "_law_row" 6 m__law_row := d__law_row T
    have z_int := T.z_int
    have z_len := T.z_len
    have z_tuple := T.z_tuple
    show DefOk P w K mg base "_law_formula" (7 + n + 1) (fn3 (B__law_formula (R__law_formula n)))
    · obtain ⟨f, fd, F, hm⟩ := T.f__law_formula
      exact ⟨f, fd, ["digits", "at", "depth"], fnD F sc__law_formula (S__law_formula (R__law_formula n)) (fn3 (B__law_formula (R__law_formula n))) (fn3_len _) (fn3_body fun _ _ _ => rfl) (fun cdv A outer s H E B W hr tk hp => (pds_cons (pd_set 3 sc__law_formula.nd (pd_mod (pd_ix (pd_var 0) (pd_mod (pd_callTy (callR_or call_int1 call_int_str) rd_int z_int (by decide +kernel) (pda_cons (pd_var 1) pda_nil)) (pd_callB call_len rd_len z_len (by decide +kernel) (pda_cons (pd_var 0) pda_nil)))) pd_int)) (pds_cons (pd_if (PW.pt (pw_andD (pt_cmp' (op_eqD hr.units) rd_eq (nomark _) (pd_var 3) pd_int) (pw_and1 (pt_cmp' (op_eqD hr.units) rd_eq (nomark _) (pd_mod (pd_ix (pd_var 0) (pd_mod (pd_callTy (callR_or call_int1 call_int_str) rd_int z_int (by decide +kernel) (pda_cons (pd_add (pd_var 1) pd_int) pda_nil)) (pd_callB call_len rd_len z_len (by decide +kernel) (pda_cons (pd_var 0) pda_nil)))) pd_int) pd_int)))) (pds_one (pd_ret (pd_ix (pd_lst (pda_cons (pd_tup (pda_cons pd_str pda_nil)) (pda_cons (pd_tup (pda_cons pd_str pda_nil)) pda_nil))) (pd_mod (pd_ix (pd_var 0) (pd_mod (pd_callTy (callR_or call_int1 call_int_str) rd_int z_int (by decide +kernel) (pda_cons (pd_add (pd_var 1) pd_int) pda_nil)) (pd_callB call_len rd_len z_len (by decide +kernel) (pda_cons (pd_var 0) pda_nil)))) pd_int)))) pds_nil) (pds_cons (pd_if (PW.pt (pw_orD (pt_cmp' (op_eqD hr.units) rd_eq (nomark _) (pd_var 2) pd_int) (pw_orD (pt_cmp' (op_lt.or op_lt_str) rd_lt (nomark _) (pd_var 3) pd_int) (pw_or1 (pt_cmp' (op_eqD hr.units) rd_eq (nomark _) (pd_var 3) pd_int))))) (pds_one (pd_ret (pd_tup (pda_cons pd_str (pda_cons (pd_call d__law_row (hr.mono (by omega)) tk (pda_cons (pd_var 0) (pda_cons (pd_add (pd_var 1) pd_int) pda_nil))) pda_nil))))) pds_nil) (pds_cons (pd_set 4 sc__law_formula.nd (pd_call d__law_formula (hr.mono (by omega)) tk (pda_cons (pd_var 0) (pda_cons (pd_add (pd_var 1) pd_int) (pda_cons (pd_sub (pd_var 2) pd_int) pda_nil))))) (pds_cons (pd_if (pt_cmp' (op_eqD hr.units) rd_eq (nomark _) (pd_var 3) pd_int) (pds_one (pd_ret (pd_tup (pda_cons pd_str (pda_cons (pd_var 4) pda_nil))))) pds_nil) (pds_cons (pd_setOwn 5 sc__law_formula.nd (pda_cons (pd_var 4) (pda_cons (pd_call d__law_formula (hr.mono (by omega)) tk (pda_cons (pd_var 0) (pda_cons (pd_add (pd_var 1) pd_int) (pda_cons (pd_sub (pd_var 2) pd_int) pda_nil)))) pda_nil))) (pds_cons (pd_if (pt_cmp' (op_eqD hr.units) rd_eq (nomark _) (pd_var 3) pd_int) (pds_one (pd_append 5 (pd_tup (pda_cons pd_str (pda_cons (pd_call d__law_row (hr.mono (by omega)) tk (pda_cons (pd_var 0) (pda_cons (pd_add (pd_var 1) pd_int) pda_nil))) pda_nil))))) pds_nil) (pds_one (pd_ret (pd_tup (pda_cons (pd_ix (pd_lst (pda_cons pd_str (pda_cons pd_str (pda_cons pd_str (pda_cons pd_str pda_nil))))) (pd_sub (pd_var 3) pd_int)) (pda_cons (pd_callTy call_tupleN rd_tuple z_tuple (by decide +kernel) (pda_cons (pd_var 5) pda_nil)) pda_nil))))))))))))), hm, F.kp, F.binds fun _ _ _ _ _ _ us hl => match us, hl with | [_, _, _], _ => rfl⟩
theorem d__law_formula (T : Txt w K mg) : DefOk P w K mg base "_law_formula" 31 m__law_formula := (dr__law_formula T 24)
theorem d__law_some (T : Txt w K mg) : DefOk P w K mg base "_law_some" 32 m__law_some := by
  obtain ⟨f, fd, F, hm⟩ := T.f__law_some
  have d__law_draw : DefOk P w K mg base "_law_draw" 2 m__law_draw := d__law_draw T
  have d__law_formula : DefOk P w K mg base "_law_formula" 31 m__law_formula := d__law_formula T
  exact ⟨f, fd, ["script", "k", "depth"], fnD F sc__law_some S__law_some m__law_some (fn3_len _) (fn3_body fun _ _ _ => rfl) (fun cdv A outer s H E B W hr tk hp => (pds_one (pd_ret (pd_call d__law_formula (hr.mono (by decide)) tk (pda_cons (pd_call d__law_draw (hr.mono (by decide)) tk (pda_cons (pd_var 0) (pda_cons (pd_var 1) (pda_cons (pd_rep (pda_cons pd_int pda_nil) pd_int) pda_nil)))) (pda_cons pd_int (pda_cons (pd_var 2) pda_nil))))))), hm, F.kp, F.binds fun _ _ _ _ _ _ us hl => match us, hl with | [_, _, _], _ => rfl⟩
theorem d__law_number (T : Txt w K mg) : DefOk P w K mg base "_law_number" 1 m__law_number := by
  obtain ⟨f, fd, F, hm⟩ := T.f__law_number
  have z_abs := T.z_abs
  exact ⟨f, fd, ["top", "bottom"], fnD F sc__law_number S__law_number m__law_number (fn2_len _) (fn2_body fun _ _ => rfl) (fun cdv A outer s H E B W hr tk hp => (pds_cons (pd_set 2 sc__law_number.nd (pd_callB call_abs rd_abs z_abs (by decide +kernel) (pda_cons (pd_var 0) pda_nil))) (pds_cons (pd_set 3 sc__law_number.nd (pd_var 1)) (pds_cons (pd_while hp (pt_cmp' (op_neD hr.units) rd_ne (nomark _) (pd_var 3) pd_int) (pds_one (pd_par 2 3 rfl sc__law_number.nd (pda_cons (pd_var 3) (pda_cons (pd_mod (pd_var 2) (pd_var 3)) pda_nil))))) (pds_one (pd_ret (pd_tup (pda_cons (pd_div (pd_var 0) (pd_var 2)) (pda_cons (pd_div (pd_var 1) (pd_var 2)) pda_nil))))))))), hm, F.kp, F.binds fun _ _ _ _ _ _ us hl => match us, hl with | [_, _], _ => rfl⟩
theorem d__law_holds (T : Txt w K mg) : DefOk P w K mg base "_law_holds" 1 m__law_holds := by
  obtain ⟨f, fd, F, hm⟩ := T.f__law_holds
  exact ⟨f, fd, ["one", "point"], fnD F sc__law_holds S__law_holds m__law_holds (fn2_len _) (fn2_body fun _ _ => rfl) (fun cdv A outer s H E B W hr tk hp => (pds_cons (pd_newD 2 sc__law_holds.nd) (pds_cons (pd_for hp rfl (pid_seq (pd_var 1)) (pgd_tup rfl (pgds_cons (pgd_name 3 sc__law_holds.nd) (pgds_cons (pgd_name 4 sc__law_holds.nd) pgds_nil))) (pds_one (pd_put 2 (hu1 hr) (pd_var 3) (pd_var 4)))) (pds_cons (pd_set 5 sc__law_holds.nd pd_int) (pds_cons (pd_set 6 sc__law_holds.nd pd_int) (pds_cons (pd_for hp rfl (pid_seq (pd_ix (pd_var 0) pd_int)) (pgd_tup rfl (pgds_cons (pgd_name 3 sc__law_holds.nd) (pgds_cons (pgd_name 7 sc__law_holds.nd) pgds_nil))) (pds_cons (pd_set 4 sc__law_holds.nd (pd_dget 2 (hu1 hr) (pd_var 3) (pd_tup (pda_cons pd_int (pda_cons pd_int pda_nil))) ⟨rfl, rfl, rfl, rfl⟩)) (pds_cons (pd_set 5 sc__law_holds.nd (pd_add (pd_mul (pd_mul (pd_var 5) (pd_ix (pd_var 7) pd_int)) (pd_ix (pd_var 4) pd_int)) (pd_mul (pd_mul (pd_ix (pd_var 7) pd_int) (pd_ix (pd_var 4) pd_int)) (pd_var 6)))) (pds_one (pd_set 6 sc__law_holds.nd (pd_mul (pd_mul (pd_var 6) (pd_ix (pd_var 7) pd_int)) (pd_ix (pd_var 4) pd_int))))))) (pds_cons (pd_set 8 sc__law_holds.nd (pd_mul (pd_var 5) (pd_ix (pd_ix (pd_var 0) pd_int) pd_int))) (pds_cons (pd_set 9 sc__law_holds.nd (pd_mul (pd_ix (pd_ix (pd_var 0) pd_int) pd_int) (pd_var 6))) (pds_cons (pd_if (pt_cmp' (op_eqD hr.units) rd_eq (nomark _) (pd_ix (pd_var 0) pd_int) pd_str) (pds_one (pd_ret (pd_cmp (op_eqD hr.units) rd_eq (nomark _) (pd_var 8) (pd_var 9)))) pds_nil) (pds_one (pd_ret (pd_or (pd_cmp (op_lt.or op_lt_str) rd_lt (nomark _) (pd_var 8) (pd_var 9)) (pe_one (pd_and (pd_cmp (op_eqD hr.units) rd_eq (nomark _) (pd_ix (pd_var 0) pd_int) pd_str) (pe_one (pd_cmp (op_eqD hr.units) rd_eq (nomark _) (pd_var 8) (pd_var 9))))))))))))))))), hm, F.kp, F.binds fun _ _ _ _ _ _ us hl => match us, hl with | [_, _], _ => rfl⟩
theorem db__law_true (T : Txt w K mg) (k : Nat) : DefOk P w K mg base "_law_true" (k + 1) noFn := by
  obtain ⟨f, fd, F, hm⟩ := T.f__law_true
  exact ⟨f, fd, ["formula", "point"], fnD F sc__law_true badS noFn (fun _ h => absurd rfl h) (fun _ h => absurd rfl h) (fun cdv A outer s H E B W hr tk hp => pds_bad), hm, F.kp, F.binds fun _ _ _ _ _ _ us hl => match us, hl with | [_, _], _ => rfl⟩
theorem dr__law_true (T : Txt w K mg) : ∀ n, DefOk P w K mg base "_law_true" (2 + n) (R__law_true n)
  | 0 => db__law_true T 1
  | n + 1 => by
    obtain d__law_true := dr__law_true T n
    have d__law_holds : DefOk P w K mg base "_law_holds" 1 m__law_holds := d__law_holds T
    show DefOk P w K mg base "_law_true" (2 + n + 1) (fn2 (B__law_true (R__law_true n)))
    · obtain ⟨f, fd, F, hm⟩ := T.f__law_true
      exact ⟨f, fd, ["formula", "point"], fnD F sc__law_true (S__law_true (R__law_true n)) (fn2 (B__law_true (R__law_true n))) (fn2_len _) (fn2_body fun _ _ => rfl) (fun cdv A outer s H E B W hr tk hp => (pds_cons (pd_set 2 sc__law_true.nd (pd_ix (pd_var 0) pd_int)) (pds_cons (pd_if (pt_cmp' (op_eqD hr.units) rd_eq (nomark _) (pd_var 2) pd_str) (pds_one (pd_ret (pd_call d__law_holds (hr.mono (by omega)) tk (pda_cons (pd_ix (pd_var 0) pd_int) (pda_cons (pd_var 1) pda_nil))))) pds_nil) (pds_cons (pd_if (pt_cmp' (op_eqD hr.units) rd_eq (nomark _) (pd_var 2) pd_str) (pds_one (pd_ret (pd_not (pd_call d__law_true (hr.mono (by omega)) tk (pda_cons (pd_ix (pd_var 0) pd_int) (pda_cons (pd_var 1) pda_nil)))))) pds_nil) (pds_cons (pd_if (PW.pt (pw_orD (pt_cmp' (op_eqD hr.units) rd_eq (nomark _) (pd_var 2) pd_str) (pw_or1 (pt_cmp' (op_eqD hr.units) rd_eq (nomark _) (pd_var 2) pd_str)))) (pds_cons (pd_setLc 3 (own := [("part", 4)]) rfl sc__law_true.nd (sw_true rfl rfl rfl (by decide +kernel)) (pid_seq (pd_ix (pd_var 0) pd_int)) (blkOk_by (N := ["formula", "point", "kind", "told", "part"]) (sc := defScope s__law_true) (by decide +kernel)) (fun _ _ _ _ _ => (pgw_name 4 sc__law_true.nd)) (fun _ _ _ _ _ => pts_nilD) (fun _ _ _ _ _ B => (pd_call d__law_true (hr.mono (by omega)) takes0 (pda_cons (pd_var 4) (pda_cons (pd_var 1) pda_nil))))) (pds_cons (pd_if (pt_cmp' (op_eqD hr.units) rd_eq (nomark _) (pd_var 2) pd_str) (pds_one (pd_ret (pd_cmp (op_notIn3 (hu65 hr)) rd_notIn3 rfl pd_bl (pd_var 3)))) pds_nil) (pds_one (pd_ret (pd_cmp (op_in3 (hu65 hr)) rd_in3 rfl pd_bl (pd_var 3)))))) pds_nil) (pds_one (pd_ret (pd_cmp (op_eqD hr.units) rd_eq (nomark _) (pd_var 2) pd_str)))))))), hm, F.kp, F.binds fun _ _ _ _ _ _ us hl => match us, hl with | [_, _], _ => rfl⟩
theorem d__law_true (T : Txt w K mg) : DefOk P w K mg base "_law_true" 26 m__law_true := (dr__law_true T 24)
theorem d__law_point (T : Txt w K mg) : DefOk P w K mg base "_law_point" 3 m__law_point := by
  obtain ⟨f, fd, F, hm⟩ := T.f__law_point
  have d__law_draw : DefOk P w K mg base "_law_draw" 2 m__law_draw := d__law_draw T
  have d__law_number : DefOk P w K mg base "_law_number" 1 m__law_number := d__law_number T
  have z_range := T.z_range
  have z_tuple := T.z_tuple
  exact ⟨f, fd, ["script", "k"], fnD F sc__law_point S__law_point m__law_point (fn2_len _) (fn2_body fun _ _ => rfl) (fun cdv A outer s H E B W hr tk hp => (pds_cons (pd_set 2 sc__law_point.nd (pd_call d__law_draw (hr.mono (by decide)) tk (pda_cons (pd_var 0) (pda_cons (pd_var 1) (pda_cons (pd_lst (pda_cons pd_int (pda_cons pd_int (pda_cons pd_int (pda_cons pd_int (pda_cons pd_int pda_nil)))))) pda_nil))))) (pds_cons (pd_setOwn 3 sc__law_point.nd (pda_cons pd_str (pda_cons pd_str (pda_cons pd_str pda_nil)))) (pds_cons (pd_setOwn 4 sc__law_point.nd pda_nil) (pds_cons (pd_for hp rfl (pid_range1 z_range (pda_cons pd_int pda_nil)) (pgd_name 5 sc__law_point.nd) (pds_one (pd_if (pt_cmp' (op_neD hr.units) rd_ne (nomark _) (pd_ix (pd_var 2) pd_int) (pd_var 5)) (pds_one (pd_append 4 (pd_tup (pda_cons (pd_ix (pd_var 3) (pd_var 5)) (pda_cons (pd_call d__law_number (hr.mono (by decide)) tk (pda_cons (pd_sub (pd_ix (pd_var 2) (pd_var 5)) pd_int) (pda_cons (pd_add pd_int (pd_ix (pd_var 2) pd_int)) pda_nil))) pda_nil))))) pds_nil))) (pds_one (pd_ret (pd_callTy call_tupleN rd_tuple z_tuple (by decide +kernel) (pda_cons (pd_var 4) pda_nil))))))))), hm, F.kp, F.binds fun _ _ _ _ _ _ us hl => match us, hl with | [_, _], _ => rfl⟩
theorem d__law_opposite (T : Txt w K mg) : DefOk P w K mg base "_law_opposite" 1 m__law_opposite := by
  obtain ⟨f, fd, F, hm⟩ := T.f__law_opposite
  have z_tuple := T.z_tuple
  have z_len := T.z_len
  exact ⟨f, fd, ["one"], fnD F sc__law_opposite S__law_opposite m__law_opposite (fn1_len _) (fn1_body fun _ => rfl) (fun cdv A outer s H E B W hr tk hp => (pds_cons (pd_set 1 sc__law_opposite.nd (pd_callTy call_tupleN rd_tuple z_tuple (by decide +kernel) (pda_cons (pd_lc (own := [("name", 2), ("number_v", 3)]) rfl sc__law_opposite.nd (pid_seq (pd_ix (pd_var 0) pd_int)) (blkOk_by (N := ["one", "parts", "name", "number_v", "bound"]) (sc := defScope s__law_opposite) (by decide +kernel)) (fun _ _ _ _ _ => (pgw_tup rfl (pgws_cons (pgw_name 2 sc__law_opposite.nd) (pgws_cons (pgw_name 3 sc__law_opposite.nd) pgws_nil)))) (fun _ _ _ _ _ => pts_nilD) (fun _ _ _ _ _ B => (pd_tup (pda_cons (pd_var 2) (pda_cons (pd_tup (pda_cons (pd_sub pd_int (pd_ix (pd_var 3) pd_int)) (pda_cons (pd_ix (pd_var 3) pd_int) pda_nil))) pda_nil))))) pda_nil))) (pds_cons (pd_set 4 sc__law_opposite.nd (pd_tup (pda_cons (pd_sub pd_int (pd_ix (pd_ix (pd_var 0) pd_int) pd_int)) (pda_cons (pd_ix (pd_ix (pd_var 0) pd_int) pd_int) pda_nil)))) (pds_cons (pd_if (pt_cmp' (op_eqD hr.units) rd_eq (nomark _) (pd_ix (pd_var 0) pd_int) pd_str) (pds_one (pd_ret (pd_tup (pda_cons pd_str (pda_cons (pd_tup (pda_cons (pd_var 1) (pda_cons pd_str (pda_cons (pd_var 4) pda_nil)))) pda_nil))))) pds_nil) (pds_cons (pd_if (pt_cmp' (op_eqD hr.units) rd_eq (nomark _) (pd_ix (pd_var 0) pd_int) pd_str) (pds_one (pd_ret (pd_tup (pda_cons pd_str (pda_cons (pd_tup (pda_cons (pd_var 1) (pda_cons pd_str (pda_cons (pd_var 4) pda_nil)))) pda_nil))))) pds_nil) (pds_cons (pd_if (PW.pt (pw_andD (pt_cmp' (op_eqD hr.units) rd_eq (nomark _) (pd_callB call_len rd_len z_len (by decide +kernel) (pda_cons (pd_var 1) pda_nil)) pd_int) (pw_and1 (pt_cmp' (op_eqD hr.units) rd_eq (nomark _) (pd_ix (pd_ix (pd_var 0) pd_int) pd_int) pd_int)))) (pds_one (pd_ret (pd_tup (pda_cons pd_str (pda_cons (pd_tup (pda_cons (pd_tup (pda_cons pd_str (pda_cons (pd_tup (pda_cons (pd_var 1) (pda_cons pd_str (pda_cons (pd_var 4) pda_nil)))) pda_nil))) (pda_cons (pd_tup (pda_cons pd_str (pda_cons (pd_tup (pda_cons (pd_var 1) (pda_cons pd_str (pda_cons (pd_var 4) pda_nil)))) pda_nil))) pda_nil))) pda_nil))))) pds_nil) (pds_one (pd_ret (pd_tup (pda_cons pd_str (pda_cons (pd_tup (pda_cons (pd_tup (pda_cons pd_str (pda_cons (pd_tup (pda_cons (pd_ix (pd_var 0) pd_int) (pda_cons pd_str (pda_cons (pd_ix (pd_var 0) pd_int) pda_nil)))) pda_nil))) (pda_cons (pd_tup (pda_cons pd_str (pda_cons (pd_tup (pda_cons (pd_var 1) (pda_cons pd_str (pda_cons (pd_var 4) pda_nil)))) pda_nil))) pda_nil))) pda_nil))))))))))), hm, F.kp, F.binds fun _ _ _ _ _ _ us hl => match us, hl with | [_], _ => rfl⟩
theorem db__law_plain (T : Txt w K mg) (k : Nat) : DefOk P w K mg base "_law_plain" (k + 1) noFn := by
  obtain ⟨f, fd, F, hm⟩ := T.f__law_plain
  exact ⟨f, fd, ["formula", "denied"], fnD F sc__law_plain badS noFn (fun _ h => absurd rfl h) (fun _ h => absurd rfl h) (fun cdv A outer s H E B W hr tk hp => pds_bad), hm, F.kp, F.binds fun _ _ _ _ _ _ us hl => match us, hl with | [_, _], _ => rfl⟩
theorem dr__law_plain (T : Txt w K mg) : ∀ n, DefOk P w K mg base "_law_plain" (2 + n) (R__law_plain n)
  | 0 => db__law_plain T 1
  | n + 1 => by
    obtain d__law_plain := dr__law_plain T n
    have d__law_opposite : DefOk P w K mg base "_law_opposite" 1 m__law_opposite := d__law_opposite T
    have z_int := T.z_int
    have z_tuple := T.z_tuple
    show DefOk P w K mg base "_law_plain" (2 + n + 1) (fn2 (B__law_plain (R__law_plain n)))
    · obtain ⟨f, fd, F, hm⟩ := T.f__law_plain
      exact ⟨f, fd, ["formula", "denied"], fnD F sc__law_plain (S__law_plain (R__law_plain n)) (fn2 (B__law_plain (R__law_plain n))) (fn2_len _) (fn2_body fun _ _ => rfl) (fun cdv A outer s H E B W hr tk hp => (pds_cons (pd_set 2 sc__law_plain.nd (pd_ix (pd_var 0) pd_int)) (pds_cons (pd_if (pt_cmp' (op_eqD hr.units) rd_eq (nomark _) (pd_var 2) pd_str) (pds_one (pd_ret (pd_call d__law_plain (hr.mono (by omega)) tk (pda_cons (pd_ix (pd_var 0) pd_int) (pda_cons (pd_not (pd_var 1)) pda_nil))))) pds_nil) (pds_cons (pd_if (PW.pt (pw_orD (pt_cmp' (op_eqD hr.units) rd_eq (nomark _) (pd_var 2) pd_str) (pw_or1 (pt_cmp' (op_eqD hr.units) rd_eq (nomark _) (pd_var 2) pd_str)))) (pds_cons (pd_if (pd_tru (pd_var 1)) (pds_one (pd_set 2 sc__law_plain.nd (pd_ix (pd_lst (pda_cons pd_str (pda_cons pd_str pda_nil))) (pd_callTy (callR_or call_int1 call_int_str) rd_int z_int (by decide +kernel) (pda_cons (pd_cmp (op_eqD hr.units) rd_eq (nomark _) (pd_var 2) pd_str) pda_nil))))) pds_nil) (pds_one (pd_ret (pd_tup (pda_cons (pd_var 2) (pda_cons (pd_callTy call_tupleN rd_tuple z_tuple (by decide +kernel) (pda_cons (pd_lc (own := [("part", 3)]) rfl sc__law_plain.nd (pid_seq (pd_ix (pd_var 0) pd_int)) (blkOk_by (N := ["formula", "denied", "kind", "part"]) (sc := defScope s__law_plain) (by decide +kernel)) (fun _ _ _ _ _ => (pgw_name 3 sc__law_plain.nd)) (fun _ _ _ _ _ => pts_nilD) (fun _ _ _ _ _ B => (pd_call d__law_plain (hr.mono (by omega)) takes0 (pda_cons (pd_var 3) (pda_cons (pd_var 1) pda_nil))))) pda_nil)) pda_nil)))))) pds_nil) (pds_cons (pd_if (pt_cmp' (op_eqD hr.units) rd_eq (nomark _) (pd_var 2) pd_str) (pds_cons (pd_if (pd_tru (pd_var 1)) (pds_one (pd_ret (pd_call d__law_opposite (hr.mono (by omega)) tk (pda_cons (pd_ix (pd_var 0) pd_int) pda_nil)))) pds_nil) (pds_one (pd_ret (pd_var 0)))) pds_nil) (pds_cons (pd_if (pd_tru (pd_var 1)) (pds_one (pd_ret (pd_ix (pd_lst (pda_cons (pd_tup (pda_cons pd_str pda_nil)) (pda_cons (pd_tup (pda_cons pd_str pda_nil)) pda_nil))) (pd_callTy (callR_or call_int1 call_int_str) rd_int z_int (by decide +kernel) (pda_cons (pd_cmp (op_eqD hr.units) rd_eq (nomark _) (pd_var 2) pd_str) pda_nil))))) pds_nil) (pds_one (pd_ret (pd_var 0))))))))), hm, F.kp, F.binds fun _ _ _ _ _ _ us hl => match us, hl with | [_, _], _ => rfl⟩
theorem d__law_plain (T : Txt w K mg) : DefOk P w K mg base "_law_plain" 26 m__law_plain := (dr__law_plain T 24)
theorem d__law_many (T : Txt w K mg) : DefOk P w K mg base "_law_many" 1 m__law_many := by
  obtain ⟨f, fd, F, hm⟩ := T.f__law_many
  have z_range := T.z_range
  have z_len := T.z_len
  have z_list := T.z_list
  exact ⟨f, fd, ["formula"], fnD F sc__law_many S__law_many m__law_many (fn1_len _) (fn1_body fun _ => rfl) (fun cdv A outer s H E B W hr tk hp => (pds_cons (pd_setOwn 1 sc__law_many.nd (pda_cons (pd_var 0) pda_nil)) (pds_cons (pd_for hp rfl (pid_range1 z_range (pda_cons pd_int pda_nil)) (pgd_name 2 sc__law_many.nd) (pds_one (pd_if (PW.pt (pw_andD (pt_cmp' (op_lt.or op_lt_str) rd_lt (nomark _) (pd_var 2) (pd_callB call_len rd_len z_len (by decide +kernel) (pda_cons (pd_var 1) pda_nil))) (pw_and1 (pt_cmp' (op_in3 (hu65 hr)) rd_in3 rfl (pd_ix (pd_ix (pd_var 1) (pd_var 2)) pd_int) (pd_lst (pda_cons pd_str (pda_cons pd_str pda_nil))))))) (pds_one (pd_set 1 sc__law_many.nd (pd_add (pd_var 1) (pd_callTy call_list_of rd_list z_list (by decide +kernel) (pda_cons (pd_ix (pd_ix (pd_var 1) (pd_var 2)) pd_int) pda_nil))))) pds_nil))) (pds_one (pd_ret (pd_callB call_len rd_len z_len (by decide +kernel) (pda_cons (pd_var 1) pda_nil))))))), hm, F.kp, F.binds fun _ _ _ _ _ _ us hl => match us, hl with | [_], _ => rfl⟩
theorem d_law (T : Txt w K mg) : DefOk P w K mg base "law" 33 m_law := by
  obtain ⟨f, fd, F, hm⟩ := T.f_law
  have d__law_some : DefOk P w K mg base "_law_some" 32 m__law_some := d__law_some T
  have d__law_plain : DefOk P w K mg base "_law_plain" 26 m__law_plain := d__law_plain T
  have d_plain : DefOk P w K mg base "plain" 31 m_plain := d_plain T
  have d__law_point : DefOk P w K mg base "_law_point" 3 m__law_point := d__law_point T
  have d_is_true : DefOk P w K mg base "is_true" 29 m_is_true := d_is_true T
  have d__law_true : DefOk P w K mg base "_law_true" 26 m__law_true := d__law_true T
  have d__law_many : DefOk P w K mg base "_law_many" 1 m__law_many := d__law_many T
  have d_unknowns_of : DefOk P w K mg base "unknowns_of" 3 m_unknowns_of := d_unknowns_of T
  have z_len := T.z_len
  have z_min := T.z_min
  have z_range := T.z_range
  have z_isinstance := T.z_isinstance
  have z_bool := T.z_bool
  have z_list := T.z_list
  have z_sorted := T.z_sorted
  exact ⟨f, fd, ["script"], fnD F sc_law S_law m_law (fn1_len _) (fn1_body fun _ => rfl) (fun cdv A outer s H E B W hr tk hp => (pds_cons (pd_for hp rfl (pid_range1 z_range (pda_cons (pd_callB (call_min2 rfl) rd_min z_min (by decide +kernel) (pda_cons pd_int (pda_cons (pd_add pd_int (pd_div (pd_callB call_len rd_len z_len (by decide +kernel) (pda_cons (pd_var 0) pda_nil)) pd_int)) pda_nil))) pda_nil)) (pgd_name 1 sc_law.nd) (pds_cons (pd_set 2 sc_law.nd (pd_call d__law_some (hr.mono (by decide)) tk (pda_cons (pd_var 0) (pda_cons (pd_mul pd_int (pd_var 1)) (pda_cons pd_int pda_nil))))) (pds_cons (pd_set 3 sc_law.nd (pd_call d__law_plain (hr.mono (by decide)) tk (pda_cons (pd_var 2) (pda_cons pd_bl pda_nil)))) (pds_cons (pd_if (PW.pt (pw_orD (pt_cmp' (op_neD hr.units) rd_ne (nomark _) (pd_call d_plain (hr.mono (by decide)) tk (pda_cons (pd_var 2) pda_nil)) (pd_var 3)) (pw_orD (pt_cmp' (op_neD hr.units) rd_ne (nomark _) (pd_call d_plain (hr.mono (by decide)) tk (pda_cons (pd_var 3) pda_nil)) (pd_var 3)) (pw_or1 (pt_cmp' (op_neD hr.units) rd_ne (nomark _) (pd_call d_plain (hr.mono (by decide)) tk (pda_cons (pd_tup (pda_cons pd_str (pda_cons (pd_var 2) pda_nil))) pda_nil)) (pd_call d__law_plain (hr.mono (by decide)) tk (pda_cons (pd_var 2) (pda_cons pd_bl pda_nil)))))))) (pds_one (pd_ret pd_bl)) pds_nil) (pds_cons (pd_for hp rfl (pid_range1 z_range (pda_cons pd_int pda_nil)) (pgd_name 4 sc_law.nd) (pds_cons (pd_set 9 sc_law.nd (pd_call d__law_point (hr.mono (by decide)) tk (pda_cons (pd_var 0) (pda_cons (pd_add (pd_add (pd_mul pd_int (pd_var 1)) pd_int) (pd_var 4)) pda_nil)))) (pds_cons (pd_set 10 sc_law.nd (pd_call d_is_true (hr.mono (by decide)) tk (pda_cons (pd_var 2) (pda_cons (pd_var 9) pda_nil)))) (pds_cons (pd_if (PW.pt (pw_orD (pt_notD (pd_tru (pd_isa "bool" z_isinstance z_bool (by decide +kernel) (pd_var 10)))) (pw_orD (pt_cmp' (op_neD hr.units) rd_ne (nomark _) (pd_var 10) (pd_call d__law_true (hr.mono (by decide)) tk (pda_cons (pd_var 2) (pda_cons (pd_var 9) pda_nil)))) (pw_or1 (pt_cmp' (op_neD hr.units) rd_ne (nomark _) (pd_call d_is_true (hr.mono (by decide)) tk (pda_cons (pd_var 3) (pda_cons (pd_var 9) pda_nil))) (pd_var 10)))))) (pds_one (pd_ret pd_bl)) pds_nil) (pds_one (pd_if (PW.pt (pw_andD (pt_cmp' (op_lt.or op_lt_str) rd_lt (nomark _) (pd_call d__law_many (hr.mono (by decide)) tk (pda_cons (pd_call d__law_plain (hr.mono (by decide)) tk (pda_cons (pd_var 2) (pda_cons pd_bl pda_nil))) pda_nil)) pd_int) (pw_and1 (pt_cmp' (op_eqD hr.units) rd_eq (nomark _) (pd_call d_is_true (hr.mono (by decide)) tk (pda_cons (pd_call d_plain (hr.mono (by decide)) tk (pda_cons (pd_tup (pda_cons pd_str (pda_cons (pd_var 2) pda_nil))) pda_nil)) (pda_cons (pd_var 9) pda_nil))) (pd_var 10))))) (pds_one (pd_ret pd_bl)) pds_nil)))))) (pds_cons (pd_set 5 sc_law.nd (pd_call d_unknowns_of (hr.mono (by decide)) tk (pda_cons (pd_var 2) pda_nil))) (pds_cons (pd_setOwn 6 sc_law.nd (pda_cons (pd_var 2) pda_nil)) (pds_cons (pd_setOwn 7 sc_law.nd pda_nil) (pds_cons (pd_for hp rfl (pid_range1 z_range (pda_cons pd_int pda_nil)) (pgd_name 8 sc_law.nd) (pds_one (pd_if (pt_cmp' (op_lt.or op_lt_str) rd_lt (nomark _) (pd_var 8) (pd_lenO 6 z_len)) (pds_cons (pd_set 11 sc_law.nd (pd_ixO 6 (pd_var 8))) (pds_cons (pd_if (pt_cmp' (op_eqD hr.units) rd_eq (nomark _) (pd_ix (pd_var 11) pd_int) pd_str) (pds_one (pd_set 7 sc_law.nd (pd_add (pd_var 7) (pd_lcO (own := [("name", 12), ("number_v", 13)]) rfl sc_law.nd (pid_seq (pd_ix (pd_ix (pd_var 11) pd_int) pd_int)) (blkOk_by (N := ["script", "w", "formula", "due", "j", "names", "waiting", "seen", "turn", "point", "told", "part", "name", "number_v"]) (sc := defScope s_law) (by decide +kernel)) (fun _ _ _ _ _ => (pgw_tup rfl (pgws_cons (pgw_name 12 sc_law.nd) (pgws_cons (pgw_name 13 sc_law.nd) pgws_nil)))) (fun _ _ _ _ _ => (pts_oneD fun B => (pt_cmp' (op_notIn3 (hu65 hr)) rd_notIn3 rfl (pd_var 12) (pd_var 7)))) (fun _ _ _ _ _ B => (pd_var 12)))))) pds_nil) (pds_cons (pd_if (pt_cmp' (op_eqD hr.units) rd_eq (nomark _) (pd_ix (pd_var 11) pd_int) pd_str) (pds_one (pd_append 6 (pd_ix (pd_var 11) pd_int))) pds_nil) (pds_one (pd_if (PW.pt (pw_orD (pt_cmp' (op_eqD hr.units) rd_eq (nomark _) (pd_ix (pd_var 11) pd_int) pd_str) (pw_or1 (pt_cmp' (op_eqD hr.units) rd_eq (nomark _) (pd_ix (pd_var 11) pd_int) pd_str)))) (pds_one (pd_setNL 6 sc_law.nd (nl_cat (pd_var 6) (pd_callTy call_list_of rd_list z_list (by decide +kernel) (pda_cons (pd_ix (pd_var 11) pd_int) pda_nil))))) pds_nil))))) pds_nil))) (pds_one (pd_if (pt_cmp' (op_neD hr.units) rd_ne (nomark _) (pd_var 5) (pd_callB cr_sortedS rd_sorted z_sorted (by decide +kernel) (pda_cons (pd_var 7) pda_nil))) (pds_one (pd_ret pd_bl)) pds_nil))))))))))) (pds_one (pd_ret pd_bl)))), hm, F.kp, F.binds fun _ _ _ _ _ _ us hl => match us, hl with | [_], _ => rfl⟩
theorem l_law (T : Txt w K mg) : ∃ f fd, mg "law" = some (.ref f) ∧ (∀ (s : Shared) (v : Value), BindsTo s fd ⟨[v], []⟩ [("script", v)]) ∧ ∀ base : Heap, FnOk P w K mg base (L2.CX P w) 33 f fd ["script"] (spD ⟨K, mg, w⟩ m_law) := by
  obtain ⟨f, fd, F, hm⟩ := T.f_law
  refine ⟨f, fd, hm, ?_, fun base => ?_⟩
  · obtain ⟨oc, od, kV, doc, pm, an, cdv, ct, osl, rfl, lk, hcd⟩ := F.ex
    exact fun s v => .of_eq rfl
  have d__law_some : DefOk P w K mg base "_law_some" 32 m__law_some := d__law_some T
  have d__law_plain : DefOk P w K mg base "_law_plain" 26 m__law_plain := d__law_plain T
  have d_plain : DefOk P w K mg base "plain" 31 m_plain := d_plain T
  have d__law_point : DefOk P w K mg base "_law_point" 3 m__law_point := d__law_point T
  have d_is_true : DefOk P w K mg base "is_true" 29 m_is_true := d_is_true T
  have d__law_true : DefOk P w K mg base "_law_true" 26 m__law_true := d__law_true T
  have d__law_many : DefOk P w K mg base "_law_many" 1 m__law_many := d__law_many T
  have d_unknowns_of : DefOk P w K mg base "unknowns_of" 3 m_unknowns_of := d_unknowns_of T
  have z_len := T.z_len
  have z_min := T.z_min
  have z_range := T.z_range
  have z_isinstance := T.z_isinstance
  have z_bool := T.z_bool
  have z_list := T.z_list
  have z_sorted := T.z_sorted
  exact fnD F sc_law S_law m_law (fn1_len _) (fn1_body fun _ => rfl) (fun cdv A outer s H E B W hr tk hp => (pds_cons (pd_for hp rfl (pid_range1 z_range (pda_cons (pd_callB (call_min2 rfl) rd_min z_min (by decide +kernel) (pda_cons pd_int (pda_cons (pd_add pd_int (pd_div (pd_callB call_len rd_len z_len (by decide +kernel) (pda_cons (pd_var 0) pda_nil)) pd_int)) pda_nil))) pda_nil)) (pgd_name 1 sc_law.nd) (pds_cons (pd_set 2 sc_law.nd (pd_call d__law_some (hr.mono (by decide)) tk (pda_cons (pd_var 0) (pda_cons (pd_mul pd_int (pd_var 1)) (pda_cons pd_int pda_nil))))) (pds_cons (pd_set 3 sc_law.nd (pd_call d__law_plain (hr.mono (by decide)) tk (pda_cons (pd_var 2) (pda_cons pd_bl pda_nil)))) (pds_cons (pd_if (PW.pt (pw_orD (pt_cmp' (op_neD hr.units) rd_ne (nomark _) (pd_call d_plain (hr.mono (by decide)) tk (pda_cons (pd_var 2) pda_nil)) (pd_var 3)) (pw_orD (pt_cmp' (op_neD hr.units) rd_ne (nomark _) (pd_call d_plain (hr.mono (by decide)) tk (pda_cons (pd_var 3) pda_nil)) (pd_var 3)) (pw_or1 (pt_cmp' (op_neD hr.units) rd_ne (nomark _) (pd_call d_plain (hr.mono (by decide)) tk (pda_cons (pd_tup (pda_cons pd_str (pda_cons (pd_var 2) pda_nil))) pda_nil)) (pd_call d__law_plain (hr.mono (by decide)) tk (pda_cons (pd_var 2) (pda_cons pd_bl pda_nil)))))))) (pds_one (pd_ret pd_bl)) pds_nil) (pds_cons (pd_for hp rfl (pid_range1 z_range (pda_cons pd_int pda_nil)) (pgd_name 4 sc_law.nd) (pds_cons (pd_set 9 sc_law.nd (pd_call d__law_point (hr.mono (by decide)) tk (pda_cons (pd_var 0) (pda_cons (pd_add (pd_add (pd_mul pd_int (pd_var 1)) pd_int) (pd_var 4)) pda_nil)))) (pds_cons (pd_set 10 sc_law.nd (pd_call d_is_true (hr.mono (by decide)) tk (pda_cons (pd_var 2) (pda_cons (pd_var 9) pda_nil)))) (pds_cons (pd_if (PW.pt (pw_orD (pt_notD (pd_tru (pd_isa "bool" z_isinstance z_bool (by decide +kernel) (pd_var 10)))) (pw_orD (pt_cmp' (op_neD hr.units) rd_ne (nomark _) (pd_var 10) (pd_call d__law_true (hr.mono (by decide)) tk (pda_cons (pd_var 2) (pda_cons (pd_var 9) pda_nil)))) (pw_or1 (pt_cmp' (op_neD hr.units) rd_ne (nomark _) (pd_call d_is_true (hr.mono (by decide)) tk (pda_cons (pd_var 3) (pda_cons (pd_var 9) pda_nil))) (pd_var 10)))))) (pds_one (pd_ret pd_bl)) pds_nil) (pds_one (pd_if (PW.pt (pw_andD (pt_cmp' (op_lt.or op_lt_str) rd_lt (nomark _) (pd_call d__law_many (hr.mono (by decide)) tk (pda_cons (pd_call d__law_plain (hr.mono (by decide)) tk (pda_cons (pd_var 2) (pda_cons pd_bl pda_nil))) pda_nil)) pd_int) (pw_and1 (pt_cmp' (op_eqD hr.units) rd_eq (nomark _) (pd_call d_is_true (hr.mono (by decide)) tk (pda_cons (pd_call d_plain (hr.mono (by decide)) tk (pda_cons (pd_tup (pda_cons pd_str (pda_cons (pd_var 2) pda_nil))) pda_nil)) (pda_cons (pd_var 9) pda_nil))) (pd_var 10))))) (pds_one (pd_ret pd_bl)) pds_nil)))))) (pds_cons (pd_set 5 sc_law.nd (pd_call d_unknowns_of (hr.mono (by decide)) tk (pda_cons (pd_var 2) pda_nil))) (pds_cons (pd_setOwn 6 sc_law.nd (pda_cons (pd_var 2) pda_nil)) (pds_cons (pd_setOwn 7 sc_law.nd pda_nil) (pds_cons (pd_for hp rfl (pid_range1 z_range (pda_cons pd_int pda_nil)) (pgd_name 8 sc_law.nd) (pds_one (pd_if (pt_cmp' (op_lt.or op_lt_str) rd_lt (nomark _) (pd_var 8) (pd_lenO 6 z_len)) (pds_cons (pd_set 11 sc_law.nd (pd_ixO 6 (pd_var 8))) (pds_cons (pd_if (pt_cmp' (op_eqD hr.units) rd_eq (nomark _) (pd_ix (pd_var 11) pd_int) pd_str) (pds_one (pd_set 7 sc_law.nd (pd_add (pd_var 7) (pd_lcO (own := [("name", 12), ("number_v", 13)]) rfl sc_law.nd (pid_seq (pd_ix (pd_ix (pd_var 11) pd_int) pd_int)) (blkOk_by (N := ["script", "w", "formula", "due", "j", "names", "waiting", "seen", "turn", "point", "told", "part", "name", "number_v"]) (sc := defScope s_law) (by decide +kernel)) (fun _ _ _ _ _ => (pgw_tup rfl (pgws_cons (pgw_name 12 sc_law.nd) (pgws_cons (pgw_name 13 sc_law.nd) pgws_nil)))) (fun _ _ _ _ _ => (pts_oneD fun B => (pt_cmp' (op_notIn3 (hu65 hr)) rd_notIn3 rfl (pd_var 12) (pd_var 7)))) (fun _ _ _ _ _ B => (pd_var 12)))))) pds_nil) (pds_cons (pd_if (pt_cmp' (op_eqD hr.units) rd_eq (nomark _) (pd_ix (pd_var 11) pd_int) pd_str) (pds_one (pd_append 6 (pd_ix (pd_var 11) pd_int))) pds_nil) (pds_one (pd_if (PW.pt (pw_orD (pt_cmp' (op_eqD hr.units) rd_eq (nomark _) (pd_ix (pd_var 11) pd_int) pd_str) (pw_or1 (pt_cmp' (op_eqD hr.units) rd_eq (nomark _) (pd_ix (pd_var 11) pd_int) pd_str)))) (pds_one (pd_setNL 6 sc_law.nd (nl_cat (pd_var 6) (pd_callTy call_list_of rd_list z_list (by decide +kernel) (pda_cons (pd_ix (pd_var 11) pd_int) pda_nil))))) pds_nil))))) pds_nil))) (pds_one (pd_if (pt_cmp' (op_neD hr.units) rd_ne (nomark _) (pd_var 5) (pd_callB cr_sortedS rd_sorted z_sorted (by decide +kernel) (pda_cons (pd_var 7) pda_nil))) (pds_one (pd_ret pd_bl)) pds_nil))))))))))) (pds_one (pd_ret pd_bl))))
def spLaw (K : PySem.W.Frag) : Sp := fun vs H Q _ => ∃ (a : Addr) (ns : List Int), vs = [.ref a] ∧ SqL K H a (ns.map V.int) ∧ ns.length ≤ 63 ∧ ∀ H', Q (.bl true) H'
theorem o_law (T : Txt w K mg) (hl : ∀ ns : List Int, ns.length ≤ 63 → B_law (.list (ns.map PyData.int)) = .ok (.bool true)) {fa : Addr} (hfa : mg "law" = some (.ref fa)) :
    ∃ fd : FuncData, (∀ (s : Shared) (v : Value), BindsTo s fd ⟨[v], []⟩ [("script", v)]) ∧ ∀ base : Heap, FnOk P w K mg base (L2.CX P w) 33 fa fd ["script"] (spLaw K) := by
  obtain ⟨f, fd, hm, hb, F⟩ := l_law (P := P) (w := w) T
  have e := hfa.symm.trans hm
  cases e
  refine ⟨fd, hb, fun base => (F base).imp fun vs H Q E h => ?_⟩
  obtain ⟨a, ns, rfl, hS, hn, q⟩ := h
  refine ⟨H, [.list (ns.map PyData.int)], Same.refl _, .cons (.lst hS (DqAll.ints ns)) .nil, ?_⟩
  have e : m_law [.list (ns.map PyData.int)] = .ok (.bool true) := hl ns hn
  rw [e]
  intro v G' H' _ dp
  cases dp
  exact q H'
end
theorem txt_mk {w : World} {K : PySem.W.Frag} {h : Heap} {mg : Str → Option Value} (X : K.In h) (G : h.Ns mainGlobals mg)
    {p_number : Addr} {od_number an_number : Option Addr} {sl_number : Array (Option Value)} {oc_number kV_number dc_number pm_number cd_number ct_number : Value}
    (a_number : PySem.W.nsIn K mainGlobals "number" = some (some (.ref p_number))) (l_number : K.lookup p_number = some ⟨oc_number, od_number, .func (PySem.W.fnOf "number" "number" (defArgs s_number) (defBody s_number) (defScope s_number) .none kV_number dc_number pm_number an_number cd_number ct_number), sl_number⟩) (c_number : PySem.W.codeIn K cd_number "number" = true) (k_number : PySem.W.keepIn K (.ref p_number) = true)
    {p_plus : Addr} {od_plus an_plus : Option Addr} {sl_plus : Array (Option Value)} {oc_plus kV_plus dc_plus pm_plus cd_plus ct_plus : Value}
    (a_plus : PySem.W.nsIn K mainGlobals "plus" = some (some (.ref p_plus))) (l_plus : K.lookup p_plus = some ⟨oc_plus, od_plus, .func (PySem.W.fnOf "plus" "plus" (defArgs s_plus) (defBody s_plus) (defScope s_plus) .none kV_plus dc_plus pm_plus an_plus cd_plus ct_plus), sl_plus⟩) (c_plus : PySem.W.codeIn K cd_plus "plus" = true) (k_plus : PySem.W.keepIn K (.ref p_plus) = true)
    {p_minus : Addr} {od_minus an_minus : Option Addr} {sl_minus : Array (Option Value)} {oc_minus kV_minus dc_minus pm_minus cd_minus ct_minus : Value}
    (a_minus : PySem.W.nsIn K mainGlobals "minus" = some (some (.ref p_minus))) (l_minus : K.lookup p_minus = some ⟨oc_minus, od_minus, .func (PySem.W.fnOf "minus" "minus" (defArgs s_minus) (defBody s_minus) (defScope s_minus) .none kV_minus dc_minus pm_minus an_minus cd_minus ct_minus), sl_minus⟩) (c_minus : PySem.W.codeIn K cd_minus "minus" = true) (k_minus : PySem.W.keepIn K (.ref p_minus) = true)
    {p_times : Addr} {od_times an_times : Option Addr} {sl_times : Array (Option Value)} {oc_times kV_times dc_times pm_times cd_times ct_times : Value}
    (a_times : PySem.W.nsIn K mainGlobals "times" = some (some (.ref p_times))) (l_times : K.lookup p_times = some ⟨oc_times, od_times, .func (PySem.W.fnOf "times" "times" (defArgs s_times) (defBody s_times) (defScope s_times) .none kV_times dc_times pm_times an_times cd_times ct_times), sl_times⟩) (c_times : PySem.W.codeIn K cd_times "times" = true) (k_times : PySem.W.keepIn K (.ref p_times) = true)
    {p_compare : Addr} {od_compare an_compare : Option Addr} {sl_compare : Array (Option Value)} {oc_compare kV_compare dc_compare pm_compare cd_compare ct_compare : Value}
    (a_compare : PySem.W.nsIn K mainGlobals "compare" = some (some (.ref p_compare))) (l_compare : K.lookup p_compare = some ⟨oc_compare, od_compare, .func (PySem.W.fnOf "compare" "compare" (defArgs s_compare) (defBody s_compare) (defScope s_compare) .none kV_compare dc_compare pm_compare an_compare cd_compare ct_compare), sl_compare⟩) (c_compare : PySem.W.codeIn K cd_compare "compare" = true) (k_compare : PySem.W.keepIn K (.ref p_compare) = true)
    {p_whole_factor : Addr} {od_whole_factor an_whole_factor : Option Addr} {sl_whole_factor : Array (Option Value)} {oc_whole_factor kV_whole_factor dc_whole_factor pm_whole_factor cd_whole_factor ct_whole_factor : Value}
    (a_whole_factor : PySem.W.nsIn K mainGlobals "whole_factor" = some (some (.ref p_whole_factor))) (l_whole_factor : K.lookup p_whole_factor = some ⟨oc_whole_factor, od_whole_factor, .func (PySem.W.fnOf "whole_factor" "whole_factor" (defArgs s_whole_factor) (defBody s_whole_factor) (defScope s_whole_factor) .none kV_whole_factor dc_whole_factor pm_whole_factor an_whole_factor cd_whole_factor ct_whole_factor), sl_whole_factor⟩) (c_whole_factor : PySem.W.codeIn K cd_whole_factor "whole_factor" = true) (k_whole_factor : PySem.W.keepIn K (.ref p_whole_factor) = true)
    {p_added_up : Addr} {od_added_up an_added_up : Option Addr} {sl_added_up : Array (Option Value)} {oc_added_up kV_added_up dc_added_up pm_added_up cd_added_up ct_added_up : Value}
    (a_added_up : PySem.W.nsIn K mainGlobals "added_up" = some (some (.ref p_added_up))) (l_added_up : K.lookup p_added_up = some ⟨oc_added_up, od_added_up, .func (PySem.W.fnOf "added_up" "added_up" (defArgs s_added_up) (defBody s_added_up) (defScope s_added_up) .none kV_added_up dc_added_up pm_added_up an_added_up cd_added_up ct_added_up), sl_added_up⟩) (c_added_up : PySem.W.codeIn K cd_added_up "added_up" = true) (k_added_up : PySem.W.keepIn K (.ref p_added_up) = true)
    {p_multiplied : Addr} {od_multiplied an_multiplied : Option Addr} {sl_multiplied : Array (Option Value)} {oc_multiplied kV_multiplied dc_multiplied pm_multiplied cd_multiplied ct_multiplied : Value}
    (a_multiplied : PySem.W.nsIn K mainGlobals "multiplied" = some (some (.ref p_multiplied))) (l_multiplied : K.lookup p_multiplied = some ⟨oc_multiplied, od_multiplied, .func (PySem.W.fnOf "multiplied" "multiplied" (defArgs s_multiplied) (defBody s_multiplied) (defScope s_multiplied) .none kV_multiplied dc_multiplied pm_multiplied an_multiplied cd_multiplied ct_multiplied), sl_multiplied⟩) (c_multiplied : PySem.W.codeIn K cd_multiplied "multiplied" = true) (k_multiplied : PySem.W.keepIn K (.ref p_multiplied) = true)
    {p_normal_factor : Addr} {od_normal_factor an_normal_factor : Option Addr} {sl_normal_factor : Array (Option Value)} {oc_normal_factor kV_normal_factor dc_normal_factor pm_normal_factor cd_normal_factor ct_normal_factor : Value}
    (a_normal_factor : PySem.W.nsIn K mainGlobals "normal_factor" = some (some (.ref p_normal_factor))) (l_normal_factor : K.lookup p_normal_factor = some ⟨oc_normal_factor, od_normal_factor, .func (PySem.W.fnOf "normal_factor" "normal_factor" (defArgs s_normal_factor) (defBody s_normal_factor) (defScope s_normal_factor) .none kV_normal_factor dc_normal_factor pm_normal_factor an_normal_factor cd_normal_factor ct_normal_factor), sl_normal_factor⟩) (c_normal_factor : PySem.W.codeIn K cd_normal_factor "normal_factor" = true) (k_normal_factor : PySem.W.keepIn K (.ref p_normal_factor) = true)
    {p_normal : Addr} {od_normal an_normal : Option Addr} {sl_normal : Array (Option Value)} {oc_normal kV_normal dc_normal pm_normal cd_normal ct_normal : Value}
    (a_normal : PySem.W.nsIn K mainGlobals "normal" = some (some (.ref p_normal))) (l_normal : K.lookup p_normal = some ⟨oc_normal, od_normal, .func (PySem.W.fnOf "normal" "normal" (defArgs s_normal) (defBody s_normal) (defScope s_normal) .none kV_normal dc_normal pm_normal an_normal cd_normal ct_normal), sl_normal⟩) (c_normal : PySem.W.codeIn K cd_normal "normal" = true) (k_normal : PySem.W.keepIn K (.ref p_normal) = true)
    {p_row : Addr} {od_row an_row : Option Addr} {sl_row : Array (Option Value)} {oc_row kV_row dc_row pm_row cd_row ct_row : Value}
    (a_row : PySem.W.nsIn K mainGlobals "row" = some (some (.ref p_row))) (l_row : K.lookup p_row = some ⟨oc_row, od_row, .func (PySem.W.fnOf "row" "row" (defArgs s_row) (defBody s_row) (defScope s_row) .none kV_row dc_row pm_row an_row cd_row ct_row), sl_row⟩) (c_row : PySem.W.codeIn K cd_row "row" = true) (k_row : PySem.W.keepIn K (.ref p_row) = true)
    {p_unknowns : Addr} {od_unknowns an_unknowns : Option Addr} {sl_unknowns : Array (Option Value)} {oc_unknowns kV_unknowns dc_unknowns pm_unknowns cd_unknowns ct_unknowns : Value}
    (a_unknowns : PySem.W.nsIn K mainGlobals "unknowns" = some (some (.ref p_unknowns))) (l_unknowns : K.lookup p_unknowns = some ⟨oc_unknowns, od_unknowns, .func (PySem.W.fnOf "unknowns" "unknowns" (defArgs s_unknowns) (defBody s_unknowns) (defScope s_unknowns) .none kV_unknowns dc_unknowns pm_unknowns an_unknowns cd_unknowns ct_unknowns), sl_unknowns⟩) (c_unknowns : PySem.W.codeIn K cd_unknowns "unknowns" = true) (k_unknowns : PySem.W.keepIn K (.ref p_unknowns) = true)
    {p_value : Addr} {od_value an_value : Option Addr} {sl_value : Array (Option Value)} {oc_value kV_value dc_value pm_value cd_value ct_value : Value}
    (a_value : PySem.W.nsIn K mainGlobals "value" = some (some (.ref p_value))) (l_value : K.lookup p_value = some ⟨oc_value, od_value, .func (PySem.W.fnOf "value" "value" (defArgs s_value) (defBody s_value) (defScope s_value) .none kV_value dc_value pm_value an_value cd_value ct_value), sl_value⟩) (c_value : PySem.W.codeIn K cd_value "value" = true) (k_value : PySem.W.keepIn K (.ref p_value) = true)
    {p_holds : Addr} {od_holds an_holds : Option Addr} {sl_holds : Array (Option Value)} {oc_holds kV_holds dc_holds pm_holds cd_holds ct_holds : Value}
    (a_holds : PySem.W.nsIn K mainGlobals "holds" = some (some (.ref p_holds))) (l_holds : K.lookup p_holds = some ⟨oc_holds, od_holds, .func (PySem.W.fnOf "holds" "holds" (defArgs s_holds) (defBody s_holds) (defScope s_holds) .none kV_holds dc_holds pm_holds an_holds cd_holds ct_holds), sl_holds⟩) (c_holds : PySem.W.codeIn K cd_holds "holds" = true) (k_holds : PySem.W.keepIn K (.ref p_holds) = true)
    {p_opposites : Addr} {od_opposites an_opposites : Option Addr} {sl_opposites : Array (Option Value)} {oc_opposites kV_opposites dc_opposites pm_opposites cd_opposites ct_opposites : Value}
    (a_opposites : PySem.W.nsIn K mainGlobals "opposites" = some (some (.ref p_opposites))) (l_opposites : K.lookup p_opposites = some ⟨oc_opposites, od_opposites, .func (PySem.W.fnOf "opposites" "opposites" (defArgs s_opposites) (defBody s_opposites) (defScope s_opposites) .none kV_opposites dc_opposites pm_opposites an_opposites cd_opposites ct_opposites), sl_opposites⟩) (c_opposites : PySem.W.codeIn K cd_opposites "opposites" = true) (k_opposites : PySem.W.keepIn K (.ref p_opposites) = true)
    {p_is_true : Addr} {od_is_true an_is_true : Option Addr} {sl_is_true : Array (Option Value)} {oc_is_true kV_is_true dc_is_true pm_is_true cd_is_true ct_is_true : Value}
    (a_is_true : PySem.W.nsIn K mainGlobals "is_true" = some (some (.ref p_is_true))) (l_is_true : K.lookup p_is_true = some ⟨oc_is_true, od_is_true, .func (PySem.W.fnOf "is_true" "is_true" (defArgs s_is_true) (defBody s_is_true) (defScope s_is_true) .none kV_is_true dc_is_true pm_is_true an_is_true cd_is_true ct_is_true), sl_is_true⟩) (c_is_true : PySem.W.codeIn K cd_is_true "is_true" = true) (k_is_true : PySem.W.keepIn K (.ref p_is_true) = true)
    {p__joined : Addr} {od__joined an__joined : Option Addr} {sl__joined : Array (Option Value)} {oc__joined kV__joined dc__joined pm__joined cd__joined ct__joined : Value}
    (a__joined : PySem.W.nsIn K mainGlobals "_joined" = some (some (.ref p__joined))) (l__joined : K.lookup p__joined = some ⟨oc__joined, od__joined, .func (PySem.W.fnOf "_joined" "_joined" (defArgs s__joined) (defBody s__joined) (defScope s__joined) .none kV__joined dc__joined pm__joined an__joined cd__joined ct__joined), sl__joined⟩) (c__joined : PySem.W.codeIn K cd__joined "_joined" = true) (k__joined : PySem.W.keepIn K (.ref p__joined) = true)
    {p_plain : Addr} {od_plain an_plain : Option Addr} {sl_plain : Array (Option Value)} {oc_plain kV_plain dc_plain pm_plain cd_plain ct_plain : Value}
    (a_plain : PySem.W.nsIn K mainGlobals "plain" = some (some (.ref p_plain))) (l_plain : K.lookup p_plain = some ⟨oc_plain, od_plain, .func (PySem.W.fnOf "plain" "plain" (defArgs s_plain) (defBody s_plain) (defScope s_plain) .none kV_plain dc_plain pm_plain an_plain cd_plain ct_plain), sl_plain⟩) (c_plain : PySem.W.codeIn K cd_plain "plain" = true) (k_plain : PySem.W.keepIn K (.ref p_plain) = true)
    {p__plain_not : Addr} {od__plain_not an__plain_not : Option Addr} {sl__plain_not : Array (Option Value)} {oc__plain_not kV__plain_not dc__plain_not pm__plain_not cd__plain_not ct__plain_not : Value}
    (a__plain_not : PySem.W.nsIn K mainGlobals "_plain_not" = some (some (.ref p__plain_not))) (l__plain_not : K.lookup p__plain_not = some ⟨oc__plain_not, od__plain_not, .func (PySem.W.fnOf "_plain_not" "_plain_not" (defArgs s__plain_not) (defBody s__plain_not) (defScope s__plain_not) .none kV__plain_not dc__plain_not pm__plain_not an__plain_not cd__plain_not ct__plain_not), sl__plain_not⟩) (c__plain_not : PySem.W.codeIn K cd__plain_not "_plain_not" = true) (k__plain_not : PySem.W.keepIn K (.ref p__plain_not) = true)
    {p__parts : Addr} {od__parts an__parts : Option Addr} {sl__parts : Array (Option Value)} {oc__parts kV__parts dc__parts pm__parts cd__parts ct__parts : Value}
    (a__parts : PySem.W.nsIn K mainGlobals "_parts" = some (some (.ref p__parts))) (l__parts : K.lookup p__parts = some ⟨oc__parts, od__parts, .func (PySem.W.fnOf "_parts" "_parts" (defArgs s__parts) (defBody s__parts) (defScope s__parts) .none kV__parts dc__parts pm__parts an__parts cd__parts ct__parts), sl__parts⟩) (c__parts : PySem.W.codeIn K cd__parts "_parts" = true) (k__parts : PySem.W.keepIn K (.ref p__parts) = true)
    {p__all_in : Addr} {od__all_in an__all_in : Option Addr} {sl__all_in : Array (Option Value)} {oc__all_in kV__all_in dc__all_in pm__all_in cd__all_in ct__all_in : Value}
    (a__all_in : PySem.W.nsIn K mainGlobals "_all_in" = some (some (.ref p__all_in))) (l__all_in : K.lookup p__all_in = some ⟨oc__all_in, od__all_in, .func (PySem.W.fnOf "_all_in" "_all_in" (defArgs s__all_in) (defBody s__all_in) (defScope s__all_in) .none kV__all_in dc__all_in pm__all_in an__all_in cd__all_in ct__all_in), sl__all_in⟩) (c__all_in : PySem.W.codeIn K cd__all_in "_all_in" = true) (k__all_in : PySem.W.keepIn K (.ref p__all_in) = true)
    {p_unknowns_of : Addr} {od_unknowns_of an_unknowns_of : Option Addr} {sl_unknowns_of : Array (Option Value)} {oc_unknowns_of kV_unknowns_of dc_unknowns_of pm_unknowns_of cd_unknowns_of ct_unknowns_of : Value}
    (a_unknowns_of : PySem.W.nsIn K mainGlobals "unknowns_of" = some (some (.ref p_unknowns_of))) (l_unknowns_of : K.lookup p_unknowns_of = some ⟨oc_unknowns_of, od_unknowns_of, .func (PySem.W.fnOf "unknowns_of" "unknowns_of" (defArgs s_unknowns_of) (defBody s_unknowns_of) (defScope s_unknowns_of) .none kV_unknowns_of dc_unknowns_of pm_unknowns_of an_unknowns_of cd_unknowns_of ct_unknowns_of), sl_unknowns_of⟩) (c_unknowns_of : PySem.W.codeIn K cd_unknowns_of "unknowns_of" = true) (k_unknowns_of : PySem.W.keepIn K (.ref p_unknowns_of) = true)
    {p__law_cell : Addr} {od__law_cell an__law_cell : Option Addr} {sl__law_cell : Array (Option Value)} {oc__law_cell kV__law_cell dc__law_cell pm__law_cell cd__law_cell ct__law_cell : Value}
    (a__law_cell : PySem.W.nsIn K mainGlobals "_law_cell" = some (some (.ref p__law_cell))) (l__law_cell : K.lookup p__law_cell = some ⟨oc__law_cell, od__law_cell, .func (PySem.W.fnOf "_law_cell" "_law_cell" (defArgs s__law_cell) (defBody s__law_cell) (defScope s__law_cell) .none kV__law_cell dc__law_cell pm__law_cell an__law_cell cd__law_cell ct__law_cell), sl__law_cell⟩) (c__law_cell : PySem.W.codeIn K cd__law_cell "_law_cell" = true) (k__law_cell : PySem.W.keepIn K (.ref p__law_cell) = true)
    {p__law_draw : Addr} {od__law_draw an__law_draw : Option Addr} {sl__law_draw : Array (Option Value)} {oc__law_draw kV__law_draw dc__law_draw pm__law_draw cd__law_draw ct__law_draw : Value}
    (a__law_draw : PySem.W.nsIn K mainGlobals "_law_draw" = some (some (.ref p__law_draw))) (l__law_draw : K.lookup p__law_draw = some ⟨oc__law_draw, od__law_draw, .func (PySem.W.fnOf "_law_draw" "_law_draw" (defArgs s__law_draw) (defBody s__law_draw) (defScope s__law_draw) .none kV__law_draw dc__law_draw pm__law_draw an__law_draw cd__law_draw ct__law_draw), sl__law_draw⟩) (c__law_draw : PySem.W.codeIn K cd__law_draw "_law_draw" = true) (k__law_draw : PySem.W.keepIn K (.ref p__law_draw) = true)
    {p__law_row : Addr} {od__law_row an__law_row : Option Addr} {sl__law_row : Array (Option Value)} {oc__law_row kV__law_row dc__law_row pm__law_row cd__law_row ct__law_row : Value}
    (a__law_row : PySem.W.nsIn K mainGlobals "_law_row" = some (some (.ref p__law_row))) (l__law_row : K.lookup p__law_row = some ⟨oc__law_row, od__law_row, .func (PySem.W.fnOf "_law_row" "_law_row" (defArgs s__law_row) (defBody s__law_row) (defScope s__law_row) .none kV__law_row dc__law_row pm__law_row an__law_row cd__law_row ct__law_row), sl__law_row⟩) (c__law_row : PySem.W.codeIn K cd__law_row "_law_row" = true) (k__law_row : PySem.W.keepIn K (.ref p__law_row) = true)
    {p__law_formula : Addr} {od__law_formula an__law_formula : Option Addr} {sl__law_formula : Array (Option Value)} {oc__law_formula kV__law_formula dc__law_formula pm__law_formula cd__law_formula ct__law_formula : Value}
    (a__law_formula : PySem.W.nsIn K mainGlobals "_law_formula" = some (some (.ref p__law_formula))) (l__law_formula : K.lookup p__law_formula = some ⟨oc__law_formula, od__law_formula, .func (PySem.W.fnOf "_law_formula" "_law_formula" (defArgs s__law_formula) (defBody s__law_formula) (defScope s__law_formula) .none kV__law_formula dc__law_formula pm__law_formula an__law_formula cd__law_formula ct__law_formula), sl__law_formula⟩) (c__law_formula : PySem.W.codeIn K cd__law_formula "_law_formula" = true) (k__law_formula : PySem.W.keepIn K (.ref p__law_formula) = true)
    {p__law_some : Addr} {od__law_some an__law_some : Option Addr} {sl__law_some : Array (Option Value)} {oc__law_some kV__law_some dc__law_some pm__law_some cd__law_some ct__law_some : Value}
    (a__law_some : PySem.W.nsIn K mainGlobals "_law_some" = some (some (.ref p__law_some))) (l__law_some : K.lookup p__law_some = some ⟨oc__law_some, od__law_some, .func (PySem.W.fnOf "_law_some" "_law_some" (defArgs s__law_some) (defBody s__law_some) (defScope s__law_some) .none kV__law_some dc__law_some pm__law_some an__law_some cd__law_some ct__law_some), sl__law_some⟩) (c__law_some : PySem.W.codeIn K cd__law_some "_law_some" = true) (k__law_some : PySem.W.keepIn K (.ref p__law_some) = true)
    {p__law_number : Addr} {od__law_number an__law_number : Option Addr} {sl__law_number : Array (Option Value)} {oc__law_number kV__law_number dc__law_number pm__law_number cd__law_number ct__law_number : Value}
    (a__law_number : PySem.W.nsIn K mainGlobals "_law_number" = some (some (.ref p__law_number))) (l__law_number : K.lookup p__law_number = some ⟨oc__law_number, od__law_number, .func (PySem.W.fnOf "_law_number" "_law_number" (defArgs s__law_number) (defBody s__law_number) (defScope s__law_number) .none kV__law_number dc__law_number pm__law_number an__law_number cd__law_number ct__law_number), sl__law_number⟩) (c__law_number : PySem.W.codeIn K cd__law_number "_law_number" = true) (k__law_number : PySem.W.keepIn K (.ref p__law_number) = true)
    {p__law_holds : Addr} {od__law_holds an__law_holds : Option Addr} {sl__law_holds : Array (Option Value)} {oc__law_holds kV__law_holds dc__law_holds pm__law_holds cd__law_holds ct__law_holds : Value}
    (a__law_holds : PySem.W.nsIn K mainGlobals "_law_holds" = some (some (.ref p__law_holds))) (l__law_holds : K.lookup p__law_holds = some ⟨oc__law_holds, od__law_holds, .func (PySem.W.fnOf "_law_holds" "_law_holds" (defArgs s__law_holds) (defBody s__law_holds) (defScope s__law_holds) .none kV__law_holds dc__law_holds pm__law_holds an__law_holds cd__law_holds ct__law_holds), sl__law_holds⟩) (c__law_holds : PySem.W.codeIn K cd__law_holds "_law_holds" = true) (k__law_holds : PySem.W.keepIn K (.ref p__law_holds) = true)
    {p__law_true : Addr} {od__law_true an__law_true : Option Addr} {sl__law_true : Array (Option Value)} {oc__law_true kV__law_true dc__law_true pm__law_true cd__law_true ct__law_true : Value}
    (a__law_true : PySem.W.nsIn K mainGlobals "_law_true" = some (some (.ref p__law_true))) (l__law_true : K.lookup p__law_true = some ⟨oc__law_true, od__law_true, .func (PySem.W.fnOf "_law_true" "_law_true" (defArgs s__law_true) (defBody s__law_true) (defScope s__law_true) .none kV__law_true dc__law_true pm__law_true an__law_true cd__law_true ct__law_true), sl__law_true⟩) (c__law_true : PySem.W.codeIn K cd__law_true "_law_true" = true) (k__law_true : PySem.W.keepIn K (.ref p__law_true) = true)
    {p__law_point : Addr} {od__law_point an__law_point : Option Addr} {sl__law_point : Array (Option Value)} {oc__law_point kV__law_point dc__law_point pm__law_point cd__law_point ct__law_point : Value}
    (a__law_point : PySem.W.nsIn K mainGlobals "_law_point" = some (some (.ref p__law_point))) (l__law_point : K.lookup p__law_point = some ⟨oc__law_point, od__law_point, .func (PySem.W.fnOf "_law_point" "_law_point" (defArgs s__law_point) (defBody s__law_point) (defScope s__law_point) .none kV__law_point dc__law_point pm__law_point an__law_point cd__law_point ct__law_point), sl__law_point⟩) (c__law_point : PySem.W.codeIn K cd__law_point "_law_point" = true) (k__law_point : PySem.W.keepIn K (.ref p__law_point) = true)
    {p__law_opposite : Addr} {od__law_opposite an__law_opposite : Option Addr} {sl__law_opposite : Array (Option Value)} {oc__law_opposite kV__law_opposite dc__law_opposite pm__law_opposite cd__law_opposite ct__law_opposite : Value}
    (a__law_opposite : PySem.W.nsIn K mainGlobals "_law_opposite" = some (some (.ref p__law_opposite))) (l__law_opposite : K.lookup p__law_opposite = some ⟨oc__law_opposite, od__law_opposite, .func (PySem.W.fnOf "_law_opposite" "_law_opposite" (defArgs s__law_opposite) (defBody s__law_opposite) (defScope s__law_opposite) .none kV__law_opposite dc__law_opposite pm__law_opposite an__law_opposite cd__law_opposite ct__law_opposite), sl__law_opposite⟩) (c__law_opposite : PySem.W.codeIn K cd__law_opposite "_law_opposite" = true) (k__law_opposite : PySem.W.keepIn K (.ref p__law_opposite) = true)
    {p__law_plain : Addr} {od__law_plain an__law_plain : Option Addr} {sl__law_plain : Array (Option Value)} {oc__law_plain kV__law_plain dc__law_plain pm__law_plain cd__law_plain ct__law_plain : Value}
    (a__law_plain : PySem.W.nsIn K mainGlobals "_law_plain" = some (some (.ref p__law_plain))) (l__law_plain : K.lookup p__law_plain = some ⟨oc__law_plain, od__law_plain, .func (PySem.W.fnOf "_law_plain" "_law_plain" (defArgs s__law_plain) (defBody s__law_plain) (defScope s__law_plain) .none kV__law_plain dc__law_plain pm__law_plain an__law_plain cd__law_plain ct__law_plain), sl__law_plain⟩) (c__law_plain : PySem.W.codeIn K cd__law_plain "_law_plain" = true) (k__law_plain : PySem.W.keepIn K (.ref p__law_plain) = true)
    {p__law_many : Addr} {od__law_many an__law_many : Option Addr} {sl__law_many : Array (Option Value)} {oc__law_many kV__law_many dc__law_many pm__law_many cd__law_many ct__law_many : Value}
    (a__law_many : PySem.W.nsIn K mainGlobals "_law_many" = some (some (.ref p__law_many))) (l__law_many : K.lookup p__law_many = some ⟨oc__law_many, od__law_many, .func (PySem.W.fnOf "_law_many" "_law_many" (defArgs s__law_many) (defBody s__law_many) (defScope s__law_many) .none kV__law_many dc__law_many pm__law_many an__law_many cd__law_many ct__law_many), sl__law_many⟩) (c__law_many : PySem.W.codeIn K cd__law_many "_law_many" = true) (k__law_many : PySem.W.keepIn K (.ref p__law_many) = true)
    {p_law : Addr} {od_law an_law : Option Addr} {sl_law : Array (Option Value)} {oc_law kV_law dc_law pm_law cd_law ct_law : Value}
    (a_law : PySem.W.nsIn K mainGlobals "law" = some (some (.ref p_law))) (l_law : K.lookup p_law = some ⟨oc_law, od_law, .func (PySem.W.fnOf "law" "law" (defArgs s_law) (defBody s_law) (defScope s_law) .none kV_law dc_law pm_law an_law cd_law ct_law), sl_law⟩) (c_law : PySem.W.codeIn K cd_law "law" = true) (k_law : PySem.W.keepIn K (.ref p_law) = true)
    (z_abs : PySem.W.nsIn K mainGlobals "abs" = some none)
    (z_all : PySem.W.nsIn K mainGlobals "all" = some none)
    (z_any : PySem.W.nsIn K mainGlobals "any" = some none)
    (z_bool : PySem.W.nsIn K mainGlobals "bool" = some none)
    (z_dict : PySem.W.nsIn K mainGlobals "dict" = some none)
    (z_int : PySem.W.nsIn K mainGlobals "int" = some none)
    (z_isinstance : PySem.W.nsIn K mainGlobals "isinstance" = some none)
    (z_len : PySem.W.nsIn K mainGlobals "len" = some none)
    (z_list : PySem.W.nsIn K mainGlobals "list" = some none)
    (z_min : PySem.W.nsIn K mainGlobals "min" = some none)
    (z_range : PySem.W.nsIn K mainGlobals "range" = some none)
    (z_sorted : PySem.W.nsIn K mainGlobals "sorted" = some none)
    (z_tuple : PySem.W.nsIn K mainGlobals "tuple" = some none)
    (z_gcd : PySem.W.nsIn K mainGlobals "gcd" = some (some (.builtin "math.gcd")))
    (z_lcm : PySem.W.nsIn K mainGlobals "lcm" = some (some (.builtin "math.lcm")))
    {C_NumberError : Addr} (a_NumberError : PySem.W.nsIn K mainGlobals "NumberError" = some (some (.ref C_NumberError))) (e_NumberError : PySem.W.excIn K C_NumberError [.type "ValueError", .type "Exception", .type "BaseException", .type "object"] "ValueError.__new__" = true) (k_NumberError : PySem.W.keepIn K (.ref C_NumberError) = true) (b_NumberError : PySem.W.subIn K (.ref C_NumberError) (.type "BaseException") = some true) (t_NumberError : PySem.W.typeIn K (.ref C_NumberError) = some (.type "type")) (i_NumberError : PySem.W.isClsIn K C_NumberError = true) (s_NumberError : PySem.W.subIn K (.ref C_NumberError) (.ref C_NumberError) = some true)
    {p_TURNED_formulas : Addr} {es_TURNED_formulas : Array DictEntry} {n_TURNED_formulas : Nat} {t_TURNED_formulas_0 t_TURNED_formulas_1 t_TURNED_formulas_2 t_TURNED_formulas_3 : Tok}
    (a_TURNED_formulas : PySem.W.nsIn K mainGlobals "TURNED_formulas" = some (some (.ref p_TURNED_formulas))) (l_TURNED_formulas : K.lookup p_TURNED_formulas = some ⟨.type "dict", none, .dict es_TURNED_formulas n_TURNED_formulas, #[]⟩) (q_TURNED_formulas : PySem.W.KeysLit w.params es_TURNED_formulas.toList) (r_TURNED_formulas : (p_TURNED_formulas == sysModules) = false)
    (g0_TURNED_formulas : PySem.W.nsIn K p_TURNED_formulas "and" = some (some (.str "or" t_TURNED_formulas_0)))
    (g1_TURNED_formulas : PySem.W.nsIn K p_TURNED_formulas "or" = some (some (.str "and" t_TURNED_formulas_1)))
    (g2_TURNED_formulas : PySem.W.nsIn K p_TURNED_formulas "true" = some (some (.str "false" t_TURNED_formulas_2)))
    (g3_TURNED_formulas : PySem.W.nsIn K p_TURNED_formulas "false" = some (some (.str "true" t_TURNED_formulas_3)))
    (m0_TURNED_formulas : PySem.W.nsIn K p_TURNED_formulas "<=" = some none)
    (m1_TURNED_formulas : PySem.W.nsIn K p_TURNED_formulas "<" = some none)
    (m2_TURNED_formulas : PySem.W.nsIn K p_TURNED_formulas "=" = some none)
    (m3_TURNED_formulas : PySem.W.nsIn K p_TURNED_formulas ">=" = some none)
    (m4_TURNED_formulas : PySem.W.nsIn K p_TURNED_formulas ">" = some none)
    {p_TURNED_rows : Addr} {es_TURNED_rows : Array DictEntry} {n_TURNED_rows : Nat} {t_TURNED_rows_0 t_TURNED_rows_1 : Tok}
    (a_TURNED_rows : PySem.W.nsIn K mainGlobals "TURNED_rows" = some (some (.ref p_TURNED_rows))) (l_TURNED_rows : K.lookup p_TURNED_rows = some ⟨.type "dict", none, .dict es_TURNED_rows n_TURNED_rows, #[]⟩) (q_TURNED_rows : PySem.W.KeysLit w.params es_TURNED_rows.toList) (r_TURNED_rows : (p_TURNED_rows == sysModules) = false)
    (g0_TURNED_rows : PySem.W.nsIn K p_TURNED_rows ">=" = some (some (.str "<=" t_TURNED_rows_0)))
    (g1_TURNED_rows : PySem.W.nsIn K p_TURNED_rows ">" = some (some (.str "<" t_TURNED_rows_1)))
    (m0_TURNED_rows : PySem.W.nsIn K p_TURNED_rows "<=" = some none)
    (m1_TURNED_rows : PySem.W.nsIn K p_TURNED_rows "<" = some none)
    (m2_TURNED_rows : PySem.W.nsIn K p_TURNED_rows "=" = some none)
    {p_MINUS_ONE : Addr} {sl_MINUS_ONE : Array (Option Value)} {n_MINUS_ONE : Nat} {t_MINUS_ONE_0 t_MINUS_ONE_1 : Tok}
    (a_MINUS_ONE : PySem.W.nsIn K mainGlobals "MINUS_ONE" = some (some (.ref p_MINUS_ONE))) (l_MINUS_ONE : K.lookup p_MINUS_ONE = some ⟨.type "tuple", none, .seq #[.int (-1) t_MINUS_ONE_0, .int 1 t_MINUS_ONE_1] n_MINUS_ONE, sl_MINUS_ONE⟩)
    {p_ONE : Addr} {sl_ONE : Array (Option Value)} {n_ONE : Nat} {t_ONE_0 t_ONE_1 : Tok}
    (a_ONE : PySem.W.nsIn K mainGlobals "ONE" = some (some (.ref p_ONE))) (l_ONE : K.lookup p_ONE = some ⟨.type "tuple", none, .seq #[.int 1 t_ONE_0, .int 1 t_ONE_1] n_ONE, sl_ONE⟩)
    {p_ZERO : Addr} {sl_ZERO : Array (Option Value)} {n_ZERO : Nat} {t_ZERO_0 t_ZERO_1 : Tok}
    (a_ZERO : PySem.W.nsIn K mainGlobals "ZERO" = some (some (.ref p_ZERO))) (l_ZERO : K.lookup p_ZERO = some ⟨.type "tuple", none, .seq #[.int 0 t_ZERO_0, .int 1 t_ZERO_1] n_ZERO, sl_ZERO⟩)
    {p__JOINING : Addr} {sl__JOINING : Array (Option Value)} {n__JOINING : Nat} {t__JOINING_0 t__JOINING_1 : Tok}
    (a__JOINING : PySem.W.nsIn K mainGlobals "_JOINING" = some (some (.ref p__JOINING))) (l__JOINING : K.lookup p__JOINING = some ⟨.type "tuple", none, .seq #[.str "and" t__JOINING_0, .str "or" t__JOINING_1] n__JOINING, sl__JOINING⟩) : Txt w K mg :=
  { f_number := ⟨_, _, fun_mk (st := s_number) l_number c_number k_number, PySem.W.mg_of X G a_number⟩,
    f_plus := ⟨_, _, fun_mk (st := s_plus) l_plus c_plus k_plus, PySem.W.mg_of X G a_plus⟩,
    f_minus := ⟨_, _, fun_mk (st := s_minus) l_minus c_minus k_minus, PySem.W.mg_of X G a_minus⟩,
    f_times := ⟨_, _, fun_mk (st := s_times) l_times c_times k_times, PySem.W.mg_of X G a_times⟩,
    f_compare := ⟨_, _, fun_mk (st := s_compare) l_compare c_compare k_compare, PySem.W.mg_of X G a_compare⟩,
    f_whole_factor := ⟨_, _, fun_mk (st := s_whole_factor) l_whole_factor c_whole_factor k_whole_factor, PySem.W.mg_of X G a_whole_factor⟩,
    f_added_up := ⟨_, _, fun_mk (st := s_added_up) l_added_up c_added_up k_added_up, PySem.W.mg_of X G a_added_up⟩,
    f_multiplied := ⟨_, _, fun_mk (st := s_multiplied) l_multiplied c_multiplied k_multiplied, PySem.W.mg_of X G a_multiplied⟩,
    f_normal_factor := ⟨_, _, fun_mk (st := s_normal_factor) l_normal_factor c_normal_factor k_normal_factor, PySem.W.mg_of X G a_normal_factor⟩,
    f_normal := ⟨_, _, fun_mk (st := s_normal) l_normal c_normal k_normal, PySem.W.mg_of X G a_normal⟩,
    f_row := ⟨_, _, fun_mk (st := s_row) l_row c_row k_row, PySem.W.mg_of X G a_row⟩,
    f_unknowns := ⟨_, _, fun_mk (st := s_unknowns) l_unknowns c_unknowns k_unknowns, PySem.W.mg_of X G a_unknowns⟩,
    f_value := ⟨_, _, fun_mk (st := s_value) l_value c_value k_value, PySem.W.mg_of X G a_value⟩,
    f_holds := ⟨_, _, fun_mk (st := s_holds) l_holds c_holds k_holds, PySem.W.mg_of X G a_holds⟩,
    f_opposites := ⟨_, _, fun_mk (st := s_opposites) l_opposites c_opposites k_opposites, PySem.W.mg_of X G a_opposites⟩,
    f_is_true := ⟨_, _, fun_mk (st := s_is_true) l_is_true c_is_true k_is_true, PySem.W.mg_of X G a_is_true⟩,
    f__joined := ⟨_, _, fun_mk (st := s__joined) l__joined c__joined k__joined, PySem.W.mg_of X G a__joined⟩,
    f_plain := ⟨_, _, fun_mk (st := s_plain) l_plain c_plain k_plain, PySem.W.mg_of X G a_plain⟩,
    f__plain_not := ⟨_, _, fun_mk (st := s__plain_not) l__plain_not c__plain_not k__plain_not, PySem.W.mg_of X G a__plain_not⟩,
    f__parts := ⟨_, _, fun_mk (st := s__parts) l__parts c__parts k__parts, PySem.W.mg_of X G a__parts⟩,
    f__all_in := ⟨_, _, fun_mk (st := s__all_in) l__all_in c__all_in k__all_in, PySem.W.mg_of X G a__all_in⟩,
    f_unknowns_of := ⟨_, _, fun_mk (st := s_unknowns_of) l_unknowns_of c_unknowns_of k_unknowns_of, PySem.W.mg_of X G a_unknowns_of⟩,
    f__law_cell := ⟨_, _, fun_mk (st := s__law_cell) l__law_cell c__law_cell k__law_cell, PySem.W.mg_of X G a__law_cell⟩,
    f__law_draw := ⟨_, _, fun_mk (st := s__law_draw) l__law_draw c__law_draw k__law_draw, PySem.W.mg_of X G a__law_draw⟩,
    f__law_row := ⟨_, _, fun_mk (st := s__law_row) l__law_row c__law_row k__law_row, PySem.W.mg_of X G a__law_row⟩,
    f__law_formula := ⟨_, _, fun_mk (st := s__law_formula) l__law_formula c__law_formula k__law_formula, PySem.W.mg_of X G a__law_formula⟩,
    f__law_some := ⟨_, _, fun_mk (st := s__law_some) l__law_some c__law_some k__law_some, PySem.W.mg_of X G a__law_some⟩,
    f__law_number := ⟨_, _, fun_mk (st := s__law_number) l__law_number c__law_number k__law_number, PySem.W.mg_of X G a__law_number⟩,
    f__law_holds := ⟨_, _, fun_mk (st := s__law_holds) l__law_holds c__law_holds k__law_holds, PySem.W.mg_of X G a__law_holds⟩,
    f__law_true := ⟨_, _, fun_mk (st := s__law_true) l__law_true c__law_true k__law_true, PySem.W.mg_of X G a__law_true⟩,
    f__law_point := ⟨_, _, fun_mk (st := s__law_point) l__law_point c__law_point k__law_point, PySem.W.mg_of X G a__law_point⟩,
    f__law_opposite := ⟨_, _, fun_mk (st := s__law_opposite) l__law_opposite c__law_opposite k__law_opposite, PySem.W.mg_of X G a__law_opposite⟩,
    f__law_plain := ⟨_, _, fun_mk (st := s__law_plain) l__law_plain c__law_plain k__law_plain, PySem.W.mg_of X G a__law_plain⟩,
    f__law_many := ⟨_, _, fun_mk (st := s__law_many) l__law_many c__law_many k__law_many, PySem.W.mg_of X G a__law_many⟩,
    f_law := ⟨_, _, fun_mk (st := s_law) l_law c_law k_law, PySem.W.mg_of X G a_law⟩,
    z_abs := PySem.W.mg_none_of X G z_abs,
    z_all := PySem.W.mg_none_of X G z_all,
    z_any := PySem.W.mg_none_of X G z_any,
    z_bool := PySem.W.mg_none_of X G z_bool,
    z_dict := PySem.W.mg_none_of X G z_dict,
    z_int := PySem.W.mg_none_of X G z_int,
    z_isinstance := PySem.W.mg_none_of X G z_isinstance,
    z_len := PySem.W.mg_none_of X G z_len,
    z_list := PySem.W.mg_none_of X G z_list,
    z_min := PySem.W.mg_none_of X G z_min,
    z_range := PySem.W.mg_none_of X G z_range,
    z_sorted := PySem.W.mg_none_of X G z_sorted,
    z_tuple := PySem.W.mg_none_of X G z_tuple,
    z_gcd := PySem.W.mg_of X G z_gcd,
    z_lcm := PySem.W.mg_of X G z_lcm,
    x_NumberError := ⟨_, ⟨PySem.W.mg_of X G a_NumberError, e_NumberError, k_NumberError, b_NumberError, t_NumberError, i_NumberError, s_NumberError⟩⟩,
    c_TURNED_formulas := ⟨p_TURNED_formulas, es_TURNED_formulas, n_TURNED_formulas, PySem.W.mg_of X G a_TURNED_formulas, ⟨l_TURNED_formulas, q_TURNED_formulas, r_TURNED_formulas⟩, by simp only [List.forall_mem_cons]; exact ⟨⟨_, g0_TURNED_formulas⟩, ⟨_, g1_TURNED_formulas⟩, ⟨_, g2_TURNED_formulas⟩, ⟨_, g3_TURNED_formulas⟩, fun _ h => by cases h⟩, by simp only [List.forall_mem_cons]; exact ⟨m0_TURNED_formulas, m1_TURNED_formulas, m2_TURNED_formulas, m3_TURNED_formulas, m4_TURNED_formulas, fun _ h => by cases h⟩⟩,
    c_TURNED_rows := ⟨p_TURNED_rows, es_TURNED_rows, n_TURNED_rows, PySem.W.mg_of X G a_TURNED_rows, ⟨l_TURNED_rows, q_TURNED_rows, r_TURNED_rows⟩, by simp only [List.forall_mem_cons]; exact ⟨⟨_, g0_TURNED_rows⟩, ⟨_, g1_TURNED_rows⟩, fun _ h => by cases h⟩, by simp only [List.forall_mem_cons]; exact ⟨m0_TURNED_rows, m1_TURNED_rows, m2_TURNED_rows, fun _ h => by cases h⟩⟩,
    c_MINUS_ONE := ⟨.ref p_MINUS_ONE, .ref p_MINUS_ONE, PySem.W.mg_of X G a_MINUS_ONE, rfl, fun G => .tup (.inr ⟨_, _, _, rfl, l_MINUS_ONE, rfl, rfl, by show 2 ≤ sizeLine; decide, (.cons (show RelV (V.int (-1)) (Value.int (-1) t_MINUS_ONE_0) from ⟨_, rfl⟩) (.cons (show RelV (V.int 1) (Value.int 1 t_MINUS_ONE_1) from ⟨_, rfl⟩) .nil))⟩) (.cons (.int _) (.cons (.int _) .nil))⟩,
    c_ONE := ⟨.ref p_ONE, .ref p_ONE, PySem.W.mg_of X G a_ONE, rfl, fun G => .tup (.inr ⟨_, _, _, rfl, l_ONE, rfl, rfl, by show 2 ≤ sizeLine; decide, (.cons (show RelV (V.int 1) (Value.int 1 t_ONE_0) from ⟨_, rfl⟩) (.cons (show RelV (V.int 1) (Value.int 1 t_ONE_1) from ⟨_, rfl⟩) .nil))⟩) (.cons (.int _) (.cons (.int _) .nil))⟩,
    c_ZERO := ⟨.ref p_ZERO, .ref p_ZERO, PySem.W.mg_of X G a_ZERO, rfl, fun G => .tup (.inr ⟨_, _, _, rfl, l_ZERO, rfl, rfl, by show 2 ≤ sizeLine; decide, (.cons (show RelV (V.int 0) (Value.int 0 t_ZERO_0) from ⟨_, rfl⟩) (.cons (show RelV (V.int 1) (Value.int 1 t_ZERO_1) from ⟨_, rfl⟩) .nil))⟩) (.cons (.int _) (.cons (.int _) .nil))⟩,
    c__JOINING := ⟨.ref p__JOINING, .ref p__JOINING, PySem.W.mg_of X G a__JOINING, rfl, fun G => .tup (.inr ⟨_, _, _, rfl, l__JOINING, rfl, rfl, by show 2 ≤ sizeLine; decide, (.cons (show RelV (V.str "and") (Value.str "and" t__JOINING_0) from ⟨_, rfl⟩) (.cons (show RelV (V.str "or") (Value.str "or" t__JOINING_1) from ⟨_, rfl⟩) .nil))⟩) (.cons (.str _) (.cons (.str _) .nil))⟩ }
theorem all_mk {P : Program} {w : World} {K : PySem.W.Frag} {h : Heap} {mg : Str → Option Value} {fa : Addr} (X : K.In h) (G : h.Ns mainGlobals mg) (hfa : mg "law" = some (.ref fa)) (hl : ∀ ns : List Int, ns.length ≤ 63 → B_law (.list (ns.map PyData.int)) = .ok (.bool true))
    {p_number : Addr} {od_number an_number : Option Addr} {sl_number : Array (Option Value)} {oc_number kV_number dc_number pm_number cd_number ct_number : Value}
    (a_number : PySem.W.nsIn K mainGlobals "number" = some (some (.ref p_number))) (l_number : K.lookup p_number = some ⟨oc_number, od_number, .func (PySem.W.fnOf "number" "number" (defArgs s_number) (defBody s_number) (defScope s_number) .none kV_number dc_number pm_number an_number cd_number ct_number), sl_number⟩) (c_number : PySem.W.codeIn K cd_number "number" = true) (k_number : PySem.W.keepIn K (.ref p_number) = true)
    {p_plus : Addr} {od_plus an_plus : Option Addr} {sl_plus : Array (Option Value)} {oc_plus kV_plus dc_plus pm_plus cd_plus ct_plus : Value}
    (a_plus : PySem.W.nsIn K mainGlobals "plus" = some (some (.ref p_plus))) (l_plus : K.lookup p_plus = some ⟨oc_plus, od_plus, .func (PySem.W.fnOf "plus" "plus" (defArgs s_plus) (defBody s_plus) (defScope s_plus) .none kV_plus dc_plus pm_plus an_plus cd_plus ct_plus), sl_plus⟩) (c_plus : PySem.W.codeIn K cd_plus "plus" = true) (k_plus : PySem.W.keepIn K (.ref p_plus) = true)
    {p_minus : Addr} {od_minus an_minus : Option Addr} {sl_minus : Array (Option Value)} {oc_minus kV_minus dc_minus pm_minus cd_minus ct_minus : Value}
    (a_minus : PySem.W.nsIn K mainGlobals "minus" = some (some (.ref p_minus))) (l_minus : K.lookup p_minus = some ⟨oc_minus, od_minus, .func (PySem.W.fnOf "minus" "minus" (defArgs s_minus) (defBody s_minus) (defScope s_minus) .none kV_minus dc_minus pm_minus an_minus cd_minus ct_minus), sl_minus⟩) (c_minus : PySem.W.codeIn K cd_minus "minus" = true) (k_minus : PySem.W.keepIn K (.ref p_minus) = true)
    {p_times : Addr} {od_times an_times : Option Addr} {sl_times : Array (Option Value)} {oc_times kV_times dc_times pm_times cd_times ct_times : Value}
    (a_times : PySem.W.nsIn K mainGlobals "times" = some (some (.ref p_times))) (l_times : K.lookup p_times = some ⟨oc_times, od_times, .func (PySem.W.fnOf "times" "times" (defArgs s_times) (defBody s_times) (defScope s_times) .none kV_times dc_times pm_times an_times cd_times ct_times), sl_times⟩) (c_times : PySem.W.codeIn K cd_times "times" = true) (k_times : PySem.W.keepIn K (.ref p_times) = true)
    {p_compare : Addr} {od_compare an_compare : Option Addr} {sl_compare : Array (Option Value)} {oc_compare kV_compare dc_compare pm_compare cd_compare ct_compare : Value}
    (a_compare : PySem.W.nsIn K mainGlobals "compare" = some (some (.ref p_compare))) (l_compare : K.lookup p_compare = some ⟨oc_compare, od_compare, .func (PySem.W.fnOf "compare" "compare" (defArgs s_compare) (defBody s_compare) (defScope s_compare) .none kV_compare dc_compare pm_compare an_compare cd_compare ct_compare), sl_compare⟩) (c_compare : PySem.W.codeIn K cd_compare "compare" = true) (k_compare : PySem.W.keepIn K (.ref p_compare) = true)
    {p_whole_factor : Addr} {od_whole_factor an_whole_factor : Option Addr} {sl_whole_factor : Array (Option Value)} {oc_whole_factor kV_whole_factor dc_whole_factor pm_whole_factor cd_whole_factor ct_whole_factor : Value}
    (a_whole_factor : PySem.W.nsIn K mainGlobals "whole_factor" = some (some (.ref p_whole_factor))) (l_whole_factor : K.lookup p_whole_factor = some ⟨oc_whole_factor, od_whole_factor, .func (PySem.W.fnOf "whole_factor" "whole_factor" (defArgs s_whole_factor) (defBody s_whole_factor) (defScope s_whole_factor) .none kV_whole_factor dc_whole_factor pm_whole_factor an_whole_factor cd_whole_factor ct_whole_factor), sl_whole_factor⟩) (c_whole_factor : PySem.W.codeIn K cd_whole_factor "whole_factor" = true) (k_whole_factor : PySem.W.keepIn K (.ref p_whole_factor) = true)
    {p_added_up : Addr} {od_added_up an_added_up : Option Addr} {sl_added_up : Array (Option Value)} {oc_added_up kV_added_up dc_added_up pm_added_up cd_added_up ct_added_up : Value}
    (a_added_up : PySem.W.nsIn K mainGlobals "added_up" = some (some (.ref p_added_up))) (l_added_up : K.lookup p_added_up = some ⟨oc_added_up, od_added_up, .func (PySem.W.fnOf "added_up" "added_up" (defArgs s_added_up) (defBody s_added_up) (defScope s_added_up) .none kV_added_up dc_added_up pm_added_up an_added_up cd_added_up ct_added_up), sl_added_up⟩) (c_added_up : PySem.W.codeIn K cd_added_up "added_up" = true) (k_added_up : PySem.W.keepIn K (.ref p_added_up) = true)
    {p_multiplied : Addr} {od_multiplied an_multiplied : Option Addr} {sl_multiplied : Array (Option Value)} {oc_multiplied kV_multiplied dc_multiplied pm_multiplied cd_multiplied ct_multiplied : Value}
    (a_multiplied : PySem.W.nsIn K mainGlobals "multiplied" = some (some (.ref p_multiplied))) (l_multiplied : K.lookup p_multiplied = some ⟨oc_multiplied, od_multiplied, .func (PySem.W.fnOf "multiplied" "multiplied" (defArgs s_multiplied) (defBody s_multiplied) (defScope s_multiplied) .none kV_multiplied dc_multiplied pm_multiplied an_multiplied cd_multiplied ct_multiplied), sl_multiplied⟩) (c_multiplied : PySem.W.codeIn K cd_multiplied "multiplied" = true) (k_multiplied : PySem.W.keepIn K (.ref p_multiplied) = true)
    {p_normal_factor : Addr} {od_normal_factor an_normal_factor : Option Addr} {sl_normal_factor : Array (Option Value)} {oc_normal_factor kV_normal_factor dc_normal_factor pm_normal_factor cd_normal_factor ct_normal_factor : Value}
    (a_normal_factor : PySem.W.nsIn K mainGlobals "normal_factor" = some (some (.ref p_normal_factor))) (l_normal_factor : K.lookup p_normal_factor = some ⟨oc_normal_factor, od_normal_factor, .func (PySem.W.fnOf "normal_factor" "normal_factor" (defArgs s_normal_factor) (defBody s_normal_factor) (defScope s_normal_factor) .none kV_normal_factor dc_normal_factor pm_normal_factor an_normal_factor cd_normal_factor ct_normal_factor), sl_normal_factor⟩) (c_normal_factor : PySem.W.codeIn K cd_normal_factor "normal_factor" = true) (k_normal_factor : PySem.W.keepIn K (.ref p_normal_factor) = true)
    {p_normal : Addr} {od_normal an_normal : Option Addr} {sl_normal : Array (Option Value)} {oc_normal kV_normal dc_normal pm_normal cd_normal ct_normal : Value}
    (a_normal : PySem.W.nsIn K mainGlobals "normal" = some (some (.ref p_normal))) (l_normal : K.lookup p_normal = some ⟨oc_normal, od_normal, .func (PySem.W.fnOf "normal" "normal" (defArgs s_normal) (defBody s_normal) (defScope s_normal) .none kV_normal dc_normal pm_normal an_normal cd_normal ct_normal), sl_normal⟩) (c_normal : PySem.W.codeIn K cd_normal "normal" = true) (k_normal : PySem.W.keepIn K (.ref p_normal) = true)
    {p_row : Addr} {od_row an_row : Option Addr} {sl_row : Array (Option Value)} {oc_row kV_row dc_row pm_row cd_row ct_row : Value}
    (a_row : PySem.W.nsIn K mainGlobals "row" = some (some (.ref p_row))) (l_row : K.lookup p_row = some ⟨oc_row, od_row, .func (PySem.W.fnOf "row" "row" (defArgs s_row) (defBody s_row) (defScope s_row) .none kV_row dc_row pm_row an_row cd_row ct_row), sl_row⟩) (c_row : PySem.W.codeIn K cd_row "row" = true) (k_row : PySem.W.keepIn K (.ref p_row) = true)
    {p_unknowns : Addr} {od_unknowns an_unknowns : Option Addr} {sl_unknowns : Array (Option Value)} {oc_unknowns kV_unknowns dc_unknowns pm_unknowns cd_unknowns ct_unknowns : Value}
    (a_unknowns : PySem.W.nsIn K mainGlobals "unknowns" = some (some (.ref p_unknowns))) (l_unknowns : K.lookup p_unknowns = some ⟨oc_unknowns, od_unknowns, .func (PySem.W.fnOf "unknowns" "unknowns" (defArgs s_unknowns) (defBody s_unknowns) (defScope s_unknowns) .none kV_unknowns dc_unknowns pm_unknowns an_unknowns cd_unknowns ct_unknowns), sl_unknowns⟩) (c_unknowns : PySem.W.codeIn K cd_unknowns "unknowns" = true) (k_unknowns : PySem.W.keepIn K (.ref p_unknowns) = true)
    {p_value : Addr} {od_value an_value : Option Addr} {sl_value : Array (Option Value)} {oc_value kV_value dc_value pm_value cd_value ct_value : Value}
    (a_value : PySem.W.nsIn K mainGlobals "value" = some (some (.ref p_value))) (l_value : K.lookup p_value = some ⟨oc_value, od_value, .func (PySem.W.fnOf "value" "value" (defArgs s_value) (defBody s_value) (defScope s_value) .none kV_value dc_value pm_value an_value cd_value ct_value), sl_value⟩) (c_value : PySem.W.codeIn K cd_value "value" = true) (k_value : PySem.W.keepIn K (.ref p_value) = true)
    {p_holds : Addr} {od_holds an_holds : Option Addr} {sl_holds : Array (Option Value)} {oc_holds kV_holds dc_holds pm_holds cd_holds ct_holds : Value}
    (a_holds : PySem.W.nsIn K mainGlobals "holds" = some (some (.ref p_holds))) (l_holds : K.lookup p_holds = some ⟨oc_holds, od_holds, .func (PySem.W.fnOf "holds" "holds" (defArgs s_holds) (defBody s_holds) (defScope s_holds) .none kV_holds dc_holds pm_holds an_holds cd_holds ct_holds), sl_holds⟩) (c_holds : PySem.W.codeIn K cd_holds "holds" = true) (k_holds : PySem.W.keepIn K (.ref p_holds) = true)
    {p_opposites : Addr} {od_opposites an_opposites : Option Addr} {sl_opposites : Array (Option Value)} {oc_opposites kV_opposites dc_opposites pm_opposites cd_opposites ct_opposites : Value}
    (a_opposites : PySem.W.nsIn K mainGlobals "opposites" = some (some (.ref p_opposites))) (l_opposites : K.lookup p_opposites = some ⟨oc_opposites, od_opposites, .func (PySem.W.fnOf "opposites" "opposites" (defArgs s_opposites) (defBody s_opposites) (defScope s_opposites) .none kV_opposites dc_opposites pm_opposites an_opposites cd_opposites ct_opposites), sl_opposites⟩) (c_opposites : PySem.W.codeIn K cd_opposites "opposites" = true) (k_opposites : PySem.W.keepIn K (.ref p_opposites) = true)
    {p_is_true : Addr} {od_is_true an_is_true : Option Addr} {sl_is_true : Array (Option Value)} {oc_is_true kV_is_true dc_is_true pm_is_true cd_is_true ct_is_true : Value}
    (a_is_true : PySem.W.nsIn K mainGlobals "is_true" = some (some (.ref p_is_true))) (l_is_true : K.lookup p_is_true = some ⟨oc_is_true, od_is_true, .func (PySem.W.fnOf "is_true" "is_true" (defArgs s_is_true) (defBody s_is_true) (defScope s_is_true) .none kV_is_true dc_is_true pm_is_true an_is_true cd_is_true ct_is_true), sl_is_true⟩) (c_is_true : PySem.W.codeIn K cd_is_true "is_true" = true) (k_is_true : PySem.W.keepIn K (.ref p_is_true) = true)
    {p__joined : Addr} {od__joined an__joined : Option Addr} {sl__joined : Array (Option Value)} {oc__joined kV__joined dc__joined pm__joined cd__joined ct__joined : Value}
    (a__joined : PySem.W.nsIn K mainGlobals "_joined" = some (some (.ref p__joined))) (l__joined : K.lookup p__joined = some ⟨oc__joined, od__joined, .func (PySem.W.fnOf "_joined" "_joined" (defArgs s__joined) (defBody s__joined) (defScope s__joined) .none kV__joined dc__joined pm__joined an__joined cd__joined ct__joined), sl__joined⟩) (c__joined : PySem.W.codeIn K cd__joined "_joined" = true) (k__joined : PySem.W.keepIn K (.ref p__joined) = true)
    {p_plain : Addr} {od_plain an_plain : Option Addr} {sl_plain : Array (Option Value)} {oc_plain kV_plain dc_plain pm_plain cd_plain ct_plain : Value}
    (a_plain : PySem.W.nsIn K mainGlobals "plain" = some (some (.ref p_plain))) (l_plain : K.lookup p_plain = some ⟨oc_plain, od_plain, .func (PySem.W.fnOf "plain" "plain" (defArgs s_plain) (defBody s_plain) (defScope s_plain) .none kV_plain dc_plain pm_plain an_plain cd_plain ct_plain), sl_plain⟩) (c_plain : PySem.W.codeIn K cd_plain "plain" = true) (k_plain : PySem.W.keepIn K (.ref p_plain) = true)
    {p__plain_not : Addr} {od__plain_not an__plain_not : Option Addr} {sl__plain_not : Array (Option Value)} {oc__plain_not kV__plain_not dc__plain_not pm__plain_not cd__plain_not ct__plain_not : Value}
    (a__plain_not : PySem.W.nsIn K mainGlobals "_plain_not" = some (some (.ref p__plain_not))) (l__plain_not : K.lookup p__plain_not = some ⟨oc__plain_not, od__plain_not, .func (PySem.W.fnOf "_plain_not" "_plain_not" (defArgs s__plain_not) (defBody s__plain_not) (defScope s__plain_not) .none kV__plain_not dc__plain_not pm__plain_not an__plain_not cd__plain_not ct__plain_not), sl__plain_not⟩) (c__plain_not : PySem.W.codeIn K cd__plain_not "_plain_not" = true) (k__plain_not : PySem.W.keepIn K (.ref p__plain_not) = true)
    {p__parts : Addr} {od__parts an__parts : Option Addr} {sl__parts : Array (Option Value)} {oc__parts kV__parts dc__parts pm__parts cd__parts ct__parts : Value}
    (a__parts : PySem.W.nsIn K mainGlobals "_parts" = some (some (.ref p__parts))) (l__parts : K.lookup p__parts = some ⟨oc__parts, od__parts, .func (PySem.W.fnOf "_parts" "_parts" (defArgs s__parts) (defBody s__parts) (defScope s__parts) .none kV__parts dc__parts pm__parts an__parts cd__parts ct__parts), sl__parts⟩) (c__parts : PySem.W.codeIn K cd__parts "_parts" = true) (k__parts : PySem.W.keepIn K (.ref p__parts) = true)
    {p__all_in : Addr} {od__all_in an__all_in : Option Addr} {sl__all_in : Array (Option Value)} {oc__all_in kV__all_in dc__all_in pm__all_in cd__all_in ct__all_in : Value}
    (a__all_in : PySem.W.nsIn K mainGlobals "_all_in" = some (some (.ref p__all_in))) (l__all_in : K.lookup p__all_in = some ⟨oc__all_in, od__all_in, .func (PySem.W.fnOf "_all_in" "_all_in" (defArgs s__all_in) (defBody s__all_in) (defScope s__all_in) .none kV__all_in dc__all_in pm__all_in an__all_in cd__all_in ct__all_in), sl__all_in⟩) (c__all_in : PySem.W.codeIn K cd__all_in "_all_in" = true) (k__all_in : PySem.W.keepIn K (.ref p__all_in) = true)
    {p_unknowns_of : Addr} {od_unknowns_of an_unknowns_of : Option Addr} {sl_unknowns_of : Array (Option Value)} {oc_unknowns_of kV_unknowns_of dc_unknowns_of pm_unknowns_of cd_unknowns_of ct_unknowns_of : Value}
    (a_unknowns_of : PySem.W.nsIn K mainGlobals "unknowns_of" = some (some (.ref p_unknowns_of))) (l_unknowns_of : K.lookup p_unknowns_of = some ⟨oc_unknowns_of, od_unknowns_of, .func (PySem.W.fnOf "unknowns_of" "unknowns_of" (defArgs s_unknowns_of) (defBody s_unknowns_of) (defScope s_unknowns_of) .none kV_unknowns_of dc_unknowns_of pm_unknowns_of an_unknowns_of cd_unknowns_of ct_unknowns_of), sl_unknowns_of⟩) (c_unknowns_of : PySem.W.codeIn K cd_unknowns_of "unknowns_of" = true) (k_unknowns_of : PySem.W.keepIn K (.ref p_unknowns_of) = true)
    {p__law_cell : Addr} {od__law_cell an__law_cell : Option Addr} {sl__law_cell : Array (Option Value)} {oc__law_cell kV__law_cell dc__law_cell pm__law_cell cd__law_cell ct__law_cell : Value}
    (a__law_cell : PySem.W.nsIn K mainGlobals "_law_cell" = some (some (.ref p__law_cell))) (l__law_cell : K.lookup p__law_cell = some ⟨oc__law_cell, od__law_cell, .func (PySem.W.fnOf "_law_cell" "_law_cell" (defArgs s__law_cell) (defBody s__law_cell) (defScope s__law_cell) .none kV__law_cell dc__law_cell pm__law_cell an__law_cell cd__law_cell ct__law_cell), sl__law_cell⟩) (c__law_cell : PySem.W.codeIn K cd__law_cell "_law_cell" = true) (k__law_cell : PySem.W.keepIn K (.ref p__law_cell) = true)
    {p__law_draw : Addr} {od__law_draw an__law_draw : Option Addr} {sl__law_draw : Array (Option Value)} {oc__law_draw kV__law_draw dc__law_draw pm__law_draw cd__law_draw ct__law_draw : Value}
    (a__law_draw : PySem.W.nsIn K mainGlobals "_law_draw" = some (some (.ref p__law_draw))) (l__law_draw : K.lookup p__law_draw = some ⟨oc__law_draw, od__law_draw, .func (PySem.W.fnOf "_law_draw" "_law_draw" (defArgs s__law_draw) (defBody s__law_draw) (defScope s__law_draw) .none kV__law_draw dc__law_draw pm__law_draw an__law_draw cd__law_draw ct__law_draw), sl__law_draw⟩) (c__law_draw : PySem.W.codeIn K cd__law_draw "_law_draw" = true) (k__law_draw : PySem.W.keepIn K (.ref p__law_draw) = true)
    {p__law_row : Addr} {od__law_row an__law_row : Option Addr} {sl__law_row : Array (Option Value)} {oc__law_row kV__law_row dc__law_row pm__law_row cd__law_row ct__law_row : Value}
    (a__law_row : PySem.W.nsIn K mainGlobals "_law_row" = some (some (.ref p__law_row))) (l__law_row : K.lookup p__law_row = some ⟨oc__law_row, od__law_row, .func (PySem.W.fnOf "_law_row" "_law_row" (defArgs s__law_row) (defBody s__law_row) (defScope s__law_row) .none kV__law_row dc__law_row pm__law_row an__law_row cd__law_row ct__law_row), sl__law_row⟩) (c__law_row : PySem.W.codeIn K cd__law_row "_law_row" = true) (k__law_row : PySem.W.keepIn K (.ref p__law_row) = true)
    {p__law_formula : Addr} {od__law_formula an__law_formula : Option Addr} {sl__law_formula : Array (Option Value)} {oc__law_formula kV__law_formula dc__law_formula pm__law_formula cd__law_formula ct__law_formula : Value}
    (a__law_formula : PySem.W.nsIn K mainGlobals "_law_formula" = some (some (.ref p__law_formula))) (l__law_formula : K.lookup p__law_formula = some ⟨oc__law_formula, od__law_formula, .func (PySem.W.fnOf "_law_formula" "_law_formula" (defArgs s__law_formula) (defBody s__law_formula) (defScope s__law_formula) .none kV__law_formula dc__law_formula pm__law_formula an__law_formula cd__law_formula ct__law_formula), sl__law_formula⟩) (c__law_formula : PySem.W.codeIn K cd__law_formula "_law_formula" = true) (k__law_formula : PySem.W.keepIn K (.ref p__law_formula) = true)
    {p__law_some : Addr} {od__law_some an__law_some : Option Addr} {sl__law_some : Array (Option Value)} {oc__law_some kV__law_some dc__law_some pm__law_some cd__law_some ct__law_some : Value}
    (a__law_some : PySem.W.nsIn K mainGlobals "_law_some" = some (some (.ref p__law_some))) (l__law_some : K.lookup p__law_some = some ⟨oc__law_some, od__law_some, .func (PySem.W.fnOf "_law_some" "_law_some" (defArgs s__law_some) (defBody s__law_some) (defScope s__law_some) .none kV__law_some dc__law_some pm__law_some an__law_some cd__law_some ct__law_some), sl__law_some⟩) (c__law_some : PySem.W.codeIn K cd__law_some "_law_some" = true) (k__law_some : PySem.W.keepIn K (.ref p__law_some) = true)
    {p__law_number : Addr} {od__law_number an__law_number : Option Addr} {sl__law_number : Array (Option Value)} {oc__law_number kV__law_number dc__law_number pm__law_number cd__law_number ct__law_number : Value}
    (a__law_number : PySem.W.nsIn K mainGlobals "_law_number" = some (some (.ref p__law_number))) (l__law_number : K.lookup p__law_number = some ⟨oc__law_number, od__law_number, .func (PySem.W.fnOf "_law_number" "_law_number" (defArgs s__law_number) (defBody s__law_number) (defScope s__law_number) .none kV__law_number dc__law_number pm__law_number an__law_number cd__law_number ct__law_number), sl__law_number⟩) (c__law_number : PySem.W.codeIn K cd__law_number "_law_number" = true) (k__law_number : PySem.W.keepIn K (.ref p__law_number) = true)
    {p__law_holds : Addr} {od__law_holds an__law_holds : Option Addr} {sl__law_holds : Array (Option Value)} {oc__law_holds kV__law_holds dc__law_holds pm__law_holds cd__law_holds ct__law_holds : Value}
    (a__law_holds : PySem.W.nsIn K mainGlobals "_law_holds" = some (some (.ref p__law_holds))) (l__law_holds : K.lookup p__law_holds = some ⟨oc__law_holds, od__law_holds, .func (PySem.W.fnOf "_law_holds" "_law_holds" (defArgs s__law_holds) (defBody s__law_holds) (defScope s__law_holds) .none kV__law_holds dc__law_holds pm__law_holds an__law_holds cd__law_holds ct__law_holds), sl__law_holds⟩) (c__law_holds : PySem.W.codeIn K cd__law_holds "_law_holds" = true) (k__law_holds : PySem.W.keepIn K (.ref p__law_holds) = true)
    {p__law_true : Addr} {od__law_true an__law_true : Option Addr} {sl__law_true : Array (Option Value)} {oc__law_true kV__law_true dc__law_true pm__law_true cd__law_true ct__law_true : Value}
    (a__law_true : PySem.W.nsIn K mainGlobals "_law_true" = some (some (.ref p__law_true))) (l__law_true : K.lookup p__law_true = some ⟨oc__law_true, od__law_true, .func (PySem.W.fnOf "_law_true" "_law_true" (defArgs s__law_true) (defBody s__law_true) (defScope s__law_true) .none kV__law_true dc__law_true pm__law_true an__law_true cd__law_true ct__law_true), sl__law_true⟩) (c__law_true : PySem.W.codeIn K cd__law_true "_law_true" = true) (k__law_true : PySem.W.keepIn K (.ref p__law_true) = true)
    {p__law_point : Addr} {od__law_point an__law_point : Option Addr} {sl__law_point : Array (Option Value)} {oc__law_point kV__law_point dc__law_point pm__law_point cd__law_point ct__law_point : Value}
    (a__law_point : PySem.W.nsIn K mainGlobals "_law_point" = some (some (.ref p__law_point))) (l__law_point : K.lookup p__law_point = some ⟨oc__law_point, od__law_point, .func (PySem.W.fnOf "_law_point" "_law_point" (defArgs s__law_point) (defBody s__law_point) (defScope s__law_point) .none kV__law_point dc__law_point pm__law_point an__law_point cd__law_point ct__law_point), sl__law_point⟩) (c__law_point : PySem.W.codeIn K cd__law_point "_law_point" = true) (k__law_point : PySem.W.keepIn K (.ref p__law_point) = true)
    {p__law_opposite : Addr} {od__law_opposite an__law_opposite : Option Addr} {sl__law_opposite : Array (Option Value)} {oc__law_opposite kV__law_opposite dc__law_opposite pm__law_opposite cd__law_opposite ct__law_opposite : Value}
    (a__law_opposite : PySem.W.nsIn K mainGlobals "_law_opposite" = some (some (.ref p__law_opposite))) (l__law_opposite : K.lookup p__law_opposite = some ⟨oc__law_opposite, od__law_opposite, .func (PySem.W.fnOf "_law_opposite" "_law_opposite" (defArgs s__law_opposite) (defBody s__law_opposite) (defScope s__law_opposite) .none kV__law_opposite dc__law_opposite pm__law_opposite an__law_opposite cd__law_opposite ct__law_opposite), sl__law_opposite⟩) (c__law_opposite : PySem.W.codeIn K cd__law_opposite "_law_opposite" = true) (k__law_opposite : PySem.W.keepIn K (.ref p__law_opposite) = true)
    {p__law_plain : Addr} {od__law_plain an__law_plain : Option Addr} {sl__law_plain : Array (Option Value)} {oc__law_plain kV__law_plain dc__law_plain pm__law_plain cd__law_plain ct__law_plain : Value}
    (a__law_plain : PySem.W.nsIn K mainGlobals "_law_plain" = some (some (.ref p__law_plain))) (l__law_plain : K.lookup p__law_plain = some ⟨oc__law_plain, od__law_plain, .func (PySem.W.fnOf "_law_plain" "_law_plain" (defArgs s__law_plain) (defBody s__law_plain) (defScope s__law_plain) .none kV__law_plain dc__law_plain pm__law_plain an__law_plain cd__law_plain ct__law_plain), sl__law_plain⟩) (c__law_plain : PySem.W.codeIn K cd__law_plain "_law_plain" = true) (k__law_plain : PySem.W.keepIn K (.ref p__law_plain) = true)
    {p__law_many : Addr} {od__law_many an__law_many : Option Addr} {sl__law_many : Array (Option Value)} {oc__law_many kV__law_many dc__law_many pm__law_many cd__law_many ct__law_many : Value}
    (a__law_many : PySem.W.nsIn K mainGlobals "_law_many" = some (some (.ref p__law_many))) (l__law_many : K.lookup p__law_many = some ⟨oc__law_many, od__law_many, .func (PySem.W.fnOf "_law_many" "_law_many" (defArgs s__law_many) (defBody s__law_many) (defScope s__law_many) .none kV__law_many dc__law_many pm__law_many an__law_many cd__law_many ct__law_many), sl__law_many⟩) (c__law_many : PySem.W.codeIn K cd__law_many "_law_many" = true) (k__law_many : PySem.W.keepIn K (.ref p__law_many) = true)
    {p_law : Addr} {od_law an_law : Option Addr} {sl_law : Array (Option Value)} {oc_law kV_law dc_law pm_law cd_law ct_law : Value}
    (a_law : PySem.W.nsIn K mainGlobals "law" = some (some (.ref p_law))) (l_law : K.lookup p_law = some ⟨oc_law, od_law, .func (PySem.W.fnOf "law" "law" (defArgs s_law) (defBody s_law) (defScope s_law) .none kV_law dc_law pm_law an_law cd_law ct_law), sl_law⟩) (c_law : PySem.W.codeIn K cd_law "law" = true) (k_law : PySem.W.keepIn K (.ref p_law) = true)
    (z_abs : PySem.W.nsIn K mainGlobals "abs" = some none)
    (z_all : PySem.W.nsIn K mainGlobals "all" = some none)
    (z_any : PySem.W.nsIn K mainGlobals "any" = some none)
    (z_bool : PySem.W.nsIn K mainGlobals "bool" = some none)
    (z_dict : PySem.W.nsIn K mainGlobals "dict" = some none)
    (z_int : PySem.W.nsIn K mainGlobals "int" = some none)
    (z_isinstance : PySem.W.nsIn K mainGlobals "isinstance" = some none)
    (z_len : PySem.W.nsIn K mainGlobals "len" = some none)
    (z_list : PySem.W.nsIn K mainGlobals "list" = some none)
    (z_min : PySem.W.nsIn K mainGlobals "min" = some none)
    (z_range : PySem.W.nsIn K mainGlobals "range" = some none)
    (z_sorted : PySem.W.nsIn K mainGlobals "sorted" = some none)
    (z_tuple : PySem.W.nsIn K mainGlobals "tuple" = some none)
    (z_gcd : PySem.W.nsIn K mainGlobals "gcd" = some (some (.builtin "math.gcd")))
    (z_lcm : PySem.W.nsIn K mainGlobals "lcm" = some (some (.builtin "math.lcm")))
    {C_NumberError : Addr} (a_NumberError : PySem.W.nsIn K mainGlobals "NumberError" = some (some (.ref C_NumberError))) (e_NumberError : PySem.W.excIn K C_NumberError [.type "ValueError", .type "Exception", .type "BaseException", .type "object"] "ValueError.__new__" = true) (k_NumberError : PySem.W.keepIn K (.ref C_NumberError) = true) (b_NumberError : PySem.W.subIn K (.ref C_NumberError) (.type "BaseException") = some true) (t_NumberError : PySem.W.typeIn K (.ref C_NumberError) = some (.type "type")) (i_NumberError : PySem.W.isClsIn K C_NumberError = true) (s_NumberError : PySem.W.subIn K (.ref C_NumberError) (.ref C_NumberError) = some true)
    {p_TURNED_formulas : Addr} {es_TURNED_formulas : Array DictEntry} {n_TURNED_formulas : Nat} {t_TURNED_formulas_0 t_TURNED_formulas_1 t_TURNED_formulas_2 t_TURNED_formulas_3 : Tok}
    (a_TURNED_formulas : PySem.W.nsIn K mainGlobals "TURNED_formulas" = some (some (.ref p_TURNED_formulas))) (l_TURNED_formulas : K.lookup p_TURNED_formulas = some ⟨.type "dict", none, .dict es_TURNED_formulas n_TURNED_formulas, #[]⟩) (q_TURNED_formulas : PySem.W.KeysLit w.params es_TURNED_formulas.toList) (r_TURNED_formulas : (p_TURNED_formulas == sysModules) = false)
    (g0_TURNED_formulas : PySem.W.nsIn K p_TURNED_formulas "and" = some (some (.str "or" t_TURNED_formulas_0)))
    (g1_TURNED_formulas : PySem.W.nsIn K p_TURNED_formulas "or" = some (some (.str "and" t_TURNED_formulas_1)))
    (g2_TURNED_formulas : PySem.W.nsIn K p_TURNED_formulas "true" = some (some (.str "false" t_TURNED_formulas_2)))
    (g3_TURNED_formulas : PySem.W.nsIn K p_TURNED_formulas "false" = some (some (.str "true" t_TURNED_formulas_3)))
    (m0_TURNED_formulas : PySem.W.nsIn K p_TURNED_formulas "<=" = some none)
    (m1_TURNED_formulas : PySem.W.nsIn K p_TURNED_formulas "<" = some none)
    (m2_TURNED_formulas : PySem.W.nsIn K p_TURNED_formulas "=" = some none)
    (m3_TURNED_formulas : PySem.W.nsIn K p_TURNED_formulas ">=" = some none)
    (m4_TURNED_formulas : PySem.W.nsIn K p_TURNED_formulas ">" = some none)
    {p_TURNED_rows : Addr} {es_TURNED_rows : Array DictEntry} {n_TURNED_rows : Nat} {t_TURNED_rows_0 t_TURNED_rows_1 : Tok}
    (a_TURNED_rows : PySem.W.nsIn K mainGlobals "TURNED_rows" = some (some (.ref p_TURNED_rows))) (l_TURNED_rows : K.lookup p_TURNED_rows = some ⟨.type "dict", none, .dict es_TURNED_rows n_TURNED_rows, #[]⟩) (q_TURNED_rows : PySem.W.KeysLit w.params es_TURNED_rows.toList) (r_TURNED_rows : (p_TURNED_rows == sysModules) = false)
    (g0_TURNED_rows : PySem.W.nsIn K p_TURNED_rows ">=" = some (some (.str "<=" t_TURNED_rows_0)))
    (g1_TURNED_rows : PySem.W.nsIn K p_TURNED_rows ">" = some (some (.str "<" t_TURNED_rows_1)))
    (m0_TURNED_rows : PySem.W.nsIn K p_TURNED_rows "<=" = some none)
    (m1_TURNED_rows : PySem.W.nsIn K p_TURNED_rows "<" = some none)
    (m2_TURNED_rows : PySem.W.nsIn K p_TURNED_rows "=" = some none)
    {p_MINUS_ONE : Addr} {sl_MINUS_ONE : Array (Option Value)} {n_MINUS_ONE : Nat} {t_MINUS_ONE_0 t_MINUS_ONE_1 : Tok}
    (a_MINUS_ONE : PySem.W.nsIn K mainGlobals "MINUS_ONE" = some (some (.ref p_MINUS_ONE))) (l_MINUS_ONE : K.lookup p_MINUS_ONE = some ⟨.type "tuple", none, .seq #[.int (-1) t_MINUS_ONE_0, .int 1 t_MINUS_ONE_1] n_MINUS_ONE, sl_MINUS_ONE⟩)
    {p_ONE : Addr} {sl_ONE : Array (Option Value)} {n_ONE : Nat} {t_ONE_0 t_ONE_1 : Tok}
    (a_ONE : PySem.W.nsIn K mainGlobals "ONE" = some (some (.ref p_ONE))) (l_ONE : K.lookup p_ONE = some ⟨.type "tuple", none, .seq #[.int 1 t_ONE_0, .int 1 t_ONE_1] n_ONE, sl_ONE⟩)
    {p_ZERO : Addr} {sl_ZERO : Array (Option Value)} {n_ZERO : Nat} {t_ZERO_0 t_ZERO_1 : Tok}
    (a_ZERO : PySem.W.nsIn K mainGlobals "ZERO" = some (some (.ref p_ZERO))) (l_ZERO : K.lookup p_ZERO = some ⟨.type "tuple", none, .seq #[.int 0 t_ZERO_0, .int 1 t_ZERO_1] n_ZERO, sl_ZERO⟩)
    {p__JOINING : Addr} {sl__JOINING : Array (Option Value)} {n__JOINING : Nat} {t__JOINING_0 t__JOINING_1 : Tok}
    (a__JOINING : PySem.W.nsIn K mainGlobals "_JOINING" = some (some (.ref p__JOINING))) (l__JOINING : K.lookup p__JOINING = some ⟨.type "tuple", none, .seq #[.str "and" t__JOINING_0, .str "or" t__JOINING_1] n__JOINING, sl__JOINING⟩) :
    ∃ fd : FuncData, (∀ (s : Shared) (v : Value), BindsTo s fd ⟨[v], []⟩ [("script", v)]) ∧ ∀ base : Heap, K.In base → base.Ns mainGlobals mg → FnOk P w K mg base (L2.CX P w) 33 fa fd ["script"] (spLaw K) := by
  obtain ⟨fd, hb, F⟩ := o_law (P := P) (w := w) (txt_mk X G a_number l_number c_number k_number a_plus l_plus c_plus k_plus a_minus l_minus c_minus k_minus a_times l_times c_times k_times a_compare l_compare c_compare k_compare a_whole_factor l_whole_factor c_whole_factor k_whole_factor a_added_up l_added_up c_added_up k_added_up a_multiplied l_multiplied c_multiplied k_multiplied a_normal_factor l_normal_factor c_normal_factor k_normal_factor a_normal l_normal c_normal k_normal a_row l_row c_row k_row a_unknowns l_unknowns c_unknowns k_unknowns a_value l_value c_value k_value a_holds l_holds c_holds k_holds a_opposites l_opposites c_opposites k_opposites a_is_true l_is_true c_is_true k_is_true a__joined l__joined c__joined k__joined a_plain l_plain c_plain k_plain a__plain_not l__plain_not c__plain_not k__plain_not a__parts l__parts c__parts k__parts a__all_in l__all_in c__all_in k__all_in a_unknowns_of l_unknowns_of c_unknowns_of k_unknowns_of a__law_cell l__law_cell c__law_cell k__law_cell a__law_draw l__law_draw c__law_draw k__law_draw a__law_row l__law_row c__law_row k__law_row a__law_formula l__law_formula c__law_formula k__law_formula a__law_some l__law_some c__law_some k__law_some a__law_number l__law_number c__law_number k__law_number a__law_holds l__law_holds c__law_holds k__law_holds a__law_true l__law_true c__law_true k__law_true a__law_point l__law_point c__law_point k__law_point a__law_opposite l__law_opposite c__law_opposite k__law_opposite a__law_plain l__law_plain c__law_plain k__law_plain a__law_many l__law_many c__law_many k__law_many a_law l_law c_law k_law z_abs z_all z_any z_bool z_dict z_int z_isinstance z_len z_list z_min z_range z_sorted z_tuple z_gcd z_lcm a_NumberError e_NumberError k_NumberError b_NumberError t_NumberError i_NumberError s_NumberError a_TURNED_formulas l_TURNED_formulas q_TURNED_formulas r_TURNED_formulas g0_TURNED_formulas g1_TURNED_formulas g2_TURNED_formulas g3_TURNED_formulas m0_TURNED_formulas m1_TURNED_formulas m2_TURNED_formulas m3_TURNED_formulas m4_TURNED_formulas a_TURNED_rows l_TURNED_rows q_TURNED_rows r_TURNED_rows g0_TURNED_rows g1_TURNED_rows m0_TURNED_rows m1_TURNED_rows m2_TURNED_rows a_MINUS_ONE l_MINUS_ONE a_ONE l_ONE a_ZERO l_ZERO a__JOINING l__JOINING) hl hfa
  exact ⟨fd, hb, fun base _ _ => F base⟩
end G_k46
namespace DL
open PySem PySem.Spec PyProof.Rows L2 RT
noncomputable def PG.S_opposites : Rho → Out := (seqS (asgS (varF 0) (tupT 3 (consTs (nameT 1) (consTs (nameT 2) (consTs (nameT 3) nilTs))))) (seqS (ifS (testF (binF dEq (varF 2) (cF (.str "<=")))) (retS (lstF (consA (callF PG.m_row (consA (varF 1) (consA (cF (.str ">")) (consA (varF 3) nilA)))) nilA))) nxS) (seqS (ifS (testF (binF dEq (varF 2) (cF (.str "<")))) (retS (lstF (consA (callF PG.m_row (consA (varF 1) (consA (cF (.str ">=")) (consA (varF 3) nilA)))) nilA))) nxS) (retS (lstF (consA (callF PG.m_row (consA (varF 1) (consA (cF (.str "<")) (consA (varF 3) nilA)))) (consA (callF PG.m_row (consA (varF 1) (consA (cF (.str ">")) (consA (varF 3) nilA)))) nilA)))))))
noncomputable def PG.B_opposites (a0 : PyData) : FR := outFR (PG.S_opposites [.d a0, .un, .un, .un])
noncomputable def PG.m_opposites : Fn := fn1 PG.B_opposites
end DL
namespace DL
open PySem PySem.Spec PyProof.Rows L2 RT
theorem fac_pos {r : Rw} (h : PosR r) (hs : (r.2.1 == "=") = false) : 0 < (factorM r).1 := by
  obtain ⟨f1, f2⟩ := fac_low h
  obtain ⟨q, qs, e⟩ := facQ_cons r
  by_cases h0 : q.1 = 0
  · obtain ⟨ps, sg, bd⟩ := r
    cases ps with
    | cons p ps =>
      simp only [facQ, List.map_cons, List.cons.injEq] at e
      exact absurd (by rw [e.1]; exact h0) (h.ps p List.mem_cons_self).2
    | nil =>
      simp only [facQ, List.cons.injEq] at e
      obtain ⟨rfl, rfl⟩ := e
      simp [factorM, h0]
  · obtain ⟨f, P, E, L⟩ := fac_rv h e h0
    rw [hs] at E
    simp only [Bool.false_and, Bool.false_eq_true, if_false] at E
    have := P.pos
    have h1 : ¬ (factorM r).1 < 0 := fun z => by have := (rv_neg f2).mp z; grind
    omega
structure Made (r : Rw) (ps : List Pt) (sg : Str) (b : Qn) : Prop where
  eq : r = rowM ps sg b
  sg : Sgn sg
  prt : ∀ p ∈ ps, Sz 150 p.2 ∧ Nam p.1
  cn : ∀ x, cnt x ps ≤ 1
  bd : Sz 150 b
  low : Low b
def undM (r : Rw) : Rw := rowM r.1 "<" r.2.2
def aboM (r : Rw) : Rw := rowM (flipM r.1) "<" (qsub (0, 1) r.2.2)
def aboE (r : Rw) : Rw := rowM (flipM r.1) "<=" (qsub (0, 1) r.2.2)
def oppM (r : Rw) : List Rw := if r.2.1 = "=" then [undM r, aboM r] else if r.2.1 = "<=" then [aboM r] else [aboE r]
theorem neg_low {b : Qn} (h : Low b) : Low (qsub (0, 1) b) := low_nrm (by have := h.pos; show 1 * b.2 ≠ 0; omega)
section
variable {ps : List Pt} {b : Qn} {sg : Str} (c : List PyData → PyData) (hc : c = PyData.list ∨ c = PyData.tuple) (h : ∀ p ∈ ps, Sz 150 p.2) (hb : Sz 150 b) (lb : Low b) (hl : ps.length ≤ 3)
include hc h hb lb hl
theorem bnd3 : ((150 + 1) * ps.length + 1 + 150) * (ps.length + 2) + 4 ≤ 3900 := by
  have : ((150 + 1) * ps.length + 1 + 150) * (ps.length + 2) ≤ 604 * 5 := Nat.mul_le_mul (by omega) (by omega)
  omega
theorem pg_rowc0 (hs : Sgn sg) : PG.B_row (c (ps.map pD)) (.str sg) (N b) = .ok (rD (rowM ps sg b)) := by
  have e1 : PG.m_added_up [c (ps.map pD)] = .ok (psD (partsM ps)) := pg_added_up c hc h (by omega) (by omega) (by omega)
  have e2 : PG.m_normal [.tuple [psD (partsM ps), .str sg, .tuple [.int b.1, .int b.2]]] = .ok (rD (rowM ps sg b)) := pg_normal_parts h hb lb (by omega) hs.ok (bnd3 c hc h hb lb hl)
  have i1 : sg ∉ ([">=", ">"] : List Str) := by rcases hs with rfl | rfl | rfl <;> decide
  have i2 : sg ∈ (["<=", "<", "="] : List Str) := by rcases hs with rfl | rfl | rfl <;> decide
  simp [PG.B_row, PG.S_row, e1]
  simp only [List.mem_cons, List.not_mem_nil, or_false] at i1 i2
  simp [i1, i2, e2]
theorem pg_rowc1 {sg2 : Str} (hs : (sg = ">=" ∧ sg2 = "<=") ∨ (sg = ">" ∧ sg2 = "<")) : PG.B_row (c (ps.map pD)) (.str sg) (N b) = .ok (rD (rowM (flipM ps) sg2 (qsub (0, 1) b))) := by
  have hf : ∀ p ∈ flipM ps, Sz 150 p.2 := fun p hp => by
    obtain ⟨q, hq, rfl⟩ := List.mem_map.mp hp
    exact (h q hq).neg0
  have fl : (flipM ps).length = ps.length := by simp [flipM]
  have pl := partsM_len ps
  have s2 : Sgn sg2 := by rcases hs with ⟨_, rfl⟩ | ⟨_, rfl⟩ <;> simp [Sgn]
  have e1 : PG.m_added_up [c (ps.map pD)] = .ok (psD (partsM ps)) := pg_added_up c hc h (by omega) (by omega) (by omega)
  have e2 : PG.m_multiplied [psD (partsM ps), .tuple [.int (-1), .int 1]] = .ok (psD (partsM (flipM ps))) := by
    rw [parts_flip fun p hp => (h p hp).pos]
    exact pg_multiplied (fun p hp => (Sz.parts h p hp).mono (by omega)) (szm1.mono (by decide)) (by omega)
  have e3 : PG.m_minus [.tuple [.int 0, .int 1], .tuple [.int b.1, .int b.2]] = .ok (N (qsub (0, 1) b)) := pg_minus (sz01.mono (by decide)) (hb.mono (by omega))
  have e4 : PG.m_normal [.tuple [psD (partsM (flipM ps)), .str sg2, .tuple [.int (qsub (0, 1) b).1, .int (qsub (0, 1) b).2]]] = .ok (rD (rowM (flipM ps) sg2 (qsub (0, 1) b))) :=
    pg_normal_parts hf hb.neg0 (neg_low lb) (by omega) s2.ok (by rw [fl]; exact bnd3 c hc h hb lb hl)
  rcases hs with ⟨rfl, rfl⟩ | ⟨rfl, rfl⟩
  · simp [PG.B_row, PG.S_row, e1, e2, e3, e4]
  · have d1 : (">=" : Str) = ">" ↔ False := by decide
    simp [PG.B_row, PG.S_row, e1, e2, e3, e4, d1]
end
section
variable {r : Rw} (h : Good r)
include h
end
def hB (pt : List Pt) (r : Rw) : Bool := holdsR r.2.1 (rv (atM (look pt) r.1 (0, 1))) (rv r.2.2)
end DL
namespace DL
open PySem PySem.Spec PyProof.Rows L2 RT
noncomputable def PG.S_over : Rho → Out := (retS (callF PG.m_number (consA (binF dMul (binF dIx (varF 0) (cF (.int 0))) (binF dIx (varF 1) (cF (.int 1)))) (consA (binF dMul (binF dIx (varF 0) (cF (.int 1))) (binF dIx (varF 1) (cF (.int 0)))) nilA))))
noncomputable def PG.B_over (a0 a1 : PyData) : FR := outFR (PG.S_over [.d a0, .d a1])
noncomputable def PG.m_over : Fn := fn2 PG.B_over
noncomputable def PG.S_amount_of : Rho → Out := (retS (dgetT (varF 0) 1 (.tuple [.int 0, .int 1])))
noncomputable def PG.B_amount_of (a0 a1 : PyData) : FR := outFR (PG.S_amount_of [.d a0, .d a1])
noncomputable def PG.m_amount_of : Fn := fn2 PG.B_amount_of
noncomputable def PG.S_derived : Rho → Out := (retS (lcF [1, 2] (pairsF (enumF (varF 0))) (tupT 2 (consTs (nameT 1) (consTs (nameT 2) nilTs))) yesT (tupF (consA (varF 2) (consA (tupF (consA (tupF (consA (varF 1) (consA (cF (.tuple [.int 1, .int 1])) nilA))) nilA)) nilA)))))
noncomputable def PG.B_derived (a0 : PyData) : FR := outFR (PG.S_derived [.d a0, .un, .un])
noncomputable def PG.m_derived : Fn := fn1 PG.B_derived
noncomputable def PG.S__is_stronger : Rho → Out := (seqS (asgS (callF PG.m_compare (consA (binF dIx (varF 0) (cF (.int 2))) (consA (binF dIx (varF 1) (cF (.int 2))) nilA))) (nameT 2)) (retS (orV (binF dLt (varF 2) (cF (.int 0))) (andV (binF dEq (varF 2) (cF (.int 0))) (andV (binF dEq (binF dIx (varF 0) (cF (.int 1))) (cF (.str "<"))) (binF dEq (binF dIx (varF 1) (cF (.int 1))) (cF (.str "<="))))))))
noncomputable def PG.B__is_stronger (a0 a1 : PyData) : FR := outFR (PG.S__is_stronger [.d a0, .d a1, .un])
noncomputable def PG.m__is_stronger : Fn := fn2 PG.B__is_stronger
noncomputable def PG.L_cleaned_1 : Rho → Out := (seqS (asgS (varF 4) (tupT 3 (consTs (nameT 6) (consTs (nameT 7) (consTs (nameT 8) nilTs))))) (seqS (ifS (andT (notT (truF (varF 6))) (truF (callF PG.m_holds (consA (varF 4) (consA (tupF nilA) nilA))))) .ct nxS) (seqS (asgS (ifF (testF (binF dEq (varF 7) (cF (.str "=")))) (tupF (consA (varF 6) (consA (varF 8) nilA))) (tupF (consA (varF 6) (consA (cF (.none)) nilA)))) (nameT 3)) (ifS (orT (testF (inNF true 1 (varF 3))) (truF (callF PG.m__is_stronger (consA (varF 4) (consA (binF dIx (binF dIx (varF 0) (ixNF 1 (varF 3))) (cF (.int 0))) nilA))))) (putNS 1 (varF 3) (varF 2)) nxS))))
noncomputable def PG.S_cleaned : Rho → Out := (seqS (newNS 1) (seqS (forP (enumF (varF 0)) (consTs (nameT 2) (consTs (tupT 2 (consTs (nameT 4) (consTs (nameT 5) nilTs))) nilTs)) PG.L_cleaned_1) (retS (lcF [2] (itemsQ (sortNF 1)) (nameT 2) yesT (binF dIx (varF 0) (varF 2))))))
noncomputable def PG.B_cleaned (a0 : PyData) : FR := outFR (PG.S_cleaned [.d a0, .un, .un, .un, .un, .un, .un, .un, .un])
noncomputable def PG.m_cleaned : Fn := fn1 PG.B_cleaned
noncomputable def PG.S__amount : Rho → Out := (retS (callF PG.m_amount_of (consA (binF dIx (binF dIx (varF 0) (cF (.int 0))) (cF (.int 0))) (consA (varF 1) nilA))))
noncomputable def PG.B__amount (a0 a1 : PyData) : FR := outFR (PG.S__amount [.d a0, .d a1])
noncomputable def PG.m__amount : Fn := fn2 PG.B__amount
noncomputable def PG.S__combined : Rho → Out := (seqS (asgS (callF PG.m_sum_of (consA (lstF (consA (binF dIx (varF 0) (cF (.int 0))) (consA (binF dIx (varF 2) (cF (.int 0))) nilA))) (consA (tupF (consA (tupF (consA (cF (.int 0)) (consA (varF 1) nilA))) (consA (tupF (consA (cF (.int 1)) (consA (varF 3) nilA))) nilA))) nilA))) (nameT 4)) (seqS (asgS (callF PG.m_normal_factor (consA (varF 4) nilA)) (nameT 5)) (seqS (asgS (binF dAdd (callF PG.m_multiplied (consA (binF dIx (varF 0) (cF (.int 1))) (consA (callF PG.m_times (consA (varF 1) (consA (varF 5) nilA))) nilA))) (callF PG.m_multiplied (consA (binF dIx (varF 2) (cF (.int 1))) (consA (callF PG.m_times (consA (varF 3) (consA (varF 5) nilA))) nilA)))) (nameT 6)) (retS (tupF (consA (callF PG.m_normal (consA (varF 4) nilA)) (consA (callF PG.m_added_up (consA (varF 6) nilA)) nilA)))))))
noncomputable def PG.B__combined (a0 a1 a2 a3 : PyData) : FR := outFR (PG.S__combined [.d a0, .d a1, .d a2, .d a3, .un, .un, .un])
noncomputable def PG.m__combined : Fn := fn4 PG.B__combined
noncomputable def PG.L__with_substitution_1 : Rho → Out := (seqS (asgS (callF PG.m__amount (consA (varF 6) (consA (varF 2) nilA))) (nameT 7)) (ifS (testF (binF dEq (varF 7) (cF (.tuple [.int 0, .int 1])))) (appendS 5 (varF 6)) (appendS 5 (callF PG.m__combined (consA (varF 6) (consA (cF (.tuple [.int 1, .int 1])) (consA (varF 3) (consA (callF PG.m_over (consA (callF PG.m_times (consA (varF 7) (consA (cF (.tuple [.int (-1), .int 1])) nilA))) (consA (varF 4) nilA))) nilA))))))))
noncomputable def PG.S__with_substitution : Rho → Out := (seqS (asgS (binF dIx (varF 0) (varF 1)) (nameT 3)) (seqS (asgS (callF PG.m__amount (consA (varF 3) (consA (varF 2) nilA))) (nameT 4)) (seqS (ownS nilA 5) (seqS (forS (itemsQ (binF dAdd (cutF (varF 0) noP (someP (varF 1))) (cutF (varF 0) (someP (binF dAdd (varF 1) (cF (.int 1)))) noP))) (nameT 6) PG.L__with_substitution_1) (retS (varF 5))))))
noncomputable def PG.B__with_substitution (a0 a1 a2 : PyData) : FR := outFR (PG.S__with_substitution [.d a0, .d a1, .d a2, .un, .un, .un, .un, .un])
noncomputable def PG.m__with_substitution : Fn := fn3 PG.B__with_substitution
noncomputable def PG.L__with_pairs_1 : Rho → Out := (ifS (testF (binF dLt (callF PG.m_compare (consA (varF 9) (consA (cF (.tuple [.int 0, .int 1])) nilA))) (cF (.int 0)))) (appendS 4 (callF PG.m__combined (consA (varF 6) (consA (callF PG.m_over (consA (cF (.tuple [.int 1, .int 1])) (consA (varF 7) nilA))) (consA (varF 8) (consA (callF PG.m_over (consA (cF (.tuple [.int (-1), .int 1])) (consA (varF 9) nilA))) nilA)))))) nxS)
noncomputable def PG.L__with_pairs_2 : Rho → Out := (seqS (ifS (testF (binF dLe (callF PG.m_compare (consA (varF 7) (consA (cF (.tuple [.int 0, .int 1])) nilA))) (cF (.int 0)))) .ct nxS) (forP (zipF (varF 0) (varF 2)) (consTs (nameT 8) (consTs (nameT 9) nilTs)) PG.L__with_pairs_1))
noncomputable def PG.S__with_pairs : Rho → Out := (seqS (lcS 2 [3] (itemsQ (varF 0)) (nameT 3) yesT (callF PG.m__amount (consA (varF 3) (consA (varF 1) nilA)))) (seqS (lcS 4 [3, 5] (pairsF (zipF (varF 0) (varF 2))) (tupT 2 (consTs (nameT 3) (consTs (nameT 5) nilTs))) (testF (binF dEq (varF 5) (cF (.tuple [.int 0, .int 1])))) (varF 3)) (seqS (forP (zipF (varF 0) (varF 2)) (consTs (nameT 6) (consTs (nameT 7) nilTs)) PG.L__with_pairs_2) (retS (varF 4)))))
noncomputable def PG.B__with_pairs (a0 a1 : PyData) : FR := outFR (PG.S__with_pairs [.d a0, .d a1, .un, .un, .un, .un, .un, .un, .un, .un])
noncomputable def PG.m__with_pairs : Fn := fn2 PG.B__with_pairs
noncomputable def PG.L_eliminated_1 : Rho → Out := (ifS (andT (testF (binF dEq (binF dIx (binF dIx (varF 3) (cF (.int 0))) (cF (.int 1))) (cF (.str "=")))) (testF (binF dNe (callF PG.m__amount (consA (varF 3) (consA (varF 1) nilA))) (cF (.tuple [.int 0, .int 1]))))) (retS (callF PG.m__with_substitution (consA (varF 0) (consA (varF 2) (consA (varF 1) nilA))))) nxS)
noncomputable def PG.S_eliminated : Rho → Out := (seqS (forP (enumF (varF 0)) (consTs (nameT 2) (consTs (nameT 3) nilTs)) PG.L_eliminated_1) (retS (callF PG.m__with_pairs (consA (varF 0) (consA (varF 1) nilA)))))
noncomputable def PG.B_eliminated (a0 a1 : PyData) : FR := outFR (PG.S_eliminated [.d a0, .d a1, .un, .un])
noncomputable def PG.m_eliminated : Fn := fn2 PG.B_eliminated
noncomputable def LH.L_added_1 : Rho → Out := (asgS (binF dAdd (varF 4) (lcF [7, 8] (itemsQ (binF dIx (varF 5) (cF (.int 1)))) (tupT 2 (consTs (nameT 7) (consTs (nameT 8) nilTs))) yesT (tupF (consA (varF 7) (consA (callF LH.m_mul (consA (varF 8) (consA (varF 6) nilA))) nilA))))) (nameT 4))
noncomputable def LH.S_added : Rho → Out := (seqS (ownS nilA 4) (seqS (forS (itemsQ (lstF (consA (tupF (consA (varF 0) (consA (varF 1) nilA))) (consA (tupF (consA (varF 2) (consA (varF 3) nilA))) nilA)))) (tupT 2 (consTs (nameT 5) (consTs (nameT 6) nilTs))) LH.L_added_1) (retS (callF LH.m_parts (consA (varF 4) nilA)))))
noncomputable def LH.B_added (a0 a1 a2 a3 : PyData) : FR := outFR (LH.S_added [.d a0, .d a1, .d a2, .d a3, .un, .un, .un, .un, .un])
noncomputable def LH.m_added : Fn := fn4 LH.B_added
noncomputable def LH.S_derive : Rho → Out := (seqS (asgS (callF LH.m_total (consA (varF 0) (consA (varF 1) nilA))) (nameT 2)) (seqS (asgS (callF LH.m_factor (consA (varF 2) nilA)) (nameT 3)) (retS (tupF (consA (callF LH.m_scaled (consA (varF 2) (consA (varF 3) nilA))) (consA (appF (app1 bTuple) (consA (lcF [4, 5] (itemsQ (varF 1)) (tupT 2 (consTs (nameT 4) (consTs (nameT 5) nilTs))) yesT (tupF (consA (varF 4) (consA (callF LH.m_mul (consA (varF 5) (consA (varF 3) nilA))) nilA)))) nilA)) nilA))))))
noncomputable def LH.B_derive (a0 a1 : PyData) : FR := outFR (LH.S_derive [.d a0, .d a1, .un, .un, .un, .un])
noncomputable def LH.m_derive : Fn := fn2 LH.B_derive
noncomputable def LH.L_in_1 : Rho → Out := (ifS (testF (binF dEq (varF 2) (varF 1))) (retS (varF 3)) nxS)
noncomputable def LH.S_in : Rho → Out := (seqS (forS (itemsQ (binF dIx (varF 0) (cF (.int 0)))) (tupT 2 (consTs (nameT 2) (consTs (nameT 3) nilTs))) LH.L_in_1) (retS (tupF (consA (cF (.int 0)) (consA (cF (.int 1)) nilA)))))
noncomputable def LH.B_in (a0 a1 : PyData) : FR := outFR (LH.S_in [.d a0, .d a1, .un, .un])
noncomputable def LH.m_in : Fn := fn2 LH.B_in
noncomputable def LH.L_clean_1 : Rho → Out := (seqS (asgS (binF dIx (binF dIx (varF 0) (varF 5)) (cF (.int 0))) (nameT 6)) (seqS (ifS (andT (testF (binF dEq (binF dIx (varF 3) (cF (.int 1))) (cF (.str "=")))) (andT (testF (binF dEq (varF 6) (varF 3))) (testF (binF dLt (varF 5) (varF 2))))) (asgS (cF (.bool false)) (nameT 4)) nxS) (ifS (andT (testF (binF dNe (binF dIx (varF 3) (cF (.int 1))) (cF (.str "=")))) (andT (testF (binF dNe (binF dIx (varF 6) (cF (.int 1))) (cF (.str "=")))) (andT (testF (binF dEq (binF dIx (varF 6) (cF (.int 0))) (binF dIx (varF 3) (cF (.int 0))))) (testF (binF dNe (varF 5) (varF 2)))))) (ifS (truF (callF LH.m_less (consA (binF dIx (varF 6) (cF (.int 2))) (consA (binF dIx (varF 3) (cF (.int 2))) nilA)))) (asgS (cF (.bool false)) (nameT 4)) (ifS (andT (testF (binF dEq (binF dIx (varF 6) (cF (.int 2))) (binF dIx (varF 3) (cF (.int 2))))) (andT (testF (binF dEq (binF dIx (varF 6) (cF (.int 1))) (cF (.str "<")))) (testF (binF dEq (binF dIx (varF 3) (cF (.int 1))) (cF (.str "<=")))))) (asgS (cF (.bool false)) (nameT 4)) (ifS (andT (testF (binF dEq (binF dIx (varF 6) (cF (.int 2))) (binF dIx (varF 3) (cF (.int 2))))) (andT (testF (binF dEq (binF dIx (varF 6) (cF (.int 1))) (binF dIx (varF 3) (cF (.int 1))))) (testF (binF dLt (varF 5) (varF 2))))) (asgS (cF (.bool false)) (nameT 4)) nxS))) nxS)))
noncomputable def LH.L_clean_2 : Rho → Out := (seqS (asgS (binF dIx (binF dIx (varF 0) (varF 2)) (cF (.int 0))) (nameT 3)) (seqS (asgS (orV (binF dGt (appF (app1 bLen) (consA (binF dIx (varF 3) (cF (.int 0))) nilA)) (cF (.int 0))) (notV (callF LH.m_true (consA (varF 3) (consA (tupF nilA) nilA))))) (nameT 4)) (seqS (forS (range1F (consA (appF (app1 bLen) (consA (varF 0) nilA)) nilA)) (nameT 5) LH.L_clean_1) (ifS (truF (varF 4)) (appendS 1 (binF dIx (varF 0) (varF 2))) nxS))))
noncomputable def LH.S_clean : Rho → Out := (seqS (ownS nilA 1) (seqS (forS (range1F (consA (appF (app1 bLen) (consA (varF 0) nilA)) nilA)) (nameT 2) LH.L_clean_2) (retS (varF 1))))
noncomputable def LH.B_clean (a0 : PyData) : FR := outFR (LH.S_clean [.d a0, .un, .un, .un, .un, .un, .un])
noncomputable def LH.m_clean : Fn := fn1 LH.B_clean
noncomputable def LH.L_without_1 : Rho → Out := (ifS (andT (testF (binF dIsN2 (varF 3) (cF (.none)))) (andT (testF (binF dEq (binF dIx (binF dIx (binF dIx (varF 1) (varF 4)) (cF (.int 0))) (cF (.int 1))) (cF (.str "=")))) (testF (binF dNe (binF dIx (callF LH.m_in (consA (binF dIx (binF dIx (varF 1) (varF 4)) (cF (.int 0))) (consA (varF 2) nilA))) (cF (.int 0))) (cF (.int 0)))))) (asgS (varF 4) (nameT 3)) nxS)
noncomputable def LH.L_without_2 : Rho → Out := (ifS (testF (binF dNe (varF 4) (varF 3))) (seqS (asgS (callF LH.m_in (consA (binF dIx (binF dIx (varF 1) (varF 4)) (cF (.int 0))) (consA (varF 2) nilA))) (nameT 7)) (seqS (asgS (callF LH.m_added (consA (binF dIx (varF 1) (varF 4)) (consA (tupF (consA (cF (.int 1)) (consA (cF (.int 1)) nilA))) (consA (binF dIx (varF 1) (varF 3)) (consA (callF LH.m_sub (consA (tupF (consA (cF (.int 0)) (consA (cF (.int 1)) nilA))) (consA (callF LH.m_div (consA (varF 7) (consA (varF 6) nilA))) nilA))) nilA))))) (nameT 8)) (appendS 5 (callF LH.m_derive (consA (varF 0) (consA (varF 8) nilA)))))) nxS)
noncomputable def LH.L_without_3 : Rho → Out := (seqS (asgS (callF LH.m_div (consA (tupF (consA (cF (.int 1)) (consA (cF (.int 1)) nilA))) (consA (callF LH.m_in (consA (binF dIx (varF 10) (cF (.int 0))) (consA (varF 2) nilA))) nilA))) (nameT 7)) (seqS (asgS (callF LH.m_div (consA (tupF (consA (unF dNeg (cF (.int 1))) (consA (cF (.int 1)) nilA))) (consA (callF LH.m_in (consA (binF dIx (varF 11) (cF (.int 0))) (consA (varF 2) nilA))) nilA))) (nameT 12)) (appendS 5 (callF LH.m_derive (consA (varF 0) (consA (callF LH.m_added (consA (varF 10) (consA (varF 7) (consA (varF 11) (consA (varF 12) nilA))))) nilA))))))
noncomputable def LH.L_without_4 : Rho → Out := (forS (itemsQ (lcO [9] (itemsQ (varF 1)) (nameT 9) (testF (binF dLt (binF dIx (callF LH.m_in (consA (binF dIx (varF 9) (cF (.int 0))) (consA (varF 2) nilA))) (cF (.int 0))) (cF (.int 0)))) (varF 9))) (nameT 11) LH.L_without_3)
noncomputable def LH.S_without : Rho → Out := (seqS (asgS (cF (.none)) (nameT 3)) (seqS (forS (range1F (consA (appF (app1 bLen) (consA (varF 1) nilA)) nilA)) (nameT 4) LH.L_without_1) (seqS (ownS nilA 5) (seqS (ifS (testF (binF dNotN2 (varF 3) (cF (.none)))) (seqS (asgS (callF LH.m_in (consA (binF dIx (binF dIx (varF 1) (varF 3)) (cF (.int 0))) (consA (varF 2) nilA))) (nameT 6)) (seqS (forS (range1F (consA (appF (app1 bLen) (consA (varF 1) nilA)) nilA)) (nameT 4) LH.L_without_2) (retS (varF 5)))) nxS) (seqS (lcS 5 [9] (itemsQ (varF 1)) (nameT 9) (testF (binF dEq (binF dIx (callF LH.m_in (consA (binF dIx (varF 9) (cF (.int 0))) (consA (varF 2) nilA))) (cF (.int 0))) (cF (.int 0)))) (varF 9)) (seqS (forS (itemsQ (lcO [9] (itemsQ (varF 1)) (nameT 9) (testF (binF dGt (binF dIx (callF LH.m_in (consA (binF dIx (varF 9) (cF (.int 0))) (consA (varF 2) nilA))) (cF (.int 0))) (cF (.int 0)))) (varF 9))) (nameT 10) LH.L_without_4) (retS (varF 5))))))))
noncomputable def LH.B_without (a0 a1 a2 : PyData) : FR := outFR (LH.S_without [.d a0, .d a1, .d a2, .un, .un, .un, .un, .un, .un, .un, .un, .un, .un])
noncomputable def LH.m_without : Fn := fn3 LH.B_without
noncomputable def LH.S_begin : Rho → Out := (retS (lcF [1] (range1F (consA (appF (app1 bLen) (consA (varF 0) nilA)) nilA)) (nameT 1) yesT (tupF (consA (binF dIx (varF 0) (varF 1)) (consA (tupF (consA (tupF (consA (varF 1) (consA (tupF (consA (cF (.int 1)) (consA (cF (.int 1)) nilA))) nilA))) nilA)) nilA)))))
noncomputable def LH.B_begin (a0 : PyData) : FR := outFR (LH.S_begin [.d a0, .un])
noncomputable def LH.m_begin : Fn := fn1 LH.B_begin
end DL
namespace DL
open PySem PySem.Spec PyProof.Rows L2 RT
section
variable {κ : Type} [DecidableEq κ]
def gget (kvs : List (κ × Qn)) (x : κ) : Qn := ((kvs.find? fun kv => decide (kv.1 = x)).map (·.2)).getD (0, 1)
def gput (kvs : List (κ × Qn)) (x : κ) (v : Qn) : List (κ × Qn) :=
  if (kvs.any fun kv => decide (kv.1 = x)) = true then kvs.map (fun kv => if kv.1 = x then (kv.1, v) else kv) else kvs ++ [(x, v)]
def gadd (kvs : List (κ × Qn)) (p : κ × Qn) : List (κ × Qn) := gput kvs p.1 (qadd (gget kvs p.1) p.2)
def gsum (ps kvs : List (κ × Qn)) : List (κ × Qn) := ps.foldl gadd kvs
def gparts (srt : List κ → List κ) (ps : List (κ × Qn)) : List (κ × Qn) := ((srt ((gsum ps []).map (·.1))).map fun x => (x, gget (gsum ps []) x)).filter fun p => decide (p.2.1 ≠ 0)
def vs (x : κ) : List (κ × Qn) → Rat
  | [] => 0
  | p :: r => (if p.1 = x then rv p.2 else 0) + vs x r
theorem vs_app (x : κ) : ∀ ps qs : List (κ × Qn), vs x (ps ++ qs) = vs x ps + vs x qs
  | [], qs => by simp only [List.nil_append, vs]; grind
  | p :: ps, qs => by simp only [List.cons_append, vs, vs_app x ps qs]; grind
theorem vs_perm (x : κ) {ps qs : List (κ × Qn)} (h : ps.Perm qs) : vs x ps = vs x qs := by
  induction h with
  | nil => rfl
  | cons p _ ih => simp only [vs, ih]
  | swap p q l => simp only [vs]; grind
  | trans _ _ i1 i2 => exact i1.trans i2
theorem vs_no (x : κ) : ∀ ps : List (κ × Qn), (∀ p ∈ ps, p.1 ≠ x) → vs x ps = 0
  | [], _ => rfl
  | p :: ps, h => by
    have z := vs_no x ps fun q hq => h q (List.mem_cons_of_mem _ hq)
    simp only [vs, if_neg (h p List.mem_cons_self), z]
    grind
def gND (ps : List (κ × Qn)) : Prop := (ps.map (·.1)).Nodup
theorem gND.tail {p : κ × Qn} {ps : List (κ × Qn)} (h : gND (p :: ps)) : gND ps ∧ ∀ q ∈ ps, q.1 ≠ p.1 := by
  unfold gND at h
  rw [List.map_cons, List.nodup_cons] at h
  exact ⟨h.2, fun q hq e => h.1 (by rw [← e]; exact List.mem_map.mpr ⟨q, hq, rfl⟩)⟩
theorem vs_mem {p : κ × Qn} : ∀ {ps : List (κ × Qn)}, gND ps → p ∈ ps → vs p.1 ps = rv p.2
  | q :: ps, h, hm => by
    obtain ⟨h1, h2⟩ := h.tail
    rcases List.mem_cons.mp hm with rfl | hm
    · simp only [vs, if_true, vs_no p.1 ps h2]; grind
    · have : ¬ q.1 = p.1 := fun e => h2 p hm e.symm
      simp only [vs, if_neg this, vs_mem h1 hm]; grind
theorem gget_mem {kvs : List (κ × Qn)} {x : κ} : (gget kvs x = (0, 1) ∧ ∀ p ∈ kvs, p.1 ≠ x) ∨ ∃ p ∈ kvs, p.1 = x ∧ gget kvs x = p.2 := by
  unfold gget
  cases e : kvs.find? fun kv => decide (kv.1 = x) with
  | none => left; exact ⟨rfl, fun p hp => by simpa using List.find?_eq_none.mp e p hp⟩
  | some p =>
    right
    exact ⟨p, List.mem_of_find?_eq_some e, by simpa using List.find?_some e, rfl⟩
theorem vs_get {kvs : List (κ × Qn)} (h : gND kvs) (x : κ) : vs x kvs = rv (gget kvs x) := by
  rcases gget_mem (kvs := kvs) (x := x) with ⟨e, n⟩ | ⟨p, hp, e, g⟩
  · rw [e, rv01, vs_no x kvs n]
  · rw [g, ← e, vs_mem h hp]
theorem mem_gput {kvs : List (κ × Qn)} {x : κ} {v : Qn} {p : κ × Qn} (h : p ∈ gput kvs x v) : p ∈ kvs ∨ p = (x, v) := by
  unfold gput at h
  split at h
  · obtain ⟨q, hq, e⟩ := List.mem_map.mp h
    by_cases z : q.1 = x
    · rw [if_pos z] at e
      right; rw [← e, z]
    · rw [if_neg z] at e
      left; rw [← e]; exact hq
  · rcases List.mem_append.mp h with h | h
    · exact .inl h
    · right; simpa using h
theorem gput_keys (kvs : List (κ × Qn)) (x : κ) (v : Qn) : (gput kvs x v).map (·.1) = if x ∈ kvs.map (·.1) then kvs.map (·.1) else kvs.map (·.1) ++ [x] := by
  unfold gput
  have e : (kvs.any fun kv => decide (kv.1 = x)) = decide (x ∈ kvs.map (·.1)) := by
    rw [Bool.eq_iff_iff]
    simp only [List.any_eq_true, decide_eq_true_eq, List.mem_map]
  rw [e]
  by_cases h : x ∈ kvs.map (·.1)
  · rw [if_pos h, if_pos (by simpa using h), List.map_map]
    apply List.map_congr_left
    intro p _
    simp only [Function.comp_apply]
    split <;> rfl
  · rw [if_neg h, if_neg (by simpa using h)]
    simp
theorem gput_nd {kvs : List (κ × Qn)} {x : κ} {v : Qn} (h : gND kvs) : gND (gput kvs x v) := by
  unfold gND at h ⊢
  rw [gput_keys]
  split
  · exact h
  · rename_i hn
    rw [List.nodup_append]
    refine ⟨h, by simp, fun a ha b hb e => ?_⟩
    simp at hb
    exact hn (by rw [← hb, ← e]; exact ha)
theorem gsum_nd : ∀ (ps : List (κ × Qn)) {kvs : List (κ × Qn)}, gND kvs → gND (gsum ps kvs)
  | [], _, h => h
  | p :: ps, kvs, h => gsum_nd ps (kvs := gadd kvs p) (gput_nd h)
theorem vs_put (y : κ) {x : κ} {v : Qn} : ∀ {kvs : List (κ × Qn)}, gND kvs → vs y (gput kvs x v) = if x = y then rv v else vs y kvs := by
  intro kvs h
  by_cases e : x = y
  · rw [if_pos e]
    have : (x, v) ∈ gput kvs x v := by
      unfold gput
      split
      · rename_i hm
        obtain ⟨q, hq, eq⟩ := List.any_eq_true.mp hm
        exact List.mem_map.mpr ⟨q, hq, by rw [if_pos (by simpa using eq), show q.1 = x by simpa using eq]⟩
      · simp
    have z := vs_mem (p := (x, v)) (gput_nd h) this
    rw [← e]; exact z
  · rw [if_neg e]
    unfold gput
    split
    · clear h
      induction kvs with
      | nil => rfl
      | cons p kvs ih =>
        by_cases hm : (kvs.any fun kv => decide (kv.1 = x)) = true
        · have z := ih hm
          rw [List.map_cons]
          by_cases q : p.1 = x
          · rw [if_pos q]
            have q2 : ¬ p.1 = y := fun w => e (q.symm.trans w)
            simp only [vs, z]
            rw [if_neg q2, if_neg q2]
          · rw [if_neg q]
            simp only [vs, z]
        · have no : kvs.map (fun kv => if kv.1 = x then (kv.1, v) else kv) = kvs := by
            conv => rhs; rw [← List.map_id kvs]
            apply List.map_congr_left
            intro r hr
            have : ¬ r.1 = x := fun w => hm (List.any_eq_true.mpr ⟨r, hr, by simpa using w⟩)
            simp [this]
          rw [List.map_cons, no]
          by_cases q : p.1 = x
          · rw [if_pos q]
            have q2 : ¬ p.1 = y := fun w => e (q.symm.trans w)
            simp only [vs]
            rw [if_neg q2, if_neg q2]
          · rw [if_neg q]
    · rw [vs_app]
      simp only [vs, if_neg e]
      grind
theorem gsum_low : ∀ (ps : List (κ × Qn)) {kvs : List (κ × Qn)}, (∀ p ∈ kvs, Low p.2) → (∀ p ∈ ps, 0 < p.2.2) → ∀ q ∈ gsum ps kvs, Low q.2
  | [], _, h, _ => h
  | p :: ps, kvs, h, hp => gsum_low ps (kvs := gadd kvs p) (fun q hq => by
      rcases mem_gput hq with hq | rfl
      · exact h q hq
      · have g : 0 < (gget kvs p.1).2 := by
          rcases gget_mem (kvs := kvs) (x := p.1) with ⟨e, _⟩ | ⟨r, hr, _, e⟩
          · rw [e]; decide
          · rw [e]; exact (h r hr).pos
        have := hp p List.mem_cons_self
        exact low_nrm (Int.mul_ne_zero (by omega) (by omega))) fun q hq => hp q (List.mem_cons_of_mem _ hq)
theorem gget_low {kvs : List (κ × Qn)} (h : ∀ p ∈ kvs, Low p.2) (x : κ) : Low (gget kvs x) := by
  rcases gget_mem (kvs := kvs) (x := x) with ⟨e, _⟩ | ⟨r, hr, _, e⟩
  · rw [e]; exact low01
  · rw [e]; exact h r hr
theorem vs_sum (x : κ) : ∀ (ps : List (κ × Qn)) {kvs : List (κ × Qn)}, gND kvs → (∀ p ∈ kvs, Low p.2) → (∀ p ∈ ps, 0 < p.2.2) → vs x (gsum ps kvs) = vs x kvs + vs x ps
  | [], kvs, _, _, _ => by show vs x kvs = _; simp only [vs]; grind
  | p :: ps, kvs, h, hl, hp => by
    have p0 := hp p List.mem_cons_self
    have g := gget_low hl p.1
    have gp := g.pos
    have z := vs_sum x ps (kvs := gadd kvs p) (gput_nd h) (gsum_low [p] hl fun q hq => by rw [List.mem_singleton.mp hq]; exact p0) fun q hq => hp q (List.mem_cons_of_mem _ hq)
    show vs x (gsum ps (gadd kvs p)) = _
    rw [z]
    unfold gadd
    rw [vs_put x h, rv_add (by omega) (by omega)]
    simp only [vs]
    by_cases e : p.1 = x
    · rw [if_pos e, if_pos e, ← vs_get h, e]; grind
    · rw [if_neg e, if_neg e]; grind
theorem vs_filter (x : κ) : ∀ ps : List (κ × Qn), vs x (ps.filter fun p => decide (p.2.1 ≠ 0)) = vs x ps
  | [] => rfl
  | p :: ps => by
    have z := vs_filter x ps
    rw [List.filter_cons]
    by_cases h : p.2.1 = 0
    · rw [if_neg (by simp [h]), z]
      have : rv p.2 = 0 := rv_zero.mpr (.inl h)
      simp only [vs, this]
      split <;> grind
    · rw [if_pos (by simp [h])]
      simp only [vs, z]
theorem gkeys_get (kvs : List (κ × Qn)) (h : gND kvs) : (kvs.map (·.1)).map (fun x => (x, gget kvs x)) = kvs := by
  rw [List.map_map]
  conv => rhs; rw [← List.map_id kvs]
  apply List.map_congr_left
  intro p hp
  have : gget kvs p.1 = p.2 := by
    rcases gget_mem (kvs := kvs) (x := p.1) with ⟨_, n⟩ | ⟨r, hr, e, g⟩
    · exact absurd rfl (n p hp)
    · rw [g]
      have : r = p := by
        clear g
        induction kvs with
        | nil => cases hp
        | cons q kvs ih =>
          obtain ⟨h1, h2⟩ := h.tail
          rcases List.mem_cons.mp hp with rfl | hp'
          · rcases List.mem_cons.mp hr with rfl | hr'
            · rfl
            · exact absurd e (h2 r hr')
          · rcases List.mem_cons.mp hr with rfl | hr'
            · exact absurd e.symm (h2 p hp')
            · exact ih h1 hp' hr'
      rw [this]
  simp [this]
structure Srt (srt : List κ → List κ) (le : κ → κ → Prop) : Prop where
  perm : ∀ l, (srt l).Perm l
  srtd : ∀ l, (srt l).Pairwise le
  anti : ∀ {a b}, le a b → le b a → a = b
  tot : ∀ a b, le a b ∨ le b a
structure Can (le : κ → κ → Prop) (ps : List (κ × Qn)) : Prop where
  asc : ps.Pairwise fun a b => le a.1 b.1 ∧ a.1 ≠ b.1
  low : ∀ p ∈ ps, Low p.2 ∧ p.2.1 ≠ 0
theorem Can.nd {le : κ → κ → Prop} {ps : List (κ × Qn)} (h : Can le ps) : gND ps := by
  unfold gND
  rw [List.nodup_iff_pairwise_ne, List.pairwise_map]
  exact h.asc.imp fun h => h.2
theorem Can.tail {le : κ → κ → Prop} {p : κ × Qn} {ps : List (κ × Qn)} (h : Can le (p :: ps)) : Can le ps := ⟨h.asc.of_cons, fun q hq => h.low q (List.mem_cons_of_mem _ hq)⟩
theorem gparts_vs {srt : List κ → List κ} {le : κ → κ → Prop} (S : Srt srt le) {ps : List (κ × Qn)} (hp : ∀ p ∈ ps, 0 < p.2.2) (x : κ) : vs x (gparts srt ps) = vs x ps := by
  have h1 : gND (gsum ps []) := gsum_nd ps (by simp [gND])
  unfold gparts
  rw [vs_filter]
  have e : ((srt ((gsum ps []).map (·.1))).map fun x => (x, gget (gsum ps []) x)).Perm (gsum ps []) := by
    have := (S.perm ((gsum ps []).map (·.1))).map (fun x => (x, gget (gsum ps []) x))
    rw [gkeys_get _ h1] at this
    exact this
  rw [vs_perm x e, vs_sum x ps (by simp [gND]) (fun _ h => by cases h) hp]
  simp only [vs]
  grind
theorem gparts_can {srt : List κ → List κ} {le : κ → κ → Prop} (S : Srt srt le) {ps : List (κ × Qn)} (hp : ∀ p ∈ ps, 0 < p.2.2) : Can le (gparts srt ps) := by
  have h1 : gND (gsum ps []) := gsum_nd ps (by simp [gND])
  have h2 : (srt ((gsum ps []).map (·.1))).Nodup := (S.perm _).nodup_iff.mpr h1
  constructor
  · unfold gparts
    refine List.Pairwise.filter _ ?_
    rw [List.pairwise_map]
    exact (S.srtd _).and (List.nodup_iff_pairwise_ne.mp h2)
  · intro p hp'
    unfold gparts at hp'
    obtain ⟨q1, q2⟩ := List.mem_filter.mp hp'
    obtain ⟨x, _, rfl⟩ := List.mem_map.mp q1
    exact ⟨gget_low (gsum_low ps (fun _ h => by cases h) hp) x, by simpa using q2⟩
theorem can_ext {srt : List κ → List κ} {le : κ → κ → Prop} (S : Srt srt le) : ∀ {ps qs : List (κ × Qn)}, Can le ps → Can le qs → (∀ x, vs x ps = vs x qs) → ps = qs
  | [], [], _, _, _ => rfl
  | [], q :: qs, _, hq, h => by
    exfalso
    have a := hq.low q List.mem_cons_self
    have b := vs_mem hq.nd (p := q) List.mem_cons_self
    have c := h q.1
    rw [b] at c
    exact a.2 ((rv_nz a.1.pos).mpr c.symm)
  | p :: ps, [], hp, _, h => by
    exfalso
    have a := hp.low p List.mem_cons_self
    have b := vs_mem hp.nd (p := p) List.mem_cons_self
    have c := h p.1
    rw [b] at c
    exact a.2 ((rv_nz a.1.pos).mpr c)
  | p :: ps, q :: qs, hp, hq, h => by
    have a := hp.low p List.mem_cons_self
    have a' := hq.low q List.mem_cons_self
    have b := vs_mem hp.nd (p := p) List.mem_cons_self
    have b' := vs_mem hq.nd (p := q) List.mem_cons_self
    have key : p.1 = q.1 := by
      apply Classical.byContradiction
      intro ne
      rcases S.tot p.1 q.1 with l | l
      · have c := h p.1
        rw [b, vs_no p.1 (q :: qs) (fun r hr e => by
          rcases List.mem_cons.mp hr with rfl | hr
          · exact ne e.symm
          · have z := List.rel_of_pairwise_cons hq.asc hr
            rw [e] at z
            exact ne (S.anti l z.1))] at c
        exact a.2 ((rv_nz a.1.pos).mpr c)
      · have c := h q.1
        rw [b', vs_no q.1 (p :: ps) (fun r hr e => by
          rcases List.mem_cons.mp hr with rfl | hr
          · exact ne e
          · have z := List.rel_of_pairwise_cons hp.asc hr
            rw [e] at z
            exact ne (S.anti z.1 l))] at c
        exact a'.2 ((rv_nz a'.1.pos).mpr c.symm)
    have val : p.2 = q.2 := by
      refine rv_ext a.1 a'.1 ?_
      rw [← b, ← b', ← key]
      exact h p.1
    have pq : p = q := Prod.ext key val
    subst pq
    rw [can_ext S hp.tail hq.tail fun x => by
      have := h x
      simp only [vs] at this
      grind]
theorem vs_scale (x : κ) {c : Qn} (hc : 0 < c.2) : ∀ ps : List (κ × Qn), (∀ p ∈ ps, 0 < p.2.2) → vs x (ps.map fun p => (p.1, qmul p.2 c)) = vs x ps * rv c
  | [], _ => by simp only [List.map_nil, vs]; grind
  | p :: ps, hp => by
    have p0 := hp p List.mem_cons_self
    have z := vs_scale x hc ps fun q hq => hp q (List.mem_cons_of_mem _ hq)
    simp only [List.map_cons, vs, z, rv_mul (show c.2 ≠ 0 by omega) (show p.2.2 ≠ 0 by omega)]
    split <;> grind
theorem can_scale {le : κ → κ → Prop} {c : Qn} (hc : 0 < c.2) (h0 : c.1 ≠ 0) {ps : List (κ × Qn)} (h : Can le ps) : Can le (ps.map fun p => (p.1, qmul p.2 c)) := by
  refine ⟨by rw [List.pairwise_map]; exact h.asc, fun p hp => ?_⟩
  obtain ⟨q, hq, rfl⟩ := List.mem_map.mp hp
  obtain ⟨l, n⟩ := h.low q hq
  exact ⟨low_nrm (Int.mul_ne_zero (by have := l.pos; omega) (by omega)), qmul_nz n l.pos h0 hc⟩
end
theorem srtS : Srt sortS leS := ⟨sortS_perm, sortS_sorted, fun a b => leS_anti a b, fun a b => leS_total a b⟩
abbrev papM (ps : List Pa) : List Pa := gparts sortI ps
end DL
namespace DL
open PySem PySem.Spec PyProof.Rows L2 RT
section
variable {e0 : Ent} (PS : Rho → Out)
end
section
variable {ps : List (Str × Qn)} (c : List PyData → PyData) (hc : c = PyData.list ∨ c = PyData.tuple) (hk : ∀ pre post, ps = pre ++ post → ∀ x, Sz 4000 (gget (gsum pre []) x)) (h : ∀ p ∈ ps, Sz 4000 p.2) (hl : ps.length < 60)
include hc hk h hl
end
section
variable {e0 : Ent} (PS : Rho → Out)
end
section
variable {ps : List (Int × Qn)} (c : List PyData → PyData) (hc : c = PyData.list ∨ c = PyData.tuple) (hk : ∀ pre post, ps = pre ++ post → ∀ x, Sz 4000 (gget (gsum pre []) x)) (h : ∀ p ∈ ps, Sz 4000 p.2) (hl : ps.length < 60)
include hc hk h hl
end
end DL
namespace DL
open PySem PySem.Spec PyProof.Rows L2 RT
section
variable {rows : List Rw} (R : ∀ r ∈ rows, SzR 1900 r ∧ Sgn r.2.1 ∧ r.1.length ≤ 4) {e1 : Ent}
include R
structure TotIn (rows : List Rw) (pa : List Pa) : Prop where
  ix : ∀ p ∈ pa, (0 ≤ p.1 ∧ p.1 < rows.length) ∧ Sz 2000 p.2
  hT : ∀ pre post, pa = pre ++ post → Sz 4000 (accT rows pre (0, 1))
  hP : ∀ pre post, accP rows pa = pre ++ post → ∀ x, Sz 4000 (gget (gsum pre []) x)
  len : pa.length ≤ 8
section
variable {pa : List Pa} (h : TotIn rows pa)
include h
end
end
end DL
namespace DL
open PySem PySem.Spec PyProof.Rows L2 RT
def Fd (D : Int) (B : Nat) (r : Rat) : Prop := ∃ n : Int, n.natAbs ≤ B ∧ r = (n : Rat) / (D : Rat)
theorem Fd.zero {D : Int} {B : Nat} : Fd D B 0 := ⟨0, by simp, by push_cast; grind⟩
theorem Fd.neg {D : Int} {B : Nat} {r : Rat} (h : Fd D B r) : Fd D B (-r) := by
  obtain ⟨n, a, rfl⟩ := h
  exact ⟨-n, by omega, by push_cast; grind⟩
theorem Fd.mul {D D' : Int} {B B' : Nat} {r r' : Rat} (hD : D ≠ 0) (hD' : D' ≠ 0) (h : Fd D B r) (h' : Fd D' B' r') : Fd (D * D') (B * B') (r * r') := by
  obtain ⟨n, a, rfl⟩ := h
  obtain ⟨n', a', rfl⟩ := h'
  have d1 := rc hD
  have d2 := rc hD'
  exact ⟨n * n', by rw [Int.natAbs_mul]; exact Nat.mul_le_mul a a', by push_cast; grind⟩
theorem Fd.of (q : Qn) : Fd q.2 q.1.natAbs (rv q) := ⟨q.1, Nat.le_refl _, rfl⟩
theorem Low.fd {q : Qn} (h : Low q) {D : Int} (hD : 0 < D) {B : Nat} (f : Fd D B (rv q)) : q.1.natAbs ≤ B ∧ q.2.natAbs ≤ D.natAbs := by
  obtain ⟨n, a, e⟩ := f
  have p := h.pos
  have e2 := (rv_eq (p := q) (q := (n, D)) p hD).mp (by rw [e]; rfl)
  simp only at e2
  have c : Nat.Coprime q.2.natAbs q.1.natAbs := by
    have := h.co
    rw [Nat.gcd_comm] at this
    exact this
  have dv : q.2.natAbs ∣ D.natAbs := by
    refine c.dvd_of_dvd_mul_left ?_
    rw [← Int.natAbs_mul, e2, Int.natAbs_mul]
    exact Nat.dvd_mul_left _ _
  have z2 : q.2.natAbs ≤ D.natAbs := Nat.le_of_dvd (by omega) dv
  refine ⟨?_, z2⟩
  have e3 : q.1.natAbs * D.natAbs = n.natAbs * q.2.natAbs := by rw [← Int.natAbs_mul, e2, Int.natAbs_mul]
  have : q.1.natAbs * D.natAbs ≤ n.natAbs * D.natAbs := by rw [e3]; exact Nat.mul_le_mul_left _ z2
  exact Nat.le_trans (Nat.le_of_mul_le_mul_right this (by omega)) a
theorem Low.sz {q : Qn} (h : Low q) {D : Int} (hD : 0 < D) {B n : Nat} (f : Fd D B (rv q)) (hB : B < 2 ^ n) (hn : D.natAbs < 2 ^ n) : Sz n q := by
  obtain ⟨a, b⟩ := h.fd hD f
  exact ⟨h.pos, Nat.lt_of_le_of_lt a hB, Nat.lt_of_le_of_lt b hn⟩
section
variable {κ : Type} [DecidableEq κ]
def lin (f : κ → Rat) : List (κ × Qn) → Rat
  | [] => 0
  | p :: r => rv p.2 * f p.1 + lin f r
theorem lin_app (f : κ → Rat) : ∀ ps qs : List (κ × Qn), lin f (ps ++ qs) = lin f ps + lin f qs
  | [], qs => by simp only [List.nil_append, lin]; grind
  | p :: ps, qs => by simp only [List.cons_append, lin, lin_app f ps qs]; grind
theorem lin_perm (f : κ → Rat) {ps qs : List (κ × Qn)} (h : ps.Perm qs) : lin f ps = lin f qs := by
  induction h with
  | nil => rfl
  | cons p _ ih => simp only [lin, ih]
  | swap p q l => simp only [lin]; grind
  | trans _ _ i1 i2 => exact i1.trans i2
theorem lin_filter (f : κ → Rat) : ∀ ps : List (κ × Qn), lin f (ps.filter fun p => decide (p.2.1 ≠ 0)) = lin f ps
  | [] => rfl
  | p :: ps => by
    have z := lin_filter f ps
    rw [List.filter_cons]
    by_cases h : p.2.1 = 0
    · rw [if_neg (by simp [h]), z]
      have : rv p.2 = 0 := rv_zero.mpr (.inl h)
      simp only [lin, this]
      grind
    · rw [if_pos (by simp [h])]
      simp only [lin, z]
theorem lin_put (f : κ → Rat) {x : κ} {v : Qn} : ∀ kvs : List (κ × Qn), gND kvs → lin f (gput kvs x v) = lin f kvs + (rv v - rv (gget kvs x)) * f x
  | [], _ => by
    have : gget ([] : List (κ × Qn)) x = (0, 1) := rfl
    rw [this, rv01]
    simp only [gput, List.any_nil, Bool.false_eq_true, if_false, List.nil_append, lin]
    grind
  | p :: kvs, h => by
    obtain ⟨h', hnot⟩ := h.tail
    have z := lin_put f (x := x) (v := v) kvs h'
    by_cases e : p.1 = x
    · have g : gget (p :: kvs) x = p.2 := by simp [gget, e]
      have hk : kvs.map (fun kv => if kv.1 = x then (kv.1, v) else kv) = kvs := by
        conv => rhs; rw [← List.map_id kvs]
        apply List.map_congr_left
        intro q hq
        have : ¬ q.1 = x := fun z => hnot q hq (z.trans e.symm)
        simp [this]
      have pq : gput (p :: kvs) x v = (p.1, v) :: kvs := by
        unfold gput
        rw [if_pos (by simp [e]), List.map_cons, if_pos e, hk]
      rw [pq, g]
      simp only [lin, e]
      grind
    · have g : gget (p :: kvs) x = gget kvs x := by simp [gget, e]
      have pq : gput (p :: kvs) x v = p :: gput kvs x v := by
        unfold gput
        have ea : ((p :: kvs).any fun kv => decide (kv.1 = x)) = (kvs.any fun kv => decide (kv.1 = x)) := by simp [e]
        rw [ea]
        split
        · rw [List.map_cons, if_neg e]
        · rfl
      rw [pq, g]
      simp only [lin, z]
      grind
theorem lin_sum (f : κ → Rat) : ∀ (ps kvs : List (κ × Qn)), gND kvs → (∀ p ∈ kvs, Low p.2) → (∀ p ∈ ps, 0 < p.2.2) → lin f (gsum ps kvs) = lin f kvs + lin f ps
  | [], kvs, _, _, _ => by show lin f kvs = _; simp only [lin]; grind
  | p :: ps, kvs, h, hl, hp => by
    have p0 := hp p List.mem_cons_self
    have g := gget_low hl p.1
    have gp := g.pos
    have z := lin_sum f ps (gadd kvs p) (gput_nd h) (gsum_low [p] hl fun q hq => by rw [List.mem_singleton.mp hq]; exact p0) fun q hq => hp q (List.mem_cons_of_mem _ hq)
    show lin f (gsum ps (gadd kvs p)) = _
    rw [z]
    unfold gadd
    rw [lin_put f kvs h, rv_add (by omega) (by omega)]
    simp only [lin]
    grind
theorem gparts_lin {srt : List κ → List κ} {le : κ → κ → Prop} (S : Srt srt le) (f : κ → Rat) {ps : List (κ × Qn)} (hp : ∀ p ∈ ps, 0 < p.2.2) : lin f (gparts srt ps) = lin f ps := by
  have h1 : gND (gsum ps []) := gsum_nd ps (by simp [gND])
  unfold gparts
  rw [lin_filter]
  have e : ((srt ((gsum ps []).map (·.1))).map fun x => (x, gget (gsum ps []) x)).Perm (gsum ps []) := by
    have := (S.perm ((gsum ps []).map (·.1))).map (fun x => (x, gget (gsum ps []) x))
    rw [gkeys_get _ h1] at this
    exact this
  rw [lin_perm f e, lin_sum f ps [] (by simp [gND]) (fun _ h => by cases h) hp]
  simp only [lin]
  grind
theorem lin_scale (f : κ → Rat) {c : Qn} (hc : 0 < c.2) : ∀ ps : List (κ × Qn), (∀ p ∈ ps, 0 < p.2.2) → lin f (ps.map fun p => (p.1, qmul p.2 c)) = lin f ps * rv c
  | [], _ => by simp only [List.map_nil, lin]; grind
  | p :: ps, hp => by
    have p0 := hp p List.mem_cons_self
    have z := lin_scale f hc ps fun q hq => hp q (List.mem_cons_of_mem _ hq)
    simp only [List.map_cons, lin, z, rv_mul (show c.2 ≠ 0 by omega) (show p.2.2 ≠ 0 by omega)]
    grind
end
def RwP (rows : List Rw) : Prop := ∀ i, (∀ p ∈ (rwAt rows i).1, 0 < p.2.2) ∧ 0 < (rwAt rows i).2.2.2
section
variable {rows : List Rw} (R : RwP rows)
include R
theorem accP_pos : ∀ {pa : List Pa}, (∀ p ∈ pa, 0 < p.2.2) → ∀ q ∈ accP rows pa, 0 < q.2.2
  | [], _, q, h => by simp [accP] at h
  | p :: pa, h, q, hq => by
    have f1 : accP rows (p :: pa) = (scaleM (rwAt rows p.1) p.2).1 ++ accP rows pa := by simp [accP]
    rw [f1] at hq
    rcases List.mem_append.mp hq with hq | hq
    · obtain ⟨r, hr, rfl⟩ := List.mem_map.mp hq
      exact qmul_pos ((R p.1).1 r hr) (h p List.mem_cons_self)
    · exact accP_pos (fun q hq => h q (List.mem_cons_of_mem _ hq)) q hq
theorem accT_low : ∀ {pa : List Pa} {t : Qn}, (∀ p ∈ pa, 0 < p.2.2) → Low t → Low (accT rows pa t)
  | [], t, _, h => h
  | p :: pa, t, hp, h => accT_low (pa := pa) (fun q hq => hp q (List.mem_cons_of_mem _ hq)) (low_nrm (Int.mul_ne_zero (by have := h.pos; omega) (by have := qmul_pos (R p.1).2 (hp p List.mem_cons_self); omega)))
theorem rv_accT : ∀ {pa : List Pa} {t : Qn}, (∀ p ∈ pa, 0 < p.2.2) → 0 < t.2 → rv (accT rows pa t) = rv t + lin (fun i => rv (rwAt rows i).2.2) pa
  | [], t, _, _ => by simp only [accT, List.foldl_nil, lin]; grind
  | p :: pa, t, h, ht => by
    have b := (R p.1).2
    have p0 := h p List.mem_cons_self
    have m := qmul_pos b p0
    have z := rv_accT (pa := pa) (t := qadd t (qmul (rwAt rows p.1).2.2 p.2)) (fun q hq => h q (List.mem_cons_of_mem _ hq)) (nrm_pos (Int.mul_ne_zero (by omega) (by omega)))
    show rv (accT rows pa (qadd t (qmul (rwAt rows p.1).2.2 p.2))) = _
    rw [z, rv_add (by omega) (by omega), rv_mul (by omega) (by omega)]
    simp only [lin]
    grind
end
end DL
namespace DL
open PySem PySem.Spec PyProof.Rows L2 RT
abbrev Dr := Rw × List Pa
abbrev drD (d : Dr) : PyData := .tuple [rD d.1, .tuple (d.2.map aD)]
structure Dv (rows : List Rw) (d : Dr) : Prop where
  can : Can (· ≤ · : Int → Int → Prop) d.2
  ix : ∀ p ∈ d.2, 0 ≤ p.1 ∧ p.1 < rows.length
  sg : ∀ p ∈ d.2, p.2.1 < 0 → (rwAt rows p.1).2.1 = "="
  tot : totM rows d.2 = d.1
  nrm : normM d.1 = d.1
theorem can_pos {κ : Type} {le : κ → κ → Prop} {ps : List (κ × Qn)} (h : Can le ps) : ∀ p ∈ ps, 0 < p.2.2 := fun p hp => (h.low p hp).1.pos
section
variable {κ : Type} [DecidableEq κ] {le : κ → κ → Prop} {ps : List (κ × Qn)}
end
section
variable {rows : List Rw} (R : RwP rows)
include R
theorem tot_can {pa : List Pa} (hp : ∀ p ∈ pa, 0 < p.2.2) : Can leS (totM rows pa).1 ∧ Low (totM rows pa).2.2 := ⟨gparts_can srtS (accP_pos R hp), accT_low R hp low01⟩
theorem tot_bd {pa : List Pa} (hp : ∀ p ∈ pa, 0 < p.2.2) : rv (totM rows pa).2.2 = lin (fun i => rv (rwAt rows i).2.2) pa := by
  show rv (accT rows pa (0, 1)) = _
  rw [rv_accT R hp (by decide), rv01]
  grind
theorem Dv.row {d : Dr} (h : Dv rows d) : Can leS d.1.1 ∧ Low d.1.2.2 := by
  have z := tot_can R (can_pos h.can)
  rw [h.tot] at z
  exact z
theorem Dv.pos {d : Dr} (h : Dv rows d) : PosR d.1 := by
  obtain ⟨z1, z2⟩ := h.row R
  exact ⟨fun p hp => ⟨(z1.low p hp).1.pos, (z1.low p hp).2⟩, z2.pos⟩
end
theorem Dv.sgn {rows : List Rw} {d : Dr} (h : Dv rows d) : d.1.2.1 = sgnOf (sigs rows d.2) := by
  have := h.tot
  rw [← this]
  rfl
def May (f : Qn) (d : Dr) : Prop := 0 < f.2 ∧ (0 < rv f ∨ d.1.2.1 = "=")
section
variable {rows : List Rw} {d1 d2 : Dr} {f1 f2 : Qn} (h1 : Dv rows d1) (h2 : Dv rows d2) (m1 : May f1 d1) (m2 : May f2 d2)
include h1 h2 m1 m2
end
end DL
namespace DL
open PySem PySem.Spec PyProof.Rows L2 RT
def mulP (ps : List Pa) (f : Qn) : List Pa := ps.map fun p => (p.1, qmul p.2 f)
def rawM (d1 : Dr) (f1 : Qn) (d2 : Dr) (f2 : Qn) : Rw := totM [d1.1, d2.1] [(0, f1), (1, f2)]
def cmbM (d1 : Dr) (f1 : Qn) (d2 : Dr) (f2 : Qn) : Dr := (normM (rawM d1 f1 d2 f2), papM (mulP d1.2 (qmul f1 (factorM (rawM d1 f1 d2 f2))) ++ mulP d2.2 (qmul f2 (factorM (rawM d1 f1 d2 f2)))))
section
variable {rows : List Rw} {d1 d2 : Dr} {f1 f2 : Qn} (R : RwP rows) (RS : ∀ i, Sgn (rwAt rows i).2.1) (h1 : Dv rows d1) (h2 : Dv rows d2) (m1 : May f1 d1) (m2 : May f2 d2)
include R h1 h2 m1 m2
include RS
end
end DL
namespace DL
open PySem PySem.Spec PyProof.Rows L2 RT
theorem pwd (a : Nat) : 2 ^ a + 2 ^ a = 2 ^ (a + 1) := by rw [Nat.pow_succ]; omega
theorem pwl {a b : Nat} (h : a ≤ b) : 2 ^ a ≤ 2 ^ b := Nat.pow_le_pow_right (by decide) h
theorem pw1 (a : Nat) : 2 ^ a < 2 ^ (a + 1) := by rw [← pwd]; have := Nat.two_pow_pos a; omega
theorem fac_none {r : Rw} (hP : PosR r) (hL : Low r.2.2) (hne : r.1 = []) {K : Int} (hK : 0 < K) {B : Nat} (hB : Fd K B (rv r.2.2)) :
    ∃ S : Int, 0 < S ∧ S.natAbs ≤ max B 1 ∧ Fd S (max K.natAbs 1) (rv (factorM r)) ∧ Fd 1 1 (rv r.2.2 * rv (factorM r)) := by
  obtain ⟨ps, sg, q⟩ := r
  simp only at hne hL hB
  subst hne
  by_cases h0 : q.1 = 0
  · have e : factorM ([], sg, q) = (1, 1) := by simp [factorM, h0]
    rw [e, rv11]
    have z : rv q = 0 := rv_zero.mpr (.inl h0)
    refine ⟨1, by decide, by show 1 ≤ _; omega, ⟨1, by show 1 ≤ _; omega, by push_cast; grind⟩, ?_⟩
    simp only [z]
    exact ⟨0, by decide, by push_cast; grind⟩
  · obtain ⟨f, P, Ef, Lf⟩ := fac_rv hP (q := q) (qs := []) rfl h0
    obtain ⟨ns, en, gn⟩ := P.who
    have one : f * rv q = 1 ∨ f * rv q = -1 := by
      cases ns with
      | nil => simp at en
      | cons n ns =>
        simp only [List.map_cons, List.map_nil, List.cons.injEq] at en
        have nn : ns = [] := by
          have := en.2
          cases ns with
          | nil => rfl
          | cons a b => simp at this
        rw [nn] at gn
        have : n.natAbs = 1 := by simpa [gcdL] using gn
        rw [en.1]
        have : n = 1 ∨ n = -1 := by omega
        rcases this with rfl | rfl
        · left; push_cast; rfl
        · right; push_cast; rfl
    obtain ⟨b1, b2⟩ := hL.fd hK hB
    have p := hL.pos
    have c1 := rc (show q.2 ≠ 0 by omega)
    have c2 := rc h0
    have fpos := P.pos
    have fv : ∃ n : Int, n.natAbs ≤ q.2.natAbs ∧ f = (n : Rat) / ((q.1.natAbs : Int) : Rat) := by
      have hq : q.1 = (q.1.natAbs : Int) ∨ q.1 = -(q.1.natAbs : Int) := by omega
      have c3 := rc (show (q.1.natAbs : Int) ≠ 0 by omega)
      have key : f = ((q.2 : Int) : Rat) / ((q.1.natAbs : Int) : Rat) ∨ f = ((-q.2 : Int) : Rat) / ((q.1.natAbs : Int) : Rat) := by
        unfold rv at one
        rcases hq with hq | hq
        · have hh : (q.1 : Rat) = ((q.1.natAbs : Int) : Rat) := by exact_mod_cast hq
          rw [hh] at one
          rcases one with one | one
          · left; push_cast at one ⊢; grind
          · right; push_cast at one ⊢; grind
        · have hh : (q.1 : Rat) = -((q.1.natAbs : Int) : Rat) := by exact_mod_cast hq
          rw [hh] at one
          rcases one with one | one
          · right; push_cast at one ⊢; grind
          · left; push_cast at one ⊢; grind
      rcases key with key | key
      · exact ⟨q.2, Nat.le_refl _, key⟩
      · exact ⟨-q.2, by omega, key⟩
    have fF : Fd (q.1.natAbs : Int) (max K.natAbs 1) f := by
      obtain ⟨n, hn, en⟩ := fv
      exact ⟨n, by omega, en⟩
    have fO : Fd 1 1 (rv q * f) := by
      rcases one with one | one
      · exact ⟨1, by decide, by push_cast; grind⟩
      · exact ⟨-1, by decide, by push_cast; grind⟩
    refine ⟨(q.1.natAbs : Int), by omega, by rw [Int.natAbs_natCast]; omega, ?_, ?_⟩
    · rw [Ef]
      split
      · exact fF.neg
      · exact fF
    · rw [Ef]
      split
      · have := fO.neg
        rwa [show -(rv q * f) = rv q * -f by grind] at this
      · exact fO
end DL
namespace DL
open PySem PySem.Spec PyProof.Rows L2 RT
def Pap (δ : Nat) (pa : List Pa) : Prop := ∃ D : Int, 0 < D ∧ D.natAbs ≤ 2 ^ δ ∧ ∀ p ∈ pa, Fd D (2 ^ δ) (rv p.2)
structure SzD (c b δ : Nat) (d : Dr) : Prop where
  int : ∀ p ∈ d.1.1, p.2.2 = 1 ∧ p.2.1.natAbs ≤ 2 ^ c
  bd : d.1.2.2.1.natAbs ≤ 2 ^ b ∧ d.1.2.2.2.natAbs ≤ 2 ^ b
  pap : d.1.1 ≠ [] → Pap δ d.2
  big : Pap 1900 d.2
structure Fac (c : Nat) (K : Int) (f1 f2 : Qn) : Prop where
  pos : 0 < K
  le : K.natAbs ≤ 2 ^ (2 * c)
  f1 : Fd K (2 ^ c) (rv f1)
  f2 : Fd K (2 ^ c) (rv f2)
section
variable {rows : List Rw} {d1 d2 : Dr} {f1 f2 : Qn} (R : RwP rows) (h1 : Dv rows d1) (h2 : Dv rows d2) (m1 : May f1 d1) (m2 : May f2 d2)
  {c b δ : Nat} (z1 : SzD c b δ d1) (z2 : SzD c b δ d2) {K : Int} (F : Fac c K f1 f2)
include R h1 h2 m1 m2 z1 z2 F
end
end DL
namespace DL
open PySem PySem.Spec PyProof.Rows L2 RT
theorem len_of_nd2 {α : Type} [BEq α] [LawfulBEq α] : ∀ (L xs : List α), xs.Nodup → (∀ x ∈ xs, x ∈ L) → xs.length ≤ L.length
  | [], xs, _, h => by
    cases xs with
    | nil => simp
    | cons x xs => exact absurd (h x List.mem_cons_self) (by simp)
  | a :: L, xs, hn, h => by
    by_cases ha : a ∈ xs
    · have z := len_of_nd2 L (xs.erase a) (hn.erase a) (fun x hx => by
        have h1 := (hn.mem_erase_iff).mp hx
        rcases List.mem_cons.mp (h x h1.2) with e | e
        · exact absurd e h1.1
        · exact e)
      rw [List.length_erase_of_mem ha] at z
      simp only [List.length_cons]
      omega
    · have z := len_of_nd2 L xs hn (fun x hx => by
        rcases List.mem_cons.mp (h x hx) with e | e
        · exact absurd (e ▸ hx) ha
        · exact e)
      simp only [List.length_cons]
      omega
structure Rz (rows : List Rw) : Prop where
  rwp : RwP rows
  sgn : ∀ i, Sgn (rwAt rows i).2.1
  sz : ∀ r ∈ rows, SzR 150 r ∧ Sgn r.2.1 ∧ r.1.length ≤ 4
  int : ∀ i, ∀ p ∈ (rwAt rows i).1, p.2.2 = 1 ∧ p.2.1.natAbs ≤ 2 ^ 20
  bds : ∃ E : Int, 0 < E ∧ E.natAbs ≤ 2 ^ 210 ∧ ∀ i, Fd E (2 ^ 250) (rv (rwAt rows i).2.2)
  len : rows.length ≤ 8
theorem Pap.sz {δ : Nat} {pa : List Pa} (h : Pap δ pa) (hl : ∀ p ∈ pa, Low p.2) : ∀ p ∈ pa, Sz (δ + 1) p.2 := fun p hp => by
  obtain ⟨D, a, b, c⟩ := h
  exact (hl p hp).sz a (c p hp) (pw1 _) (Nat.lt_of_le_of_lt b (pw1 _))
theorem Rz.big {rows : List Rw} (Z : Rz rows) : ∀ r ∈ rows, SzR 1900 r ∧ Sgn r.2.1 ∧ r.1.length ≤ 4 := fun r hr => ⟨(Z.sz r hr).1.mono (by decide), (Z.sz r hr).2⟩
end DL
set_option exponentiation.threshold 5000
namespace DL
open PySem PySem.Spec PyProof.Rows L2 RT
theorem merge_nd : ∀ (ps kvs : List Pt), gND (kvs ++ ps) → ps.foldl (fun k p => putQ k p.1 p.2) kvs = kvs ++ ps
  | [], kvs, _ => by simp
  | p :: ps, kvs, h => by
    have hn : ∀ q ∈ kvs, q.1 ≠ p.1 := by
      unfold gND at h
      rw [List.map_append, List.nodup_append] at h
      exact fun q hq e => h.2.2 q.1 (List.mem_map.mpr ⟨q, hq, rfl⟩) p.1 (by simp) e
    have e : putQ kvs p.1 p.2 = kvs ++ [p] := by
      unfold putQ
      rw [if_neg]
      intro z
      obtain ⟨q, hq, e⟩ := List.any_eq_true.mp z
      exact hn q hq (by simpa using e)
    rw [List.foldl_cons, e, merge_nd ps (kvs ++ [p]) (by simpa using h)]
    simp
def amt (d : Dr) (x : Str) : Qn := gget d.1.1 x
theorem look_nd {ps : List Pt} (h : gND ps) (x : Str) : look ps x = gget ps x := by
  unfold look mergeQ
  rw [merge_nd ps [] (by simpa using h)]
  rfl
section
variable {rows : List Rw} {d1 d2 : Dr} {f1 f2 : Qn} (Z : Rz rows) (h1 : Dv rows d1) (h2 : Dv rows d2) (m1 : May f1 d1) (m2 : May f2 d2) (l1 : Low f1) (l2 : Low f2)
  {c b δ : Nat} (z1 : SzD c b δ d1) (z2 : SzD c b δ d2) {K : Int} (F : Fac c K f1 f2) (n1 : d1.1.1 ≠ []) (n2 : d2.1.1 ≠ [])
include Z h1 h2 m1 m2 l1 l2 z1 z2 F n1 n2
end
end DL
set_option exponentiation.threshold 5000
namespace DL
open PySem PySem.Spec PyProof.Rows L2 RT
end DL
set_option exponentiation.threshold 5000
namespace DL
open PySem PySem.Spec PyProof.Rows L2 RT
structure Bnd (L : List Str) (c b δ : Nat) : Prop where
  l3 : L.length ≤ 4
  nd : L.Nodup
  ok : ∀ x ∈ L, PySem.PyData.strOk x = true
  hc : 2 * c + 2 * b ≤ 1100
  hδ : δ ≤ 400
  hn : (2 * c + 2 * b + 2) * (L.length + 1) + 4 ≤ 3900
  h1 : 2 * δ + 4 * c + 1 ≤ 1900
  h2 : 2 * δ + 3 * c + 2 * b + 1 ≤ 1900
structure Ctx (rows : List Rw) (L : List Str) (c b δ : Nat) (d : Dr) : Prop where
  dv : Dv rows d
  sz : SzD c b δ d
  nm : ∀ p ∈ d.1.1, p.1 ∈ L
structure CmbOk (x : Str) (c : Nat) (d1 : Dr) (f1 : Qn) (d2 : Dr) (f2 : Qn) : Prop where
  m1 : May f1 d1
  m2 : May f2 d2
  l1 : Low f1
  l2 : Low f2
  fac : ∃ K : Int, Fac c K f1 f2
  n1 : d1.1.1 ≠ []
  n2 : d2.1.1 ≠ []
  v0 : vs x d1.1.1 * rv f1 + vs x d2.1.1 * rv f2 = 0
section
variable {rows : List Rw} (Z : Rz rows) {L : List Str} {c b δ : Nat} (B : Bnd L c b δ)
include Z B
theorem Ctx.len {d : Dr} (C : Ctx rows L c b δ d) : d.1.1.length ≤ L.length := by
  have z := len_of_nd2 L (d.1.1.map fun p : Pt => p.1) (C.dv.row Z.rwp).1.nd (fun x hx => by
    obtain ⟨p, hp, rfl⟩ := List.mem_map.mp hx
    exact C.nm p hp)
  simpa using z
variable {x : Str} (hx : x ∈ L) {d1 d2 : Dr} {f1 f2 : Qn} (C1 : Ctx rows L c b δ d1) (C2 : Ctx rows L c b δ d2) (k : CmbOk x c d1 f1 d2 f2)
include hx C1 C2 k
end
end DL
set_option exponentiation.threshold 5000
namespace DL
open PySem PySem.Spec PyProof.Rows L2 RT
def fU (d : Dr) (x : Str) : Qn := qdiv (1, 1) (amt d x)
def fD (d : Dr) (x : Str) : Qn := qdiv (-1, 1) (amt d x)
def fS (o e : Dr) (x : Str) : Qn := qdiv (qmul (amt o x) (-1, 1)) (amt e x)
def subM (x : Str) (e o : Dr) : Dr := if (amt o x).1 = 0 then o else cmbM o (1, 1) e (fS o e x)
def pairM (x : Str) (u l : Dr) : Dr := cmbM u (fU u x) l (fD l x)
def upB (x : Str) (d : Dr) : Bool := decide (0 < (amt d x).1)
def dnB (x : Str) (d : Dr) : Bool := decide ((amt d x).1 < 0)
def zrB (x : Str) (d : Dr) : Bool := decide ((amt d x).1 = 0)
def pairsM (ds : List Dr) (x : Str) : List Dr := ds.filter (zrB x) ++ (ds.filter (upB x)).flatMap fun u => (ds.filter (dnB x)).map (pairM x u)
def isE (x : Str) (d : Dr) : Bool := d.1.2.1 == "=" && decide ((amt d x).1 ≠ 0)
def splE (x : Str) : List Dr → Option (List Dr × Dr × List Dr)
  | [] => none
  | d :: ds => if isE x d = true then some ([], d, ds) else (splE x ds).map fun t => (d :: t.1, t.2.1, t.2.2)
def elimM (ds : List Dr) (x : Str) : List Dr := match splE x ds with
  | some t => (t.1 ++ t.2.2).map (subM x t.2.1)
  | none => pairsM ds x
section
variable {rows : List Rw} (Z : Rz rows) {L : List Str} {c b δ : Nat} (B : Bnd L c b δ) {x : Str}
include Z B
end
end DL
set_option exponentiation.threshold 5000
namespace DL
open PySem PySem.Spec PyProof.Rows L2 RT
section
variable {rows : List Rw} (Z : Rz rows) {L : List Str} {c b δ : Nat} (B : Bnd L c b δ) {x : Str} (hx : x ∈ L)
include Z B
include hx
end
end DL
set_option exponentiation.threshold 5000
namespace DL
open PySem PySem.Spec PyProof.Rows L2 RT
section
variable {rows : List Rw} (Z : Rz rows) {L : List Str} {c b δ : Nat} (B : Bnd L c b δ) {x : Str} (hx : x ∈ L)
include Z B hx
end
end DL
set_option exponentiation.threshold 5000
namespace DL
open PySem PySem.Spec PyProof.Rows L2 RT
section
variable {rows : List Rw} (Z : Rz rows) {L : List Str} {c b δ : Nat} (B : Bnd L c b δ) {x : Str} (hx : x ∈ L)
include Z B hx
end
end DL
set_option exponentiation.threshold 5000
namespace DL
open PySem PySem.Spec PyProof.Rows L2 RT
theorem fac_lowq {r : Rw} (h : PosR r) (hb : Low r.2.2) : Low (factorM r) := by
  obtain ⟨q, qs, e⟩ := facQ_cons r
  by_cases h0 : q.1 = 0
  · obtain ⟨ps, sg, bd⟩ := r
    cases ps with
    | cons p ps =>
      simp only [facQ, List.map_cons, List.cons.injEq] at e
      exact absurd (by rw [e.1]; exact h0) (h.ps p List.mem_cons_self).2
    | nil =>
      simp only [facQ, List.cons.injEq] at e
      obtain ⟨rfl, rfl⟩ := e
      simp only [factorM, if_pos h0]
      exact ⟨by decide, by decide⟩
  · exact (fac_rv h e h0).choose_spec.2.2
theorem low11 : Low ((1, 1) : Qn) := ⟨by decide, by decide⟩
theorem mul_one_of {q f : Qn} (hq : Low q) (h0 : q.1 ≠ 0) (hf : Low f) (e : qmul q f = q) : f = (1, 1) := by
  have p := hq.pos
  have p2 := hf.pos
  have e2 := congrArg rv e
  rw [rv_mul (by omega) (by omega)] at e2
  have n : rv q ≠ 0 := fun z => h0 ((rv_nz p).mpr z)
  refine rv_ext hf low11 ?_
  rw [rv11]
  grind
theorem fac_one {r : Rw} (h : PosR r) (hl : LowR r) (e : normM r = r) : factorM r = (1, 1) := by
  have lf := fac_lowq h hl.bd
  obtain ⟨ps, sg, bd⟩ := r
  cases ps with
  | cons p ps =>
    have e1 : (normM (p :: ps, sg, bd)).1 = p :: ps := congrArg (·.1) e
    have e2 : (p.1, qmul p.2 (factorM (p :: ps, sg, bd))) = p := by
      have : (normM (p :: ps, sg, bd)).1 = (p.1, qmul p.2 (factorM (p :: ps, sg, bd))) :: ps.map fun q => (q.1, qmul q.2 (factorM (p :: ps, sg, bd))) := rfl
      rw [this] at e1
      exact (List.cons.inj e1).1
    exact mul_one_of (hl.ps p List.mem_cons_self).1 (hl.ps p List.mem_cons_self).2 lf (congrArg (·.2) e2)
  | nil =>
    by_cases h0 : bd.1 = 0
    · simp only [factorM, if_pos h0]
    · have e2 : qmul bd (factorM ([], sg, bd)) = bd := congrArg (·.2.2) e
      exact mul_one_of hl.bd h0 lf e2
section
variable {rows : List Rw} (Z : Rz rows) {L : List Str} {c b δ : Nat} (B : Bnd L c b δ) {x : Str} (hx : x ∈ L)
include Z B
include hx
end
end DL
set_option exponentiation.threshold 5000
namespace DL
open PySem PySem.Spec PyProof.Rows L2 RT
section
variable {rows : List Rw} (Z : Rz rows) {L : List Str} {c b δ : Nat} (B : Bnd L c b δ) {x : Str} (hx : x ∈ L)
include Z B hx
end
end DL
set_option exponentiation.threshold 5000
namespace DL
open PySem PySem.Spec PyProof.Rows L2 RT
section
variable {rows : List Rw} (Z : Rz rows) {L : List Str} {c b δ : Nat} (B : Bnd L c b δ) {x : Str} (hx : x ∈ L)
include Z B hx
end
end DL
set_option exponentiation.threshold 5000
namespace DL
open PySem PySem.Spec PyProof.Rows L2 RT
section
variable {r r' : Rw} (h : ∀ p ∈ r.1, PySem.PyData.strOk p.1 = true) (h' : ∀ p ∈ r'.1, PySem.PyData.strOk p.1 = true) (s : PySem.PyData.strOk r.2.1 = true) (s' : PySem.PyData.strOk r'.2.1 = true)
include h h'
include s s'
end
def trivB (d : Dr) : Bool := d.1.1.isEmpty && holdsR d.1.2.1 0 (rv d.1.2.2)
def lessB (p q : Qn) : Bool := decide (p.1 * q.2 < q.1 * p.2)
def killB (j : Nat) (o : Dr) (k : Nat) (d : Dr) : Bool :=
  (decide (d.1.2.1 = "=") && decide (o.1 = d.1) && decide (j < k)) ||
  (!decide (d.1.2.1 = "=") && !decide (o.1.2.1 = "=") && decide (o.1.1 = d.1.1) && !decide (j = k) &&
    (lessB o.1.2.2 d.1.2.2 || (decide (o.1.2.2 = d.1.2.2) && decide (o.1.2.1 = "<") && decide (d.1.2.1 = "<=")) || (decide (o.1.2.2 = d.1.2.2) && decide (o.1.2.1 = d.1.2.1) && decide (j < k))))
def goodB (ds : List Dr) (k : Nat) (d : Dr) : Bool := !trivB d && !(ds.zipIdx.any fun p => killB p.2 p.1 k d)
def cleanM (ds : List Dr) : List Dr := (ds.zipIdx.filter fun p => goodB ds p.2 p.1).map (·.1)
structure Cl (d : Dr) : Prop where
  nm : ∀ p ∈ d.1.1, PySem.PyData.strOk p.1 = true
  sg : Sgn d.1.2.1
  bd : Sz 2000 d.1.2.2
  low : Low d.1.2.2
end DL
set_option exponentiation.threshold 5000
namespace DL
open PySem PySem.Spec PyProof.Rows L2 RT
end DL
namespace DL
open PySem PySem.Spec PyProof.Rows L2 RT
def kP (ps : List Pt) : NestedKey := .tup (ps.map fun p => .tup [.text p.1, .tup [.num p.2.1, .num p.2.2]])
def kE (d : Dr) : NestedKey := if d.1.2.1 = "=" then .tup [kP d.1.1, .tup [.num d.1.2.2.1, .num d.1.2.2.2]] else .tup [kP d.1.1, .none]
theorem kP_inj : ∀ {ps qs : List Pt}, kP ps = kP qs → ps = qs := by
  intro ps qs h
  unfold kP at h
  have h2 := NestedKey.tup.inj h
  clear h
  induction ps generalizing qs with
  | nil => cases qs with
    | nil => rfl
    | cons q qs => cases h2
  | cons p ps ih => cases qs with
    | nil => cases h2
    | cons q qs =>
      simp only [List.map_cons, List.cons.injEq, NestedKey.tup.injEq, NestedKey.text.injEq, NestedKey.num.injEq, and_true] at h2
      obtain ⟨⟨a, b, c⟩, e⟩ := h2
      rw [ih e]
      congr 1
      exact Prod.ext a (Prod.ext b c)
theorem kE_eq {d o : Dr} (h : kE d = kE o) : d.1.1 = o.1.1 ∧ (d.1.2.1 = "=" ↔ o.1.2.1 = "=") ∧ (d.1.2.1 = "=" → d.1.2.2 = o.1.2.2) := by
  unfold kE at h
  by_cases h1 : d.1.2.1 = "="
  · by_cases h2 : o.1.2.1 = "="
    · rw [if_pos h1, if_pos h2] at h
      simp only [NestedKey.tup.injEq, List.cons.injEq, NestedKey.num.injEq, and_true] at h
      exact ⟨kP_inj h.1, ⟨fun _ => h2, fun _ => h1⟩, fun _ => Prod.ext h.2.1 h.2.2⟩
    · rw [if_pos h1, if_neg h2] at h
      simp only [NestedKey.tup.injEq, List.cons.injEq, reduceCtorEq, and_true, false_and, and_false] at h
  · by_cases h2 : o.1.2.1 = "="
    · rw [if_neg h1, if_pos h2] at h
      simp only [NestedKey.tup.injEq, List.cons.injEq, reduceCtorEq, and_true, false_and, and_false] at h
    · rw [if_neg h1, if_neg h2] at h
      simp only [NestedKey.tup.injEq, List.cons.injEq, and_true] at h
      exact ⟨kP_inj h, ⟨fun z => absurd z h1, fun z => absurd z h2⟩, fun z => absurd z h1⟩
def strB (d e : Dr) : Bool := lessB d.1.2.2 e.1.2.2 || (decide (d.1.2.2 = e.1.2.2) && decide (d.1.2.1 = "<") && decide (e.1.2.1 = "<="))
def rk (d : Dr) : Nat := if d.1.2.1 = "<" then 0 else 1
def Bts (v : Nat) (d : Dr) (i : Nat) (o : Dr) : Prop := rv d.1.2.2 < rv o.1.2.2 ∨ (rv d.1.2.2 = rv o.1.2.2 ∧ (rk d < rk o ∨ (rk d = rk o ∧ v < i)))
theorem Bts.trans {a b c : Nat} {x y z : Dr} (h : Bts a x b y) (k : Bts b y c z) : Bts a x c z := by
  unfold Bts at *
  rcases h with h | ⟨h1, h2⟩
  · rcases k with k | ⟨k1, k2⟩
    · exact .inl (by grind)
    · exact .inl (by grind)
  · rcases k with k | ⟨k1, k2⟩
    · exact .inl (by grind)
    · exact .inr ⟨by grind, by omega⟩
theorem lessB_rv {p q : Qn} (hp : 0 < p.2) (hq : 0 < q.2) : lessB p q = true ↔ rv p < rv q := by
  unfold lessB
  rw [rv_lt hp hq]
  simp
section
variable {d e : Dr} (Cd : Cl d) (Ce : Cl e) (hk : kE d = kE e)
include Cd Ce hk
theorem str_iff : strB d e = true ↔ (rv d.1.2.2 < rv e.1.2.2 ∨ (rv d.1.2.2 = rv e.1.2.2 ∧ rk d < rk e)) := by
  obtain ⟨k1, k2, k3⟩ := kE_eq hk
  have l := lessB_rv Cd.bd.pos Ce.bd.pos
  unfold strB rk
  rw [Bool.or_eq_true, l, Bool.and_eq_true, Bool.and_eq_true, decide_eq_true_eq, decide_eq_true_eq, decide_eq_true_eq]
  constructor
  · rintro (h | ⟨⟨h1, h2⟩, h3⟩)
    · exact .inl h
    · refine .inr ⟨by rw [h1], ?_⟩
      rw [if_pos h2, if_neg (by rw [h3]; decide)]
      decide
  · rintro (h | ⟨h1, h2⟩)
    · exact .inl h
    · refine .inr ⟨⟨rv_ext Cd.low Ce.low h1, ?_⟩, ?_⟩
      · by_cases z : d.1.2.1 = "<"
        · exact z
        · rw [if_neg z] at h2
          split at h2 <;> omega
      · by_cases z : d.1.2.1 = "<"
        · rw [if_pos z] at h2
          by_cases z2 : e.1.2.1 = "<"
          · rw [if_pos z2] at h2; omega
          · rcases Ce.sg with s | s | s
            · exact s
            · exact absurd s z2
            · have := k2.mpr s
              rw [z] at this
              exact absurd this (by decide)
        · rw [if_neg z] at h2
          split at h2 <;> omega
end
end DL
namespace DL
open PySem PySem.Spec PyProof.Rows L2 RT
def stepN (ds : List Dr) (pl : List (NestedKey × Int)) (place : Nat) (d : Dr) : List (NestedKey × Int) :=
  if trivB d = true then pl else match valN pl (kE d) with
    | none => putN pl (kE d) place
    | some v => match ds[v.toNat]? with
      | some e => if strB d e = true then putN pl (kE d) place else pl
      | none => pl
theorem valN_some {pl : List (NestedKey × Int)} {k : NestedKey} {v : Int} (h : valN pl k = some v) : (k, v) ∈ pl := by
  unfold valN at h
  cases e : pl.find? fun p => decide (p.1 = k) with
  | none => rw [e] at h; cases h
  | some p =>
    rw [e] at h
    have a := List.mem_of_find?_eq_some e
    have b : p.1 = k := by simpa using List.find?_some e
    have c : p.2 = v := Option.some.inj h
    rw [← b, ← c]
    exact a
theorem valN_none {pl : List (NestedKey × Int)} {k : NestedKey} (h : valN pl k = none) : k ∉ pl.map (·.1) := valN_mem (by rw [h]; rfl)
theorem valN_of {pl : List (NestedKey × Int)} (hn : (pl.map (·.1)).Nodup) {k : NestedKey} {v : Int} (h : (k, v) ∈ pl) : valN pl k = some v := by
  cases e : valN pl k with
  | none => exact absurd (List.mem_map.mpr ⟨_, h, rfl⟩) (valN_none e)
  | some w =>
    have m := valN_some e
    have : w = v := by
      clear e
      induction pl with
      | nil => cases h
      | cons p pl ih =>
        rw [List.map_cons, List.nodup_cons] at hn
        rcases List.mem_cons.mp h with h1 | h1
        · rcases List.mem_cons.mp m with m1 | m1
          · rw [← h1] at m1; exact (Prod.mk.inj m1).2
          · exact absurd (List.mem_map.mpr ⟨_, m1, by rw [← h1]⟩) hn.1
        · rcases List.mem_cons.mp m with m1 | m1
          · exact absurd (List.mem_map.mpr ⟨_, h1, by rw [← m1]⟩) hn.1
          · exact ih hn.2 h1 m1
    rw [this]
theorem putN_keys (pl : List (NestedKey × Int)) (k : NestedKey) (n : Int) : (putN pl k n).map (·.1) = if k ∈ pl.map (·.1) then pl.map (·.1) else pl.map (·.1) ++ [k] := by
  unfold putN
  by_cases h : (valN pl k).isSome = true
  · obtain ⟨v, e⟩ := Option.isSome_iff_exists.mp h
    rw [if_pos h, if_pos (List.mem_map.mpr ⟨_, valN_some e, rfl⟩), List.map_map]
    apply List.map_congr_left
    intro p _
    simp only [Function.comp_apply]
    split <;> rfl
  · have e : valN pl k = none := by simpa using h
    rw [if_neg h, if_neg (valN_none e)]
    simp
theorem putN_mem {pl : List (NestedKey × Int)} {k : NestedKey} {n : Int} {e : NestedKey × Int} (h : e ∈ putN pl k n) : e = (k, n) ∨ (e ∈ pl ∧ e.1 ≠ k) := by
  unfold putN at h
  by_cases c : (valN pl k).isSome = true
  · rw [if_pos c] at h
    obtain ⟨q, hq, rfl⟩ := List.mem_map.mp h
    by_cases z : q.1 = k
    · left; rw [if_pos z, z]
    · right; rw [if_neg z]; exact ⟨hq, z⟩
  · have e2 : valN pl k = none := by simpa using c
    rw [if_neg c] at h
    rcases List.mem_append.mp h with h | h
    · exact .inr ⟨h, fun z => valN_none e2 (by rw [← z]; exact List.mem_map.mpr ⟨e, h, rfl⟩)⟩
    · left; simpa using h
structure PIv (ds : List Dr) (m : Nat) (pl : List (NestedKey × Int)) : Prop where
  nd : (pl.map (·.1)).Nodup
  val : ∀ e ∈ pl, ∃ v : Nat, e.2 = (v : Int) ∧ v < m ∧ ∃ d, ds[v]? = some d ∧ kE d = e.1 ∧ trivB d = false ∧ ∀ i, i < m → ∀ o, ds[i]? = some o → trivB o = false → kE o = e.1 → i = v ∨ Bts v d i o
  all : ∀ i, i < m → ∀ o, ds[i]? = some o → trivB o = false → ∃ e ∈ pl, e.1 = kE o
theorem PIv.triv {ds : List Dr} {m : Nat} {pl : List (NestedKey × Int)} (P : PIv ds m pl) {d : Dr} (hd : ds[m]? = some d) (ht : trivB d = true) : PIv ds (m + 1) pl := by
  refine ⟨P.nd, fun e he => ?_, fun i hi o ho to => ?_⟩
  · obtain ⟨v, a, b, d', c1, c2, c3, c4⟩ := P.val e he
    refine ⟨v, a, by omega, d', c1, c2, c3, fun i hi o ho to ko => ?_⟩
    by_cases z : i = m
    · subst z
      rw [hd] at ho
      cases ho
      rw [ht] at to
      cases to
    · exact c4 i (by omega) o ho to ko
  · by_cases z : i = m
    · subst z
      rw [hd] at ho
      cases ho
      rw [ht] at to
      cases to
    · exact P.all i (by omega) o ho to
section
variable {ds : List Dr} (hC : ∀ d ∈ ds, Cl d)
include hC
theorem PIv.step {m : Nat} {pl : List (NestedKey × Int)} (P : PIv ds m pl) {d : Dr} (hd : ds[m]? = some d) : PIv ds (m + 1) (stepN ds pl m d) := by
  have Cd := hC d (List.mem_of_getElem? hd)
  unfold stepN
  by_cases ht : trivB d = true
  · rw [if_pos ht]; exact P.triv hd ht
  · rw [if_neg ht]
    have tf : trivB d = false := by simpa using ht
    -- putting the new one, where it beats all of its key
    have put : (∀ i, i < m → ∀ o, ds[i]? = some o → trivB o = false → kE o = kE d → Bts m d i o) → PIv ds (m + 1) (putN pl (kE d) m) := by
      intro hb
      refine ⟨?_, fun e he => ?_, fun i hi o ho to => ?_⟩
      · rw [putN_keys]
        split
        · exact P.nd
        · rename_i hn
          rw [List.nodup_append]
          refine ⟨P.nd, by simp, fun a ha b hb' e => ?_⟩
          simp at hb'
          exact hn (by rw [← hb', ← e]; exact ha)
      · rcases putN_mem he with rfl | ⟨he, hne⟩
        · refine ⟨m, rfl, by omega, d, hd, rfl, tf, fun i hi o ho to ko => ?_⟩
          by_cases z : i = m
          · exact .inl z
          · exact .inr (hb i (by omega) o ho to ko)
        · obtain ⟨v, a, b, d', c1, c2, c3, c4⟩ := P.val e he
          refine ⟨v, a, by omega, d', c1, c2, c3, fun i hi o ho to ko => ?_⟩
          by_cases z : i = m
          · subst z
            rw [hd] at ho
            cases ho
            exact absurd ko.symm hne
          · exact c4 i (by omega) o ho to ko
      · have keys := putN_keys pl (kE d) (m : Int)
        have inK : kE o ∈ (putN pl (kE d) (m : Int)).map (·.1) := by
          rw [keys]
          by_cases z : i = m
          · subst z
            rw [hd] at ho
            cases ho
            split
            · rename_i h; exact h
            · simp
          · obtain ⟨e, he, ek⟩ := P.all i (by omega) o ho to
            have : kE o ∈ pl.map (·.1) := List.mem_map.mpr ⟨e, he, ek⟩
            split
            · exact this
            · exact List.mem_append_left _ this
        obtain ⟨e, he, ek⟩ := List.mem_map.mp inK
        exact ⟨e, he, ek⟩
    cases hv : valN pl (kE d) with
    | none =>
      refine put fun i hi o ho to ko => ?_
      obtain ⟨e, he, ek⟩ := P.all i hi o ho to
      exact absurd (by rw [← ko, ← ek]; exact List.mem_map.mpr ⟨e, he, rfl⟩) (valN_none hv)
    | some w =>
      obtain ⟨v, a, b, d', c1, c2, c3, c4⟩ := P.val _ (valN_some hv)
      simp only at a c2 c4
      subst a
      have Cd' := hC d' (List.mem_of_getElem? c1)
      simp only [Int.toNat_natCast, c1]
      have si := str_iff Cd Cd' c2.symm
      by_cases hs : strB d d' = true
      · rw [if_pos hs]
        have bs : Bts m d v d' := by
          rcases si.mp hs with h | ⟨h1, h2⟩
          · exact .inl h
          · exact .inr ⟨h1, .inl h2⟩
        refine put fun i hi o ho to ko => ?_
        rcases c4 i hi o ho to ko with rfl | h
        · rw [c1] at ho; cases ho; exact bs
        · exact bs.trans h
      · rw [if_neg hs]
        have bs : Bts v d' m d := by
          have n1 : ¬ (rv d.1.2.2 < rv d'.1.2.2 ∨ (rv d.1.2.2 = rv d'.1.2.2 ∧ rk d < rk d')) := fun z => hs (si.mpr z)
          unfold Bts
          by_cases h1 : rv d'.1.2.2 < rv d.1.2.2
          · exact .inl h1
          · have h2 : rv d'.1.2.2 = rv d.1.2.2 := by
              have : ¬ rv d.1.2.2 < rv d'.1.2.2 := fun z => n1 (.inl z)
              grind
            have h3 : ¬ rk d < rk d' := fun z => n1 (.inr ⟨h2.symm, z⟩)
            refine .inr ⟨h2, ?_⟩
            omega
        refine ⟨P.nd, fun e he => ?_, fun i hi o ho to => ?_⟩
        · obtain ⟨v2, a2, b2, d2, f1, f2, f3, f4⟩ := P.val e he
          refine ⟨v2, a2, by omega, d2, f1, f2, f3, fun i hi o ho to ko => ?_⟩
          by_cases z : i = m
          · subst z
            rw [hd] at ho
            cases ho
            have ek : valN pl (kE d) = some e.2 := valN_of P.nd (by rw [ko]; exact he)
            rw [hv] at ek
            have e3 : v = v2 := by have := Option.some.inj ek; omega
            subst e3
            rw [c1] at f1
            cases f1
            exact .inr bs
          · exact f4 i (by omega) o ho to ko
        · by_cases z : i = m
          · subst z
            rw [hd] at ho
            cases ho
            exact ⟨_, valN_some hv, rfl⟩
          · exact P.all i (by omega) o ho to
end
end DL
namespace DL
open PySem PySem.Spec PyProof.Rows L2 RT
end DL
namespace DL
open PySem PySem.Spec PyProof.Rows L2 RT
end DL
set_option exponentiation.threshold 5000
namespace DL
open PySem PySem.Spec PyProof.Rows L2 RT
section
variable {rows : List Rw} (hs : ∀ r ∈ rows, PySem.PyData.strOk r.2.1 = true)
include hs
end
theorem prim_one1 {f x : Rat} (P : Prim f [x]) : f * x = 1 ∨ f * x = -1 := by
  obtain ⟨ns, en, gn⟩ := P.who
  cases ns with
  | nil => simp at en
  | cons n ns =>
    simp only [List.map_cons, List.map_nil, List.cons.injEq] at en
    have nn : ns = [] := by
      have := en.2
      cases ns with
      | nil => rfl
      | cons a b => simp at this
    rw [nn] at gn
    have : n.natAbs = 1 := by simpa [gcdL] using gn
    rw [en.1]
    have : n = 1 ∨ n = -1 := by omega
    rcases this with rfl | rfl
    · left; push_cast; rfl
    · right; push_cast; rfl
end DL
set_option exponentiation.threshold 5000
namespace DL
open PySem PySem.Spec PyProof.Rows L2 RT
theorem rwAt_cases (rows : List Rw) (i : Int) : rwAt rows i ∈ rows ∨ rwAt rows i = (([], "=", (0, 1)) : Rw) := by
  unfold rwAt
  cases e : rows[i.toNat]? with
  | none => right; rfl
  | some r => left; exact List.mem_of_getElem? e
def begM (rows : List Rw) : List Dr := rows.zipIdx.map fun p => (p.1, [((p.2 : Int), ((1, 1) : Qn))])
abbrev L3 : List Str := ["x", "y", "z2"]
section
variable {rows : List Rw} (Z : Rz rows) {L : List Str} {c b δ : Nat} (B : Bnd L c b δ) {x : Str} (hx : x ∈ L)
include Z B hx
end
end DL
set_option exponentiation.threshold 5000
namespace DL
open PySem PySem.Spec PyProof.Rows L2 RT
theorem bndA : Bnd L3 20 26 0 := ⟨by decide, by decide, fun x hx => (show Nam x by simpa [Nam] using hx).ok, by decide, by decide, by decide, by decide, by decide⟩
end DL
namespace DL
open PySem PySem.Spec PyProof.Rows L2 RT
noncomputable def PG.L__lists_1 : Rho → Out := (appendS 2 (callF PG.m_cleaned (consA (callF PG.m_eliminated (consA (ixO 2 (unF dNeg (cF (.int 1)))) (consA (varF 3) nilA))) nilA)))
noncomputable def PG.S__lists : Rho → Out := (seqS (ownS (consA (callF PG.m_cleaned (consA (callF PG.m_derived (consA (varF 0) nilA)) nilA)) nilA) 2) (seqS (forS (itemsQ (varF 1)) (nameT 3) PG.L__lists_1) (retS (varF 2))))
end DL
set_option exponentiation.threshold 5000
namespace DL
open PySem PySem.Spec PyProof.Rows L2 RT
theorem strsOf_map2 : ∀ acc : List Str, strsOf (acc.map PyData.str) = some acc
  | [] => rfl
  | x :: r => by
    rw [List.map_cons]
    simp [strsOf, strsOf_map2 r]
theorem bSorted_strs {xs : List Str} (h : xs.length < 64) : bSorted (.list (xs.map PyData.str)) = some (.list ((sortS xs).map PyData.str)) := by
  unfold bSorted
  dsimp only
  rw [strsOf_map2]
  dsimp only
  rw [if_pos h]
structure Step1 (rows : List Rw) (x : Str) (ds ds' : List Dr) : Prop where
  pe : ∃ m : List Dr, PG.m_eliminated [.list (ds.map drD), .str x] = .ok (.list (m.map drD)) ∧ PG.m_cleaned [.list (m.map drD)] = .ok (.list (ds'.map drD)) ∧
    LH.m_without [.list (rows.map rD), .list (ds.map drD), .str x] = .ok (.list (m.map drD)) ∧ LH.m_clean [.list (m.map drD)] = .ok (.list (ds'.map drD))
inductive Steps (rows : List Rw) : List Str → List Dr → List Dr → Prop
  | nil {ds : List Dr} : Steps rows [] ds ds
  | cons {x : Str} {xs : List Str} {ds d1 d2 : List Dr} : Step1 rows x ds d1 → Steps rows xs d1 d2 → Steps rows (x :: xs) ds d2
end DL
namespace DL
open PySem PySem.Spec PyProof.Rows L2 RT
section
variable {X : L2.Cx} {B : Bx} {W : WX} {pos : Pos} {e tg : Expr} {F : Rho → Res PyData}
noncomputable def revRF (F : Rho → Res PyData) : Rho → Res (List PyData) := fun ρ => (F ρ).bind fun d ρ => match d with
  | .int j => iteC (-(2 ^ 62) ≤ j ∧ j < 2 ^ 62) (.ok (rangeL 0 j.toNat).reverse ρ) .bad
  | _ => .bad
end
end DL
namespace DL
open PySem PySem.Spec PyProof.Rows L2 RT
section
open PySem.W PySem.Calls
variable {prog : Program} {w : World} {A : Around} {E : Value → Shared → Prop} {s : Shared}
end
section
open PySem.W PySem.Calls
variable {X : L2.Cx} {pins : List (Addr × Obj)} {σ : L2.St} {H : Hp} {s : Shared}
end
end DL
namespace DL
open PySem PySem.Spec PyProof.Rows L2 RT
def ptOf : PyData → Option Pt
  | .tuple [.str x, .tuple [.int a, .int b]] => some (x, a, b)
  | _ => none
def ptsOf : List PyData → Option (List Pt)
  | [] => some []
  | d :: ds => (ptOf d).bind fun p => (ptsOf ds).map (p :: ·)
def sortP (ps : List Pt) : List Pt := (sortS (ps.map (·.1))).map fun x => (x, gget ps x)
def bSortP : PyData → Option PyData
  | .tuple ds => match ptsOf ds with
    | some ps => if ps.length ≤ 1000 ∧ (ps.map fun p : Pt => p.1).Nodup then some (.list ((sortP ps).map pD)) else none
    | none => none
  | _ => none
section
open PySem.W
variable {X : L2.Cx}
end
end DL
namespace DL
open PySem PySem.Spec PyProof.Rows L2 RT
def holdsB (f : Str → Rat) (d : Dr) : Bool := holdsR d.1.2.1 (lin f d.1.1) (rv d.1.2.2)
theorem holdsR_lt {x y : Rat} : holdsR "<" x y = true ↔ x < y := by
  have b : ((("<" : Str)) == "=") = false := by decide
  have c : ((("<" : Str)) == "<") = true := rfl
  unfold holdsR
  rw [b, c]
  simp
theorem holdsR_le {x y : Rat} : holdsR "<=" x y = true ↔ x ≤ y := by
  have b : ((("<=" : Str)) == "=") = false := by decide
  have c : ((("<=" : Str)) == "<") = false := by decide
  unfold holdsR
  rw [b, c]
  simp
theorem holdsR_eq {x y : Rat} : holdsR "=" x y = true ↔ x = y := by
  have b : ((("=" : Str)) == "=") = true := rfl
  unfold holdsR
  rw [b]
  simp
end DL
namespace DL
open PySem PySem.Spec PyProof.Rows L2 RT
section
variable {rows : List Rw} {d1 d2 : Dr} {f1 f2 : Qn} (R : RwP rows) (h1 : Dv rows d1) (h2 : Dv rows d2) (m1 : May f1 d1) (m2 : May f2 d2)
include R h1 h2 m1 m2
end
end DL
namespace DL
open PySem PySem.Spec PyProof.Rows L2 RT
def f0 (f : Str → Rat) (x : Str) : Str → Rat := fun y => if y = x then 0 else f y
section
variable {rows : List Rw} (Z : Rz rows) {L : List Str} {c b δ : Nat} (B : Bnd L c b δ) {x : Str}
include Z B
theorem Ctx.sgn {d : Dr} (C : Ctx rows L c b δ d) : Sgn d.1.2.1 := by rw [C.dv.sgn]; exact sgnOf_sgn _
end
end DL
namespace DL
open PySem PySem.Spec PyProof.Rows L2 RT
def Lw (x : Str) (d : Dr) : Prop := (amt d x).1 < 0 ∨ ((amt d x).1 ≠ 0 ∧ d.1.2.1 = "=")
def Up (x : Str) (d : Dr) : Prop := 0 < (amt d x).1 ∨ ((amt d x).1 ≠ 0 ∧ d.1.2.1 = "=")
section
variable {rows : List Rw} (Z : Rz rows) {L : List Str} {c b δ : Nat} (B : Bnd L c b δ) {x : Str}
include Z B
end
end DL
namespace DL
open PySem PySem.Spec PyProof.Rows L2 RT
section
variable {rows : List Rw} (Z : Rz rows) {L : List Str} {c b δ : Nat} (B : Bnd L c b δ) {x : Str}
include Z B
end
end DL
namespace DL
open PySem PySem.Spec PyProof.Rows L2 RT
noncomputable def PG.S__is_above : Rho → Out := (seqS (ifS (testF (binF dIsN2 (varF 1) (cF (.none)))) (retS (cF (.bool true))) nxS) (seqS (asgS (callF PG.m_compare (consA (varF 0) (consA (varF 1) nilA))) (nameT 3)) (retS (orV (binF dGt (varF 3) (cF (.int 0))) (andV (binF dEq (varF 3) (cF (.int 0))) (varF 2))))))
noncomputable def PG.B__is_above (a0 a1 a2 : PyData) : FR := outFR (PG.S__is_above [.d a0, .d a1, .d a2, .un])
noncomputable def PG.m__is_above : Fn := fn3 PG.B__is_above
noncomputable def PG.S__is_below : Rho → Out := (seqS (ifS (testF (binF dIsN2 (varF 1) (cF (.none)))) (retS (cF (.bool true))) nxS) (seqS (asgS (callF PG.m_compare (consA (varF 0) (consA (varF 1) nilA))) (nameT 3)) (retS (orV (binF dLt (varF 3) (cF (.int 0))) (andV (binF dEq (varF 3) (cF (.int 0))) (varF 2))))))
noncomputable def PG.B__is_below (a0 a1 a2 : PyData) : FR := outFR (PG.S__is_below [.d a0, .d a1, .d a2, .un])
noncomputable def PG.m__is_below : Fn := fn3 PG.B__is_below
noncomputable def PG.S__least_integer : Rho → Out := (seqS (asgS (varF 0) (tupT 2 (consTs (nameT 2) (consTs (nameT 3) nilTs)))) (seqS (ifS (andT (testF (binF dEq (varF 3) (cF (.int 1)))) (truF (varF 1))) (retS (varF 2)) nxS) (retS (binF dAdd (binF dDiv (varF 2) (varF 3)) (cF (.int 1))))))
noncomputable def PG.B__least_integer (a0 a1 : PyData) : FR := outFR (PG.S__least_integer [.d a0, .d a1, .un, .un])
noncomputable def PG.m__least_integer : Fn := fn2 PG.B__least_integer
noncomputable def PG.L__put_together_1 : Rho → Out := (parS (consA (binF dAdd (binF dMul (varF 4) (varF 2)) (varF 3)) (consA (varF 2) nilA)) 2 3)
noncomputable def PG.S__put_together : Rho → Out := (seqS (parS (consA (varF 1) (consA (cF (.int 1)) nilA)) 2 3) (seqS (forS (revF (varF 0)) (nameT 4) PG.L__put_together_1) (retS (tupF (consA (varF 2) (consA (varF 3) nilA))))))
noncomputable def PG.B__put_together (a0 a1 : PyData) : FR := outFR (PG.S__put_together [.d a0, .d a1, .un, .un, .un])
noncomputable def PG.m__put_together : Fn := fn2 PG.B__put_together
noncomputable def PG.S__rest : Rho → Out := (seqS (asgS (varF 0) (tupT 2 (consTs (nameT 2) (consTs (nameT 3) nilTs)))) (seqS (ifS (testF (binF dEq (varF 2) (binF dMul (varF 1) (varF 3)))) (retS (cF (.none))) nxS) (retS (tupF (consA (varF 3) (consA (binF dSub (varF 2) (binF dMul (varF 1) (varF 3))) nilA))))))
noncomputable def PG.B__rest (a0 a1 : PyData) : FR := outFR (PG.S__rest [.d a0, .d a1, .un, .un])
noncomputable def PG.m__rest : Fn := fn2 PG.B__rest
noncomputable def PG.L__simplest_above_zero_1 : Rho → Out := (seqS (asgS (callF PG.m__least_integer (consA (varF 0) (consA (varF 1) nilA))) (nameT 5)) (seqS (ifS (truF (callF PG.m__is_below (consA (tupF (consA (varF 5) (consA (cF (.int 1)) nilA))) (consA (varF 2) (consA (varF 3) nilA))))) (retS (callF PG.m__put_together (consA (varF 4) (consA (varF 5) nilA)))) nxS) (seqS (asgS (binF dSub (varF 5) (cF (.int 1))) (nameT 6)) (seqS (appendS 4 (varF 6)) (asgS (tupF (consA (callF PG.m__rest (consA (varF 2) (consA (varF 6) nilA))) (consA (varF 3) (consA (callF PG.m__rest (consA (varF 0) (consA (varF 6) nilA))) (consA (varF 1) nilA))))) (tupT 4 (consTs (nameT 0) (consTs (nameT 1) (consTs (nameT 2) (consTs (nameT 3) nilTs))))))))))
noncomputable def PG.S__simplest_above_zero : Rho → Out := (seqS (ownS nilA 4) (whileS (truF (cF (.bool true))) PG.L__simplest_above_zero_1))
noncomputable def PG.B__simplest_above_zero (a0 a1 a2 a3 : PyData) : FR := outFR (PG.S__simplest_above_zero [.d a0, .d a1, .d a2, .d a3, .un, .un, .un])
noncomputable def PG.m__simplest_above_zero : Fn := fn4 PG.B__simplest_above_zero
noncomputable def PG.S__opposite : Rho → Out := (seqS (ifS (testF (binF dIsN2 (varF 0) (cF (.none)))) (retS (cF (.none))) nxS) (retS (tupF (consA (unF dNeg (binF dIx (varF 0) (cF (.int 0)))) (consA (binF dIx (varF 0) (cF (.int 1))) nilA)))))
noncomputable def PG.B__opposite (a0 : PyData) : FR := outFR (PG.S__opposite [.d a0])
noncomputable def PG.m__opposite : Fn := fn1 PG.B__opposite
noncomputable def PG.S_simplest_between : Rho → Out := (seqS (ifS (andT (testF (binF dNotN2 (varF 0) (cF (.none)))) (testF (binF dNotN2 (varF 2) (cF (.none))))) (seqS (asgS (callF PG.m_compare (consA (varF 0) (consA (varF 2) nilA))) (nameT 4)) (seqS (ifS (andT (testF (binF dEq (varF 4) (cF (.int 0)))) (andT (truF (varF 1)) (truF (varF 3)))) (retS (varF 0)) nxS) (ifS (testF (binF dGe (varF 4) (cF (.int 0)))) (retS (cF (.none))) nxS))) nxS) (seqS (ifS (andT (truF (callF PG.m__is_above (consA (cF (.tuple [.int 0, .int 1])) (consA (varF 0) (consA (varF 1) nilA))))) (truF (callF PG.m__is_below (consA (cF (.tuple [.int 0, .int 1])) (consA (varF 2) (consA (varF 3) nilA)))))) (retS (cF (.tuple [.int 0, .int 1]))) nxS) (seqS (ifS (andT (testF (binF dNotN2 (varF 0) (cF (.none)))) (testF (binF dGe (callF PG.m_compare (consA (varF 0) (consA (cF (.tuple [.int 0, .int 1])) nilA))) (cF (.int 0))))) (retS (callF PG.m__simplest_above_zero (consA (varF 0) (consA (varF 1) (consA (varF 2) (consA (varF 3) nilA)))))) nxS) (retS (callF PG.m__opposite (consA (callF PG.m__simplest_above_zero (consA (callF PG.m__opposite (consA (varF 2) nilA)) (consA (varF 3) (consA (callF PG.m__opposite (consA (varF 0) nilA)) (consA (varF 1) nilA))))) nilA))))))
noncomputable def PG.B_simplest_between (a0 a1 a2 a3 : PyData) : FR := outFR (PG.S_simplest_between [.d a0, .d a1, .d a2, .d a3, .un])
noncomputable def PG.m_simplest_between : Fn := fn4 PG.B_simplest_between
noncomputable def PG.S_unknowns : Rho → Out := (retS (sortSetF [1, 2, 3] (itemsQ (varF 0)) (tupT 3 (consTs (nameT 1) (consTs (nameT 2) (consTs (nameT 2) nilTs)))) (itemsQ (varF 1)) (tupT 2 (consTs (nameT 3) (consTs (nameT 2) nilTs))) (varF 3)))
noncomputable def PG.B_unknowns (a0 : PyData) : FR := outFR (PG.S_unknowns [.d a0, .un, .un, .un])
noncomputable def PG.m_unknowns : Fn := fn1 PG.B_unknowns
noncomputable def PG.L__refutation_1 : Rho → Out := (ifS (notT (truF (binF dIx (varF 1) (cF (.int 0))))) (retS (callF PG.m_multiplied (consA (varF 2) (consA (callF PG.m_whole_factor (consA (lcF [3, 4] (itemsQ (varF 2)) (tupT 2 (consTs (nameT 3) (consTs (nameT 4) nilTs))) yesT (varF 4)) nilA)) nilA)))) nxS)
noncomputable def PG.S__refutation : Rho → Out := (seqS (forS (itemsQ (varF 0)) (tupT 2 (consTs (nameT 1) (consTs (nameT 2) nilTs))) PG.L__refutation_1) (retS (cF (.none))))
noncomputable def PG.B__refutation (a0 : PyData) : FR := outFR (PG.S__refutation [.d a0, .un, .un, .un, .un])
noncomputable def PG.m__refutation : Fn := fn1 PG.B__refutation
noncomputable def PG.L_told_lists_1 : Rho → Out := (seqS (ifS (testF (binF dNotN2 (callF PG.m__refutation (consA (varF 2) nilA)) (cF (.none)))) .bk nxS) (seqS (asgS (callF PG.m_cleaned (consA (callF PG.m_eliminated (consA (varF 2) (consA (varF 4) nilA))) nilA)) (nameT 2)) (appendS 3 (varF 2))))
noncomputable def PG.S_told_lists : Rho → Out := (seqS (asgS (callF PG.m_cleaned (consA (callF PG.m_derived (consA (varF 0) nilA)) nilA)) (nameT 2)) (seqS (ownS (consA (varF 2) nilA) 3) (seqS (forS (itemsQ (varF 1)) (nameT 4) PG.L_told_lists_1) (retS (varF 3)))))
noncomputable def PG.B_told_lists (a0 a1 : PyData) : FR := outFR (PG.S_told_lists [.d a0, .d a1, .un, .un, .un])
noncomputable def PG.m_told_lists : Fn := fn2 PG.B_told_lists
noncomputable def PG.S__is_closer : Rho → Out := (seqS (ifS (testF (binF dIsN2 (varF 2) (cF (.none)))) (retS (cF (.bool true))) nxS) (seqS (asgS (callF PG.m_compare (consA (varF 0) (consA (varF 2) nilA))) (nameT 4)) (retS (orV (binF dEq (varF 4) (varF 3)) (andV (binF dEq (varF 4) (cF (.int 0))) (binF dEq (varF 1) (cF (.str "<"))))))))
noncomputable def PG.B__is_closer (a0 a1 a2 a3 : PyData) : FR := outFR (PG.S__is_closer [.d a0, .d a1, .d a2, .d a3, .un])
noncomputable def PG.m__is_closer : Fn := fn4 PG.B__is_closer
noncomputable def PG.L__simplest_1 : Rho → Out := (seqS (asgS (callF PG.m_amount_of (consA (varF 11) (consA (varF 1) nilA))) (nameT 8)) (seqS (ifS (testF (binF dEq (varF 8) (cF (.tuple [.int 0, .int 1])))) .ct nxS) (seqS (asgS (callF PG.m_over (consA (callF PG.m_minus (consA (varF 13) (consA (callF PG.m_value (consA (tupF (consA (varF 11) (consA (cF (.tuple [.int 0, .int 1])) nilA))) (consA (varF 2) nilA))) nilA))) (consA (varF 8) nilA))) (nameT 9)) (seqS (asgS (binF dGt (callF PG.m_compare (consA (varF 8) (consA (cF (.tuple [.int 0, .int 1])) nilA))) (cF (.int 0))) (nameT 10)) (seqS (ifS (andT (orT (truF (varF 10)) (testF (binF dEq (varF 12) (cF (.str "="))))) (truF (callF PG.m__is_closer (consA (varF 9) (consA (varF 12) (consA (varF 5) (consA (unF dNeg (cF (.int 1))) nilA))))))) (parS (consA (varF 9) (consA (binF dNe (varF 12) (cF (.str "<"))) nilA)) 5 6) nxS) (ifS (andT (orT (notT (truF (varF 10))) (testF (binF dEq (varF 12) (cF (.str "="))))) (truF (callF PG.m__is_closer (consA (varF 9) (consA (varF 12) (consA (varF 3) (consA (cF (.int 1)) nilA))))))) (parS (consA (varF 9) (consA (binF dNe (varF 12) (cF (.str "<"))) nilA)) 3 4) nxS))))))
noncomputable def PG.S__simplest : Rho → Out := (seqS (asgS (tupF (consA (cF (.none)) (consA (cF (.bool true)) (consA (cF (.none)) (consA (cF (.bool true)) nilA))))) (tupT 4 (consTs (nameT 3) (consTs (nameT 4) (consTs (nameT 5) (consTs (nameT 6) nilTs)))))) (seqS (forS (itemsQ (varF 0)) (tupT 2 (consTs (tupT 3 (consTs (nameT 11) (consTs (nameT 12) (consTs (nameT 13) nilTs)))) (consTs (nameT 7) nilTs))) PG.L__simplest_1) (retS (callF PG.m_simplest_between (consA (varF 3) (consA (varF 4) (consA (varF 5) (consA (varF 6) nilA))))))))
noncomputable def PG.B__simplest (a0 a1 a2 : PyData) : FR := outFR (PG.S__simplest [.d a0, .d a1, .d a2, .un, .un, .un, .un, .un, .un, .un, .un, .un, .un, .un])
noncomputable def PG.m__simplest : Fn := fn3 PG.B__simplest
noncomputable def PG.L_completed_1 : Rho → Out := (asgS (binF dAdd (varF 2) (tupF (consA (tupF (consA (binF dIx (varF 1) (varF 3)) (consA (callF PG.m__simplest (consA (binF dIx (varF 0) (varF 3)) (consA (binF dIx (varF 1) (varF 3)) (consA (varF 2) nilA)))) nilA))) nilA))) (nameT 2))
noncomputable def PG.S_completed : Rho → Out := (seqS (forS (revRF (appF (app1 bLen) (consA (varF 1) nilA))) (nameT 3) PG.L_completed_1) (retS (appF (app1 bTuple) (consA (appF (app1 bSortP) (consA (varF 2) nilA)) nilA))))
noncomputable def PG.B_completed (a0 a1 a2 : PyData) : FR := outFR (PG.S_completed [.d a0, .d a1, .d a2, .un])
noncomputable def PG.m_completed : Fn := fn3 PG.B_completed
noncomputable def PG.S_solve : Rho → Out := (seqS (asgS (callF PG.m_unknowns (consA (varF 0) nilA)) (nameT 1)) (seqS (asgS (callF PG.m_told_lists (consA (varF 0) (consA (varF 1) nilA))) (nameT 2)) (seqS (asgS (callF PG.m__refutation (consA (binF dIx (varF 2) (unF dNeg (cF (.int 1)))) nilA)) (nameT 3)) (seqS (ifS (testF (binF dNotN2 (varF 3) (cF (.none)))) (retS (tupF (consA (cF (.str "paper")) (consA (varF 3) nilA)))) nxS) (retS (tupF (consA (cF (.str "point")) (consA (callF PG.m_completed (consA (varF 2) (consA (varF 1) (consA (tupF nilA) nilA)))) nilA))))))))
noncomputable def PG.B_solve (a0 : PyData) : FR := outFR (PG.S_solve [.d a0, .un, .un, .un])
noncomputable def PG.m_solve : Fn := fn1 PG.B_solve
noncomputable def LH.L_names_1 : Rho → Out := (ifS (testF (inO true 1 (varF 3))) (appendS 1 (varF 3)) nxS)
noncomputable def LH.L_names_2 : Rho → Out := (forS (itemsQ (binF dIx (varF 2) (cF (.int 0)))) (tupT 2 (consTs (nameT 3) (consTs (nameT 4) nilTs))) LH.L_names_1)
noncomputable def LH.S_names : Rho → Out := (seqS (ownS nilA 1) (seqS (forS (itemsQ (varF 0)) (nameT 2) LH.L_names_2) (retS (appF (app1 bSorted) (consA (varF 1) nilA)))))
noncomputable def LH.B_names (a0 : PyData) : FR := outFR (LH.S_names [.d a0, .un, .un, .un, .un])
noncomputable def LH.m_names : Fn := fn1 LH.B_names
noncomputable def LH.L_false_1 : Rho → Out := (ifS (andT (testF (binF dEq (appF (app1 bLen) (consA (binF dIx (varF 1) (cF (.int 0))) nilA)) (cF (.int 0)))) (notT (truF (callF LH.m_true (consA (varF 1) (consA (tupF nilA) nilA)))))) (retS (varF 2)) nxS)
noncomputable def LH.S_false : Rho → Out := (seqS (forS (itemsQ (varF 0)) (tupT 2 (consTs (nameT 1) (consTs (nameT 2) nilTs))) LH.L_false_1) (retS (cF (.none))))
noncomputable def LH.B_false (a0 : PyData) : FR := outFR (LH.S_false [.d a0, .un, .un])
noncomputable def LH.m_false : Fn := fn1 LH.B_false
noncomputable def LH.S_whole : Rho → Out := (seqS (asgS (tupF (consA (tupF nilA) (consA (cF (.str "<=")) (consA (tupF (consA (cF (.int 0)) (consA (cF (.int 1)) nilA))) nilA)))) (nameT 1)) (seqS (asgS (appF (app1 bTuple) (consA (lcF [3, 4] (itemsQ (varF 0)) (tupT 2 (consTs (nameT 3) (consTs (nameT 4) nilTs))) yesT (tupF (consA (appF (app1 bStr) (consA (varF 3) nilA)) (consA (varF 4) nilA)))) nilA)) (nameT 2)) (seqS (asgS (callF LH.m_factor (consA (tupF (consA (varF 2) (consA (cF (.str "<=")) (consA (binF dIx (varF 1) (cF (.int 2))) nilA)))) nilA)) (nameT 5)) (retS (appF (app1 bTuple) (consA (lcF [3, 4] (itemsQ (varF 0)) (tupT 2 (consTs (nameT 3) (consTs (nameT 4) nilTs))) yesT (tupF (consA (varF 3) (consA (callF LH.m_mul (consA (varF 4) (consA (varF 5) nilA))) nilA)))) nilA))))))
noncomputable def LH.B_whole (a0 : PyData) : FR := outFR (LH.S_whole [.d a0, .un, .un, .un, .un, .un])
noncomputable def LH.m_whole : Fn := fn1 LH.B_whole
noncomputable def LH.L_up_1 : Rho → Out := (ifS (testF (binF dIsN2 (varF 5) (cF (.none)))) (seqS (asgS (binF dDiv (binF dIx (varF 0) (cF (.int 0))) (binF dIx (varF 0) (cF (.int 1)))) (nameT 7)) (seqS (asgS (binF dAdd (varF 7) (appF (app1 bInt) (consA (orV (binF dNe (binF dMod (binF dIx (varF 0) (cF (.int 0))) (binF dIx (varF 0) (cF (.int 1)))) (cF (.int 0))) (notV (varF 1))) nilA))) (nameT 8)) (ifS (orT (testF (binF dIsN2 (varF 2) (cF (.none)))) (orT (testF (binF dLt (binF dMul (varF 8) (binF dIx (varF 2) (cF (.int 1)))) (binF dIx (varF 2) (cF (.int 0))))) (andT (testF (binF dEq (binF dMul (varF 8) (binF dIx (varF 2) (cF (.int 1)))) (binF dIx (varF 2) (cF (.int 0))))) (truF (varF 3))))) (asgS (tupF (consA (varF 8) (consA (cF (.int 1)) nilA))) (nameT 5)) (seqS (appendS 4 (varF 7)) (seqS (asgS (cF (.none)) (nameT 9)) (seqS (ifS (testF (binF dNe (binF dMod (binF dIx (varF 0) (cF (.int 0))) (binF dIx (varF 0) (cF (.int 1)))) (cF (.int 0)))) (asgS (tupF (consA (binF dIx (varF 0) (cF (.int 1))) (consA (binF dMod (binF dIx (varF 0) (cF (.int 0))) (binF dIx (varF 0) (cF (.int 1)))) nilA))) (nameT 9)) nxS) (asgS (tupF (consA (tupF (consA (binF dIx (varF 2) (cF (.int 1))) (consA (binF dSub (binF dIx (varF 2) (cF (.int 0))) (binF dMul (varF 7) (binF dIx (varF 2) (cF (.int 1))))) nilA))) (consA (varF 3) (consA (varF 9) (consA (varF 1) nilA))))) (tupT 4 (consTs (nameT 0) (consTs (nameT 1) (consTs (nameT 2) (consTs (nameT 3) nilTs)))))))))))) nxS)
noncomputable def LH.L_up_2 : Rho → Out := (asgS (tupF (consA (binF dAdd (binF dMul (varF 7) (binF dIx (varF 5) (cF (.int 0)))) (binF dIx (varF 5) (cF (.int 1)))) (consA (binF dIx (varF 5) (cF (.int 0))) nilA))) (nameT 5))
noncomputable def LH.S_up : Rho → Out := (seqS (ownS nilA 4) (seqS (asgS (cF (.none)) (nameT 5)) (seqS (forS (range1F (consA (cF (.int 200)) nilA)) (nameT 6) LH.L_up_1) (seqS (forS (itemsQ (unF dRev (varF 4))) (nameT 7) LH.L_up_2) (retS (varF 5))))))
noncomputable def LH.B_up (a0 a1 a2 a3 : PyData) : FR := outFR (LH.S_up [.d a0, .d a1, .d a2, .d a3, .un, .un, .un, .un, .un, .un])
noncomputable def LH.m_up : Fn := fn4 LH.B_up
noncomputable def LH.S_simplest : Rho → Out := (seqS (ifS (andT (testF (binF dNotN2 (varF 0) (cF (.none)))) (testF (binF dEq (varF 0) (varF 2)))) (seqS (ifS (andT (truF (varF 1)) (truF (varF 3))) (retS (varF 0)) nxS) (retS (cF (.none)))) nxS) (seqS (ifS (andT (testF (binF dNotN2 (varF 0) (cF (.none)))) (andT (testF (binF dNotN2 (varF 2) (cF (.none)))) (truF (callF LH.m_less (consA (varF 2) (consA (varF 0) nilA)))))) (retS (cF (.none))) nxS) (seqS (asgS (orV (binF dIsN2 (varF 0) (cF (.none))) (orV (binF dLt (binF dIx (varF 0) (cF (.int 0))) (cF (.int 0))) (andV (binF dEq (binF dIx (varF 0) (cF (.int 0))) (cF (.int 0))) (varF 1)))) (nameT 4)) (seqS (asgS (orV (binF dIsN2 (varF 2) (cF (.none))) (orV (binF dGt (binF dIx (varF 2) (cF (.int 0))) (cF (.int 0))) (andV (binF dEq (binF dIx (varF 2) (cF (.int 0))) (cF (.int 0))) (varF 3)))) (nameT 5)) (seqS (ifS (andT (truF (varF 4)) (truF (varF 5))) (retS (tupF (consA (cF (.int 0)) (consA (cF (.int 1)) nilA)))) nxS) (seqS (ifS (truF (varF 5)) (retS (callF LH.m_up (consA (varF 0) (consA (varF 1) (consA (varF 2) (consA (varF 3) nilA)))))) nxS) (seqS (asgS (cF (.none)) (nameT 6)) (seqS (ifS (testF (binF dNotN2 (varF 0) (cF (.none)))) (asgS (tupF (consA (unF dNeg (binF dIx (varF 0) (cF (.int 0)))) (consA (binF dIx (varF 0) (cF (.int 1))) nilA))) (nameT 6)) nxS) (seqS (asgS (callF LH.m_up (consA (tupF (consA (unF dNeg (binF dIx (varF 2) (cF (.int 0)))) (consA (binF dIx (varF 2) (cF (.int 1))) nilA))) (consA (varF 3) (consA (varF 6) (consA (varF 1) nilA))))) (nameT 7)) (retS (tupF (consA (unF dNeg (binF dIx (varF 7) (cF (.int 0)))) (consA (binF dIx (varF 7) (cF (.int 1))) nilA)))))))))))))
noncomputable def LH.B_simplest (a0 a1 a2 a3 : PyData) : FR := outFR (LH.S_simplest [.d a0, .d a1, .d a2, .d a3, .un, .un, .un, .un])
noncomputable def LH.m_simplest : Fn := fn4 LH.B_simplest
noncomputable def LH.L_lift_1 : Rho → Out := (seqS (asgS (callF LH.m_in (consA (varF 7) (consA (varF 1) nilA))) (nameT 9)) (ifS (testF (binF dNe (binF dIx (varF 9) (cF (.int 0))) (cF (.int 0)))) (seqS (asgS (appF (app1 bTuple) (consA (lcF [12] (itemsQ (binF dIx (varF 7) (cF (.int 0)))) (nameT 12) (testF (binF dNe (binF dIx (varF 12) (cF (.int 0))) (varF 1))) (varF 12)) nilA)) (nameT 10)) (seqS (asgS (callF LH.m_div (consA (callF LH.m_sub (consA (binF dIx (varF 7) (cF (.int 2))) (consA (callF LH.m_at (consA (varF 10) (consA (varF 2) nilA))) nilA))) (consA (varF 9) nilA))) (nameT 11)) (seqS (ifS (andT (orT (testF (binF dGt (binF dIx (varF 9) (cF (.int 0))) (cF (.int 0)))) (testF (binF dEq (binF dIx (varF 7) (cF (.int 1))) (cF (.str "="))))) (orT (testF (binF dIsN2 (varF 5) (cF (.none)))) (orT (truF (callF LH.m_less (consA (varF 11) (consA (varF 5) nilA)))) (andT (testF (binF dEq (varF 11) (varF 5))) (testF (binF dEq (binF dIx (varF 7) (cF (.int 1))) (cF (.str "<")))))))) (seqS (asgS (varF 11) (nameT 5)) (asgS (binF dNe (binF dIx (varF 7) (cF (.int 1))) (cF (.str "<"))) (nameT 6))) nxS) (ifS (andT (orT (testF (binF dLt (binF dIx (varF 9) (cF (.int 0))) (cF (.int 0)))) (testF (binF dEq (binF dIx (varF 7) (cF (.int 1))) (cF (.str "="))))) (orT (testF (binF dIsN2 (varF 3) (cF (.none)))) (orT (truF (callF LH.m_less (consA (varF 3) (consA (varF 11) nilA)))) (andT (testF (binF dEq (varF 11) (varF 3))) (testF (binF dEq (binF dIx (varF 7) (cF (.int 1))) (cF (.str "<")))))))) (seqS (asgS (varF 11) (nameT 3)) (asgS (binF dNe (binF dIx (varF 7) (cF (.int 1))) (cF (.str "<"))) (nameT 4))) nxS)))) nxS))
noncomputable def LH.S_lift : Rho → Out := (seqS (asgS (cF (.none)) (nameT 3)) (seqS (asgS (cF (.bool true)) (nameT 4)) (seqS (asgS (cF (.none)) (nameT 5)) (seqS (asgS (cF (.bool true)) (nameT 6)) (seqS (forS (itemsQ (varF 0)) (tupT 2 (consTs (nameT 7) (consTs (nameT 8) nilTs))) LH.L_lift_1) (retS (callF LH.m_simplest (consA (varF 3) (consA (varF 4) (consA (varF 5) (consA (varF 6) nilA)))))))))))
noncomputable def LH.B_lift (a0 a1 a2 : PyData) : FR := outFR (LH.S_lift [.d a0, .d a1, .d a2, .un, .un, .un, .un, .un, .un, .un, .un, .un, .un])
noncomputable def LH.m_lift : Fn := fn3 LH.B_lift
noncomputable def LH.L_solved_1 : Rho → Out := (ifS (testF (binF dIsN2 (callF LH.m_false (consA (varF 1) nilA)) (cF (.none)))) (seqS (appendS 2 (tupF (consA (varF 3) (consA (varF 1) nilA)))) (asgS (callF LH.m_clean (consA (callF LH.m_without (consA (varF 0) (consA (varF 1) (consA (varF 3) nilA)))) nilA)) (nameT 1))) nxS)
noncomputable def LH.L_solved_2 : Rho → Out := (asgS (binF dAdd (varF 4) (tupF (consA (tupF (consA (varF 3) (consA (callF LH.m_lift (consA (varF 5) (consA (varF 3) (consA (varF 4) nilA)))) nilA))) nilA))) (nameT 4))
noncomputable def LH.S_solved : Rho → Out := (seqS (asgS (callF LH.m_clean (consA (callF LH.m_begin (consA (varF 0) nilA)) nilA)) (nameT 1)) (seqS (ownS nilA 2) (seqS (forS (itemsQ (callF LH.m_names (consA (varF 0) nilA))) (nameT 3) LH.L_solved_1) (seqS (ifS (testF (binF dNotN2 (callF LH.m_false (consA (varF 1) nilA)) (cF (.none)))) (retS (tupF (consA (cF (.str "paper")) (consA (callF LH.m_whole (consA (callF LH.m_false (consA (varF 1) nilA)) nilA)) nilA)))) nxS) (seqS (asgS (tupF nilA) (nameT 4)) (seqS (forS (itemsQ (unF dRev (varF 2))) (tupT 2 (consTs (nameT 3) (consTs (nameT 5) nilTs))) LH.L_solved_2) (retS (tupF (consA (cF (.str "point")) (consA (appF (app1 bTuple) (consA (appF (app1 bSortP) (consA (varF 4) nilA)) nilA)) nilA))))))))))
noncomputable def LH.B_solved (a0 : PyData) : FR := outFR (LH.S_solved [.d a0, .un, .un, .un, .un, .un])
noncomputable def LH.m_solved : Fn := fn1 LH.B_solved
end DL
set_option exponentiation.threshold 5000
namespace DL
open PySem PySem.Spec PyProof.Rows L2 RT
def refM (ds : List Dr) : Option (List Pa) := (ds.find? fun d => d.1.1.isEmpty).map fun d => mulP d.2 (wfM (d.2.map (·.2)))
structure Ref (d : Dr) : Prop where
  pap : d.1.1 = [] → d.2 ≠ [] ∧ Pap 1900 d.2 ∧ (∀ p ∈ d.2, Low p.2 ∧ p.2.1 ≠ 0) ∧ d.2.length ≤ 8
end DL
set_option exponentiation.threshold 5000
namespace DL
open PySem PySem.Spec PyProof.Rows L2 RT
inductive Told (rows : List Rw) : List Str → List Dr → List (List Dr) → Prop
  | done {ds : List Dr} : (∀ d ∈ ds, Ref d) → Told rows [] ds [ds]
  | stop {x : Str} {xs : List Str} {ds : List Dr} {P : List Pa} : (∀ d ∈ ds, Ref d) → refM ds = some P → Told rows (x :: xs) ds [ds]
  | step {x : Str} {xs : List Str} {ds d1 : List Dr} {ls : List (List Dr)} : (∀ d ∈ ds, Ref d) → refM ds = none → Step1 rows x ds d1 → Told rows xs d1 ls → Told rows (x :: xs) ds (ds :: ls)
end DL
set_option exponentiation.threshold 5000
namespace DL
open PySem PySem.Spec PyProof.Rows L2 RT
structure Lims where
  lo : Option Qn
  loIn : Bool
  hi : Option Qn
  hiIn : Bool
def limQ (pt : List Pt) (x : Str) (d : Dr) : Qn := qdiv (qsub d.1.2.2 (atM (look pt) d.1.1 (0, 1))) (amt d x)
structure LimSz (s : Lims) : Prop where
  lo : ∀ q, s.lo = some q → Sz 4000 q
  hi : ∀ q, s.hi = some q → Sz 4000 q
section
variable {rows : List Rw} (Z : Rz rows) {L : List Str} {c b δ : Nat} (B : Bnd L c b δ) {x : Str} {pt : List Pt} {m : Nat} (hpt : ∀ p ∈ pt, Sz m p.2) (hm : m ≤ 1000)
include Z B hpt hm
end
end DL
set_option exponentiation.threshold 5000
namespace DL
open PySem PySem.Spec PyProof.Rows L2 RT
section
variable {rows : List Rw} (Z : Rz rows) {L : List Str} {c b δ : Nat} (B : Bnd L c b δ) {x : Str} {pt : List Pt} {m : Nat} (hpt : ∀ p ∈ pt, Sz m p.2) (hm : m ≤ 1000)
include Z B hpt hm
end
end DL
namespace DL
open PySem PySem.Spec PyProof.Rows L2 RT
structure LimI (pt : List Pt) (x : Str) (done : List Dr) (s : Lims) : Prop where
  hiN : s.hi = none → ∀ d ∈ done, ¬ Up x d
  loN : s.lo = none → ∀ d ∈ done, ¬ Lw x d
  hiS : ∀ q, s.hi = some q → (∃ d ∈ done, Up x d ∧ q = limQ pt x d ∧ s.hiIn = !(d.1.2.1 == "<")) ∧ ∀ d ∈ done, Up x d → rv q ≤ rv (limQ pt x d) ∧ (rv q = rv (limQ pt x d) → d.1.2.1 = "<" → s.hiIn = false)
  loS : ∀ q, s.lo = some q → (∃ d ∈ done, Lw x d ∧ q = limQ pt x d ∧ s.loIn = !(d.1.2.1 == "<")) ∧ ∀ d ∈ done, Lw x d → rv (limQ pt x d) ≤ rv q ∧ (rv q = rv (limQ pt x d) → d.1.2.1 = "<" → s.loIn = false)
end DL
namespace DL
open PySem PySem.Spec PyProof.Rows L2 RT
end DL
namespace DL
open PySem PySem.Spec PyProof.Rows L2 RT
end DL
namespace DL
open PySem PySem.Spec PyProof.Rows L2 RT
def ptF (pt : List Pt) : Str → Rat := fun y => rv (look pt y)
section
variable {rows : List Rw} (Z : Rz rows) {L : List Str} {c b δ : Nat} (B : Bnd L c b δ) {x : Str} {pt : List Pt} (hpt : ∀ y, 0 < (look pt y).2) (nox : look pt x = (0, 1))
include Z B hpt nox
end
end DL
set_option exponentiation.threshold 5000
namespace DL
open PySem PySem.Spec PyProof.Rows L2 RT
end DL
namespace DL
open PySem PySem.Spec PyProof.Rows L2 RT
def nmP (ps : List Pt) (acc : List Str) : List Str := ps.foldl (fun acc p => insT p.1 acc) acc
def nmR (rows : List Rw) (acc : List Str) : List Str := rows.foldl (fun acc r => nmP r.1 acc) acc
def NA (acc : List Str) : Prop := acc.Nodup ∧ ∀ x ∈ acc, x ∈ (["x", "y", "z2"] : List Str)
theorem NA.len {acc : List Str} (h : NA acc) : acc.length ≤ 3 := len_of_nd ["x", "y", "z2"] acc h.1 h.2
theorem NA.ins {acc : List Str} {x : Str} (h : NA acc) (hx : Nam x) : NA (insT x acc) := by
  refine ⟨insT_nd h.1, fun y hy => ?_⟩
  unfold insT at hy
  split at hy
  · exact h.2 y hy
  · rcases List.mem_cons.mp hy with rfl | hy
    · rcases hx with rfl | rfl | rfl <;> simp
    · exact h.2 y hy
theorem NA.nmP : ∀ (ps : List Pt) {acc : List Str}, NA acc → (∀ p ∈ ps, Nam p.1) → NA (nmP ps acc)
  | [], _, h, _ => h
  | p :: ps, _, h, hp => NA.nmP ps (h.ins (hp p List.mem_cons_self)) fun q hq => hp q (List.mem_cons_of_mem _ hq)
def St (e : Ent) : Prop := roE (frzE e) = e
theorem adds_names {e0 e1 : PyData} : ∀ (ps : List Pt) (acc : List Str) (e2 e3 : Ent), St e2 → St e3 → NA acc → (∀ p ∈ ps, Nam p.1) →
    ∃ e2' e3', addsL (tupT 2 (consTs (nameT 3) (consTs (nameT 2) nilTs))) (varF 3) (ps.map pD) [.d e0, .d e1, e2, e3] acc = some (nmP ps acc, [.d e0, .d e1, e2', e3']) ∧ St e2' ∧ St e3'
  | [], acc, e2, e3, h2, h3, _, _ => ⟨e2, e3, rfl, h2, h3⟩
  | p :: ps, acc, e2, e3, h2, h3, ha, hp => by
    obtain ⟨e2', e3', z, s2, s3⟩ := adds_names (e0 := e0) (e1 := e1) ps (insT p.1 acc) (.d (N p.2)) (.d (.str p.1)) rfl rfl (ha.ins (hp p List.mem_cons_self)) fun q hq => hp q (List.mem_cons_of_mem _ hq)
    refine ⟨e2', e3', ?_, s2, s3⟩
    have l3 : acc.length < 63 := by have := ha.len; omega
    rw [List.map_cons]
    unfold addsL
    simp [l3]
    exact z
theorem set_names {e0 : PyData} : ∀ (rows : List Rw) (acc : List Str) (e1 e2 e3 : Ent), St e1 → St e2 → St e3 → NA acc → (∀ r ∈ rows, ∀ p ∈ r.1, Nam p.1) →
    setL (tupT 3 (consTs (nameT 1) (consTs (nameT 2) (consTs (nameT 2) nilTs)))) (itemsQ (varF 1)) (tupT 2 (consTs (nameT 3) (consTs (nameT 2) nilTs))) (varF 3) (rows.map rD) [.d e0, e1, e2, e3] acc = some (nmR rows acc) ∧ NA (nmR rows acc)
  | [], acc, e1, e2, e3, _, _, _, ha, _ => ⟨rfl, ha⟩
  | r :: rows, acc, e1, e2, e3, h1, h2, h3, ha, hp => by
    have hr := hp r List.mem_cons_self
    obtain ⟨e2', e3', z, s2, s3⟩ := adds_names (e0 := e0) (e1 := psD r.1) r.1 acc (.d (N r.2.2)) e3 rfl h3 ha hr
    have q := set_names (e0 := e0) rows (nmP r.1 acc) (.d (psD r.1)) e2' e3' rfl s2 s3 (NA.nmP r.1 ha hr) fun x hx => hp x (List.mem_cons_of_mem _ hx)
    refine ⟨?_, q.2⟩
    have h3' : roE (frzE e3) = e3 := h3
    rw [List.map_cons]
    unfold setL
    simp [h3', z]
    exact q.1
theorem pg_unknowns {rows : List Rw} (h : ∀ r ∈ rows, ∀ p ∈ r.1, Nam p.1) : PG.B_unknowns (.list (rows.map rD)) = .ok (.list ((sortS (nmR rows [])).map PyData.str)) := by
  have z := (set_names (e0 := .list (rows.map rD)) rows [] .un .un .un rfl rfl rfl ⟨.nil, fun _ h => by cases h⟩ h).1
  simp [PG.B_unknowns, PG.S_unknowns, sortSetF, z]
theorem sortS_perm_eq {xs ys : List Str} (p : xs.Perm ys) : sortS xs = sortS ys := sorted_unique ((sortS_perm xs).trans (p.trans (sortS_perm ys).symm)) (sortS_sorted xs) (sortS_sorted ys)
def NB (acc : List Str) : Prop := (∀ x ∈ acc, Nam x) ∧ acc.Nodup
theorem NB.len {acc : List Str} (h : NB acc) : acc.length ≤ 3 := len_of_nd ["x", "y", "z2"] acc h.2 fun x hx => by rcases h.1 x hx with rfl | rfl | rfl <;> simp
end DL
set_option exponentiation.threshold 5000
namespace DL
open PySem PySem.Spec PyProof.Rows L2 RT
end DL
set_option exponentiation.threshold 5000
namespace DL
open PySem PySem.Spec PyProof.Rows L2 RT
def hD (c d : Int) : PyData := if d = 0 then .none else .tuple [.int c, .int d]
inductive LoopR (T : Tg) (S1 : Rho → Out) : List PyData → Rho → Rho → Prop
  | nil {ρ : Rho} : LoopR T S1 [] ρ ρ
  | cons {x : PyData} {xs : List PyData} {ρ ρ1 ρ2 ρ3 : Rho} : T x ρ = some ρ1 → S1 ρ1 = .nx ρ2 → LoopR T S1 xs ρ2 ρ3 → LoopR T S1 (x :: xs) ρ ρ3
def leastZ (a b : Int) (i : Bool) : Int := if b = 1 ∧ i = true then a else a / b + 1
def belZ (l c d : Int) (j : Bool) : Bool := decide (l * d < c) || (decide (l * d = c) && j)
def ptR : List Int → Int → Int × Int
  | [], l => (l, 1)
  | w :: ws, l => (w * (ptR ws l).1 + (ptR ws l).2, (ptR ws l).1)
def SufB (K : Nat) : List Int → Int → Prop
  | [], l => Bt K l
  | w :: ws, l => Bt K w ∧ SufB K ws l ∧ Bt K (ptR (w :: ws) l).1
end DL
set_option exponentiation.threshold 5000
namespace DL
open PySem PySem.Spec PyProof.Rows L2 RT
section
variable {a b c d l w : Int} {i j : Bool} {e0 e1 e2 e3 e4 e5 e6 e7 e8 e9 : Ent} (b0 : 0 < b)
include b0
omit b0 in
end
end DL
set_option exponentiation.threshold 5000
namespace DL
open PySem PySem.Spec PyProof.Rows L2 RT
structure UpZ (a b : Int) (i : Bool) (c d : Int) : Prop where
  a0 : 0 ≤ a
  b0 : 0 < b
  c0 : 0 < c
  d0 : 0 ≤ d
  ab : Int.gcd a b = 1
  cd : Int.gcd c d = 1
  lt : a * d < c * b
  ai : 0 < a ∨ i = false
structure UpR (K : Nat) (a b : Int) (i : Bool) (c d : Int) (j : Bool) (ws : List Int) (l : Int) : Prop where
  t0 : 0 < (ptR ws l).1
  s0 : 0 < (ptR ws l).2
  co : Int.gcd (ptR ws l).1 (ptR ws l).2 = 1
  lo : a * (ptR ws l).2 ≤ (ptR ws l).1 * b
  loS : i = false → a * (ptR ws l).2 < (ptR ws l).1 * b
  hi : (ptR ws l).1 * d ≤ c * (ptR ws l).2
  hiS : j = false → (ptR ws l).1 * d < c * (ptR ws l).2
  t1 : (ptR ws l).1 ≤ a + c
  s1 : (ptR ws l).2 ≤ b + d
  sz : SufB (K + 1) ws l
theorem UpZ.step {a b c d : Int} {i j : Bool} (h : UpZ a b i c d) (hb : belZ (leastZ a b i) c d j = false) :
    leastZ a b i = a / b + 1 ∧ c - a / b * d ≤ d ∧ 0 < d ∧ UpZ d (c - a / b * d) j b (a - a / b * b) ∧ a - a / b * b < b := by
  have b0 := h.b0
  have d0 := h.d0
  have c0 := h.c0
  have lt := h.lt
  have em := Int.mul_ediv_add_emod a b
  have r0 := Int.emod_nonneg a (show b ≠ 0 by omega)
  have r1 := Int.emod_lt_of_pos a b0
  have cm : a / b * b = b * (a / b) := Int.mul_comm _ _
  have wle : a / b * d * b ≤ a * d := by
    have : a / b * d * b = (b * (a / b)) * d := by ac_rfl
    rw [this]
    exact Int.mul_le_mul_of_nonneg_right (by omega) (by omega)
  have pos : 0 < c - a / b * d := by
    have : a / b * d * b < c * b := by omega
    have := Int.lt_of_mul_lt_mul_right this (by omega)
    omega
  have hl : leastZ a b i = a / b + 1 := by
    unfold leastZ at hb ⊢
    by_cases hz : b = 1 ∧ i = true
    · rw [if_pos hz] at hb
      unfold belZ at hb
      rw [hz.1, Int.mul_one] at lt
      simp [lt] at hb
    · rw [if_neg hz]
  have le : c - a / b * d ≤ d := by
    rw [hl] at hb
    unfold belZ at hb
    have : ¬ (a / b + 1) * d < c := by
      intro z
      simp [z] at hb
    rw [Int.add_mul, Int.one_mul] at this
    omega
  refine ⟨hl, le, by omega, ⟨by omega, pos, b0, by omega, ?_, ?_, ?_, .inl (by omega)⟩, by omega⟩
  · have e : c - a / b * d = c + -(a / b) * d := by rw [Int.neg_mul]; omega
    rw [e, Int.gcd_add_mul_right_right, Int.gcd_comm]
    exact h.cd
  · have e : a - a / b * b = a + -(a / b) * b := by rw [Int.neg_mul]; omega
    rw [e, Int.gcd_add_mul_right_right, Int.gcd_comm]
    exact h.ab
  · rw [Int.mul_sub, Int.mul_sub]
    have e2 : b * (a / b * d) = d * (a / b * b) := by ac_rfl
    have e3 : d * a = a * d := Int.mul_comm _ _
    have e4 : b * c = c * b := Int.mul_comm _ _
    omega
theorem UpR.step {K : Nat} {a b c d : Int} {i j : Bool} {ws : List Int} {l : Int} (h : UpZ a b i c d) (ha : Bt K a) (hc : Bt K c) (hs : UpZ d (c - a / b * d) j b (a - a / b * b)) (r : UpR K d (c - a / b * d) j b (a - a / b * b) i ws l) :
    UpR K a b i c d j (a / b :: ws) l := by
  obtain ⟨t0, s0, co, lo, loS, hi, hiS, t1, s1, sz⟩ := r
  have w0 : 0 ≤ a / b := Int.ediv_nonneg h.a0 (by have := h.b0; omega)
  have w1 : a / b ≤ a := Int.ediv_le_self b h.a0
  have a0 := h.a0
  have c0 := h.c0
  generalize hw : a / b = w at *
  generalize hp : ptR ws l = p at *
  have eT : (ptR (w :: ws) l) = (w * p.1 + p.2, p.1) := by simp [ptR, hp]
  have m1 : w * p.1 ≤ w * (d + b) := Int.mul_le_mul_of_nonneg_left t1 w0
  have m0 : 0 ≤ w * p.1 := Int.mul_nonneg w0 (by omega)
  rw [Int.mul_add] at m1
  have tl : w * p.1 + p.2 ≤ a + c := by omega
  refine ⟨?_, ?_, ?_, ?_, ?_, ?_, ?_, ?_, ?_, ?_⟩
  all_goals (try rw [eT])
  · show 0 < w * p.1 + p.2
    omega
  · exact t0
  · show Int.gcd (w * p.1 + p.2) p.1 = 1
    have e : w * p.1 + p.2 = p.2 + w * p.1 := Int.add_comm _ _
    rw [e, Int.gcd_comm, Int.gcd_add_mul_right_right]
    exact co
  · show a * p.1 ≤ (w * p.1 + p.2) * b
    rw [Int.mul_sub] at hi
    rw [Int.add_mul]
    have e1 : p.1 * (w * b) = w * p.1 * b := by ac_rfl
    have e2 : p.1 * a = a * p.1 := Int.mul_comm _ _
    have e3 : b * p.2 = p.2 * b := Int.mul_comm _ _
    omega
  · intro z
    have hi := hiS z
    show a * p.1 < (w * p.1 + p.2) * b
    rw [Int.mul_sub] at hi
    rw [Int.add_mul]
    have e1 : p.1 * (w * b) = w * p.1 * b := by ac_rfl
    have e2 : p.1 * a = a * p.1 := Int.mul_comm _ _
    have e3 : b * p.2 = p.2 * b := Int.mul_comm _ _
    omega
  · show (w * p.1 + p.2) * d ≤ c * p.1
    rw [Int.mul_sub] at lo
    rw [Int.add_mul]
    have e1 : p.1 * (w * d) = w * p.1 * d := by ac_rfl
    have e2 : p.1 * c = c * p.1 := Int.mul_comm _ _
    have e3 : d * p.2 = p.2 * d := Int.mul_comm _ _
    omega
  · intro z
    have lo := loS z
    show (w * p.1 + p.2) * d < c * p.1
    rw [Int.mul_sub] at lo
    rw [Int.add_mul]
    have e1 : p.1 * (w * d) = w * p.1 * d := by ac_rfl
    have e2 : p.1 * c = c * p.1 := Int.mul_comm _ _
    have e3 : d * p.2 = p.2 * d := Int.mul_comm _ _
    omega
  · exact tl
  · show p.1 ≤ b + d
    omega
  · have pw : (2 : Nat) ^ (K + 1) = 2 * 2 ^ K := by rw [Nat.pow_succ]; omega
    unfold Bt at ha hc
    refine ⟨by unfold Bt; omega, sz, ?_⟩
    rw [eT]
    show (w * p.1 + p.2).natAbs < _
    omega
end DL
set_option exponentiation.threshold 5000
namespace DL
open PySem PySem.Spec PyProof.Rows L2 RT
structure Btw (K : Nat) (lo : Option Qn) (i : Bool) (hi : Option Qn) (j : Bool) (v : Qn) : Prop where
  low : Low v
  sz : Sz (K + 1) v
  lo : ∀ q, lo = some q → q.1 * v.2 ≤ v.1 * q.2 ∧ (i = false → q.1 * v.2 < v.1 * q.2)
  hi : ∀ r, hi = some r → v.1 * r.2 ≤ r.1 * v.2 ∧ (j = false → v.1 * r.2 < r.1 * v.2)
def hc : Option Qn → Int
  | none => 1
  | some q => q.1
def hb : Option Qn → Int
  | none => 0
  | some q => q.2
end DL
set_option exponentiation.threshold 5000
namespace DL
open PySem PySem.Spec PyProof.Rows L2 RT
def lowO (o : Option Qn) : Prop := ∀ b, o = some b → Low b
structure LimLow (s : Lims) : Prop where
  lo : lowO s.lo
  hi : lowO s.hi
section
variable {rows : List Rw} (Z : Rz rows) {L : List Str} {c b δ : Nat} (B : Bnd L c b δ) {x : Str} (hx : x ∈ L) {pt : List Pt} {m : Nat} (hpt : ∀ p ∈ pt, Sz m p.2) (hm : m ≤ 1000) (nox : look pt x = (0, 1))
include Z B hx hpt hm nox
end
end DL
set_option exponentiation.threshold 5000
namespace DL
open PySem PySem.Spec PyProof.Rows L2 RT
structure Src (ps : List Pt) (b : Qn) : Prop where
  nd : (ps.map (·.1)).Nodup
  k : ∃ k : Int, 0 < k ∧ k ≤ 2 ∧ ∀ p ∈ ps, ∃ t : Int, t.natAbs ≤ 3 ∧ p.2 = nrm t k
  b : ∃ k t : Int, 0 < k ∧ k ≤ 2 ∧ t.natAbs ≤ 5 ∧ b = nrm t k
structure Tiny (r : Rw) : Prop where
  ps : ∀ p ∈ r.1, p.2.1.natAbs ≤ 3
  b1 : r.2.2.1.natAbs ≤ 10
  b2 : r.2.2.2.natAbs ≤ 6
theorem low_le {v : Qn} (h : Low v) {a b : Int} (hb : 0 < b) (e : rv v = (a : Rat) / (b : Rat)) : v.1.natAbs ≤ a.natAbs ∧ v.2.natAbs ≤ b.natAbs := by
  have ev : v = nrm a b := rv_ext h (low_nrm (by omega)) (by rw [e, rv_nrm (by omega)])
  have c := nrm_cross (t := a) (b := b) (by omega)
  have L := low_nrm (t := a) (b := b) (by omega)
  rw [← ev] at c L
  have n : v.1.natAbs * b.natAbs = a.natAbs * v.2.natAbs := by rw [← Int.natAbs_mul, ← Int.natAbs_mul, c]
  have L2 : Nat.Coprime v.1.natAbs v.2.natAbs := L.co
  have vp := L.pos
  have d1 : v.2.natAbs ∣ b.natAbs := by
    have : v.2.natAbs ∣ v.1.natAbs * b.natAbs := ⟨a.natAbs, by rw [n, Nat.mul_comm]⟩
    exact Nat.Coprime.dvd_of_dvd_mul_left L2.symm this
  obtain ⟨m, hm⟩ := d1
  have m0 : 0 < m := by
    rcases Nat.eq_zero_or_pos m with z | z
    · rw [z, Nat.mul_zero] at hm; omega
    · exact z
  refine ⟨?_, Nat.le_of_dvd (by omega) ⟨m, hm⟩⟩
  have e2 : v.1.natAbs * m = a.natAbs := by
    have : v.2.natAbs * (v.1.natAbs * m) = v.2.natAbs * a.natAbs := by
      calc v.2.natAbs * (v.1.natAbs * m) = v.1.natAbs * (v.2.natAbs * m) := by ac_rfl
        _ = v.1.natAbs * b.natAbs := by rw [hm]
        _ = a.natAbs * v.2.natAbs := n
        _ = v.2.natAbs * a.natAbs := Nat.mul_comm _ _
    exact Nat.eq_of_mul_eq_mul_left (by omega) this
  rw [← e2]
  exact Nat.le_mul_of_pos_right _ m0
theorem getQ_none {kvs : List Pt} {x : Str} (h : x ∉ kvs.map (·.1)) : getQ kvs x = (0, 1) := by
  rcases getQ_mem (kvs := kvs) (x := x) with e | ⟨p, hp, e, _⟩
  · exact e
  · exact absurd (List.mem_map.mpr ⟨p, hp, e⟩) h
theorem putQ_new {kvs : List Pt} {x : Str} {v : Qn} (h : x ∉ kvs.map (·.1)) : putQ kvs x v = kvs ++ [(x, v)] := by
  unfold putQ
  have : (kvs.any fun kv => decide (kv.1 = x)) = false := by
    rw [List.any_eq_false]
    intro p hp z
    exact h (List.mem_map.mpr ⟨p, hp, by simpa using z⟩)
  rw [this]
  rfl
theorem q01_add {q : Qn} (h : Low q) : qadd (0, 1) q = q := by
  have hp := h.pos
  refine rv_ext (low_nrm (Int.mul_ne_zero (by decide) (by omega))) h ?_
  rw [rv_add (by omega) (by decide), rv01]
  grind
theorem sumQ_new : ∀ (ps kvs : List Pt), (∀ p ∈ ps, Low p.2) → ((kvs ++ ps).map (·.1)).Nodup → sumQ ps kvs = kvs ++ ps
  | [], kvs, _, _ => by simp [sumQ]
  | p :: ps, kvs, h, nd => by
    have np : p.1 ∉ kvs.map (·.1) := by
      intro z
      rw [List.map_append, List.map_cons] at nd
      have := (List.nodup_append.mp nd).2.2 p.1 z p.1 List.mem_cons_self
      exact this rfl
    have e : addQ kvs p = kvs ++ [p] := by
      unfold addQ
      rw [getQ_none np, q01_add (h p List.mem_cons_self), putQ_new np]
    have z := sumQ_new ps (kvs ++ [p]) (fun q hq => h q (List.mem_cons_of_mem _ hq)) (by rw [List.append_assoc]; exact nd)
    show sumQ ps (addQ kvs p) = _
    rw [e, z, List.append_assoc]
    rfl
theorem parts_sub {ps : List Pt} (h : ∀ p ∈ ps, Low p.2) (nd : (ps.map (·.1)).Nodup) : ∀ q ∈ partsM ps, ∃ p ∈ ps, q.2 = p.2 := by
  intro q hq
  have nz := partsM_nz q hq
  unfold partsM at hq
  rw [sumQ_new ps [] h (by simpa using nd)] at hq
  obtain ⟨h1, _⟩ := List.mem_filter.mp hq
  obtain ⟨x, hx, rfl⟩ := List.mem_map.mp h1
  rcases getQ_mem (kvs := [] ++ ps) (x := x) with e | ⟨p, hp, _, e⟩
  · rw [e] at nz; exact absurd rfl nz
  · exact ⟨p, by simpa using hp, e⟩
theorem sgn_le {v : Qn} (h : Low v) {a b : Int} (hb : 0 < b) (e : rv v = (a : Rat) / (b : Rat) ∨ rv v = -((a : Rat) / (b : Rat))) : v.1.natAbs ≤ a.natAbs ∧ v.2.natAbs ≤ b.natAbs := by
  rcases e with e | e
  · exact low_le h hb e
  · have := low_le h (a := -a) hb (by rw [e]; push_cast; grind)
    rwa [Int.natAbs_neg] at this
end DL
namespace DL
open PySem PySem.Spec PyProof.Rows L2 RT
end DL
set_option exponentiation.threshold 5000
namespace DL
open PySem PySem.Spec PyProof.Rows L2 RT
structure PtB (pt : List Pt) (q u : Nat) : Prop where
  nd : gND pt
  ex : ∃ D : Int, 0 < D ∧ D.natAbs ≤ 2 ^ u ∧ ∀ p ∈ pt, Fd D (2 ^ q) (rv p.2) ∧ Low p.2
  le : u ≤ q
theorem PtB.sz {pt : List Pt} {q u : Nat} (h : PtB pt q u) : ∀ p ∈ pt, Sz (q + 1) p.2 := fun p hp => by
  obtain ⟨D, a, b, c⟩ := h.ex
  have le := h.le
  exact (c p hp).2.sz a (c p hp).1 (pw1 _) (Nat.lt_of_le_of_lt b (Nat.lt_of_lt_of_le (pw1 _) (pwl (by omega))))
theorem gget_mem2 {ps : List Pt} {x : Str} : gget ps x = (0, 1) ∨ ∃ p ∈ ps, p.1 = x ∧ gget ps x = p.2 := by
  unfold gget
  cases e : ps.find? fun kv => decide (kv.1 = x) with
  | none => left; rfl
  | some p =>
    right
    exact ⟨p, List.mem_of_find?_eq_some e, by simpa using List.find?_some e, rfl⟩
theorem PtB.fd {pt : List Pt} {q u : Nat} (h : PtB pt q u) : ∃ D : Int, 0 < D ∧ D.natAbs ≤ 2 ^ u ∧ ∀ y, Fd D (2 ^ q) (ptF pt y) := by
  obtain ⟨D, a, b, c⟩ := h.ex
  refine ⟨D, a, b, fun y => ?_⟩
  unfold ptF
  rw [look_nd h.nd]
  rcases gget_mem2 (ps := pt) (x := y) with e | ⟨p, hp, _, e⟩
  · rw [e, rv01]; exact Fd.zero
  · rw [e]; exact (c p hp).1
theorem PtB.pos {pt : List Pt} {q u : Nat} (h : PtB pt q u) (y : Str) : 0 < (look pt y).2 := by
  obtain ⟨D, a, b, c⟩ := h.ex
  rw [look_nd h.nd]
  rcases gget_mem2 (ps := pt) (x := y) with e | ⟨p, hp, _, e⟩
  · rw [e]; decide
  · rw [e]; exact (c p hp).2.pos
def Lb (w : Nat) (d : Dr) : Prop := ∃ (t : Rat) (β : Int), t ≠ 0 ∧ 0 < β ∧ (∃ m : Int, t * rv d.1.2.2 * (β : Rat) = m) ∧ ∀ p ∈ d.1.1, ∃ n : Int, t * rv p.2 = n ∧ (β * n).natAbs ≤ 2 ^ w
section
variable {rows : List Rw} (Z : Rz rows) {L : List Str} {c b δ : Nat} (B : Bnd L c b δ) {x : Str} {pt : List Pt} {q u : Nat} (pb : PtB pt q u) (nox : look pt x = (0, 1))
include Z B pb nox
end
end DL
set_option exponentiation.threshold 5000
namespace DL
open PySem PySem.Spec PyProof.Rows L2 RT
inductive Full (rows : List Rw) (lw : Bool) : List Str → List Dr → List (List Dr) → Nat → Nat → Prop
  | done : Full rows lw [] [] [[]] 0 0
  | step {L : List Str} {c b δ w q u : Nat} {x : Str} {xs : List Str} {ds : List Dr} {ls : List (List Dr)} : Bnd L c b δ → x ∈ L → (∀ d ∈ ds, Ctx rows L c b δ d) → (∀ d ∈ ds, Lb w d) → (∀ d ∈ elimM ds x, Cl d) →
      (c + q + 4) * 4 + b + c ≤ 3000 → 2 * u + w + 1 ≤ 2 * q + b + c + 5 → w + u ≤ 3000 → (lw = true → w + u ≤ 136) → Full rows lw xs (cleanM (elimM ds x)) ls q u → Full rows lw (x :: xs) ds (ds :: ls) (2 * q + b + c + 5) (2 * u + w + 1)
end DL
set_option exponentiation.threshold 5000
namespace DL
open PySem PySem.Spec PyProof.Rows L2 RT
end DL
set_option exponentiation.threshold 5000
namespace DL
open PySem PySem.Spec PyProof.Rows L2 RT
def Mu (β : Int) (a M Bm : Nat) (d : Dr) : Prop := ∃ t : Rat, t ≠ 0 ∧ (∀ y, ∃ n : Int, n.natAbs ≤ a ∧ t * vs y d.1.1 = n) ∧ (∀ i, ∃ n : Int, n.natAbs ≤ M ∧ t * vs i d.2 = n) ∧ ∃ m : Int, m.natAbs ≤ Bm ∧ t * rv d.1.2.2 * (β : Rat) = m
theorem Mu.mono {β : Int} {a M Bm a' M' Bm' : Nat} {d : Dr} (h : Mu β a M Bm d) (h1 : a ≤ a') (h2 : M ≤ M') (h3 : Bm ≤ Bm') : Mu β a' M' Bm' d := by
  obtain ⟨t, t0, x, y, m, m1, m2⟩ := h
  exact ⟨t, t0, fun z => by obtain ⟨n, n1, n2⟩ := x z; exact ⟨n, Nat.le_trans n1 h1, n2⟩, fun z => by obtain ⟨n, n1, n2⟩ := y z; exact ⟨n, Nat.le_trans n1 h2, n2⟩, m, Nat.le_trans m1 h3, m2⟩
section
variable {rows : List Rw} {d1 d2 : Dr} {f1 f2 : Qn} (R : RwP rows) (h1 : Dv rows d1) (h2 : Dv rows d2) (m1 : May f1 d1) (m2 : May f2 d2)
include R h1 h2 m1 m2
end
def MuE (β : Int) (a M Bm : Nat) (d : Dr) : Prop := d.1.1 = [] ∨ Mu β a M Bm d
theorem MuE.mono {β : Int} {a M Bm a' M' Bm' : Nat} {d : Dr} (h : MuE β a M Bm d) (h1 : a ≤ a') (h2 : M ≤ M') (h3 : Bm ≤ Bm') : MuE β a' M' Bm' d := by
  rcases h with h | h
  · exact .inl h
  · exact .inr (h.mono h1 h2 h3)
def Two (β : Int) (a M B a' M' B' : Nat) (ds : List Dr) : Prop := ∃ v : Str → Rat, ∀ d ∈ ds, ((∃ ε : Rat, ∀ y, vs y d.1.1 = ε * v y) ∧ MuE β a' M' B' d) ∨ MuE β a M B d
theorem Two.all {β : Int} {a M B a' M' B' : Nat} {ds : List Dr} (h : Two β a M B a' M' B' ds) (h1 : a ≤ a') (h2 : M ≤ M') (h3 : B ≤ B') : ∀ d ∈ ds, MuE β a' M' B' d := by
  obtain ⟨d0, h⟩ := h
  intro d hd
  rcases h d hd with ⟨_, h⟩ | h
  · exact h
  · exact h.mono h1 h2 h3
end DL
set_option exponentiation.threshold 5000
namespace DL
open PySem PySem.Spec PyProof.Rows L2 RT
structure RowN (c b : Nat) (L : List Str) (r : Rw) : Prop where
  int : ∀ p ∈ r.1, p.2.2 = 1 ∧ p.2.1.natAbs ≤ 2 ^ c
  bd : r.2.2.1.natAbs ≤ 2 ^ b ∧ r.2.2.2.natAbs ≤ 2 ^ b
  nm : ∀ p ∈ r.1, p.1 ∈ L
  can : Can leS r.1
  nrm : normM r = r
  low : Low r.2.2
  sgn : Sgn r.2.1
theorem RowN.mono {c b c' b' : Nat} {L L' : List Str} {r : Rw} (h : RowN c b L r) (hc : c ≤ c') (hb : b ≤ b') (hL : ∀ x ∈ L, x ∈ L') : RowN c' b' L' r :=
  ⟨fun p hp => ⟨(h.int p hp).1, Nat.le_trans (h.int p hp).2 (pwl hc)⟩, ⟨Nat.le_trans h.bd.1 (pwl hb), Nat.le_trans h.bd.2 (pwl hb)⟩, fun p hp => hL _ (h.nm p hp), h.can, h.nrm, h.low, h.sgn⟩
theorem RowN.len {c b : Nat} {L : List Str} {r : Rw} (h : RowN c b L r) : r.1.length ≤ L.length := by
  have z := len_of_nd2 L (r.1.map fun p : Pt => p.1) h.can.nd (fun x hx => by
    obtain ⟨p, hp, rfl⟩ := List.mem_map.mp hx
    exact h.nm p hp)
  simpa using z
section
variable {rows : List Rw} {c b : Nat} {L : List Str} (h : ∀ r ∈ rows, RowN c b L r) (hc : c ≤ 20) (hb : b ≤ 26) (hL : L.length ≤ 4) (hl : rows.length ≤ 8)
include h hc hb hL hl
end
end DL
set_option exponentiation.threshold 5000
namespace DL
open PySem PySem.Spec PyProof.Rows L2 RT
structure Tell (rows : List Rw) (xs : List Str) (ds : List Dr) (ls : List (List Dr)) (Q U : Nat) : Prop where
  told : Told rows xs ds ls
  all : ∀ l ∈ ls, ∀ d ∈ l, Cl d ∧ trivB d = false
  last : ∃ pre dl, ls = pre ++ [dl] ∧ (∃ (L' : List Str) (c' b' δ' : Nat), ∀ d ∈ dl, Ctx rows L' c' b' δ' d) ∧ (∀ d ∈ dl, d.1.1 = [] → Pap 222 d.2) ∧ (∀ d ∈ dl, trivB d = false) ∧ (refM dl = none → ∃ q u, u ≤ q ∧ q ≤ Q ∧ u ≤ U ∧ Full rows true xs ds ls q u)
section
variable {rows : List Rw} (Z : Rz rows)
include Z
end
def MuR (β : Int) (a M B : Nat) (r : Rw) : Prop := ∃ T : Int, T ≠ 0 ∧ T.natAbs ≤ M ∧ (∀ p ∈ r.1, (T * p.2.1).natAbs ≤ a) ∧ ∃ m : Int, m.natAbs ≤ B ∧ (T : Rat) * rv r.2.2 * (β : Rat) = m
structure SysB (rows : List Rw) : Prop where
  row : ∀ r ∈ rows, RowN 11 18 L3 r
  two : ∃ v : Str → Rat, ∀ r ∈ rows, ((∃ ε : Rat, ∀ y, vs y r.1 = ε * v y) ∧ MuR 60 1080 1080 216720 r) ∨ MuR 60 3 3 700 r
  len : rows.length ≤ 8
end DL
set_option exponentiation.threshold 5000
namespace DL
open PySem PySem.Spec PyProof.Rows L2 RT
structure RefP (rows : List Rw) (P : List Pa) : Prop where
  can : Can (· ≤ · : Int → Int → Prop) P
  ix : ∀ p ∈ P, 0 ≤ p.1 ∧ p.1 < rows.length
  sg : ∀ p ∈ P, p.2.1 < 0 → (rwAt rows p.1).2.1 = "="
  int : ∀ p ∈ P, p.2.2 = 1 ∧ p.2.1.natAbs ≤ 2 ^ 1900
  parts : (totM rows P).1 = []
  no : holdsR (totM rows P).2.1 0 (rv (totM rows P).2.2) = false
end DL
set_option exponentiation.threshold 5000
namespace DL
open PySem PySem.Spec PyProof.Rows L2 RT
theorem insT_mem {x y : Str} {acc : List Str} : y ∈ insT x acc ↔ y = x ∨ y ∈ acc := by
  unfold insT
  by_cases h : x ∈ acc
  · rw [if_pos h]
    constructor
    · exact .inr
    · rintro (rfl | h2)
      · exact h
      · exact h2
  · rw [if_neg h, List.mem_cons]
theorem nmP_mem {y : Str} : ∀ {ps : List Pt} {acc : List Str}, y ∈ nmP ps acc ↔ (∃ p ∈ ps, p.1 = y) ∨ y ∈ acc
  | [], acc => by simp [nmP]
  | p :: ps, acc => by
    have z := nmP_mem (y := y) (ps := ps) (acc := insT p.1 acc)
    show y ∈ nmP ps (insT p.1 acc) ↔ _
    rw [z, insT_mem]
    constructor
    · rintro (⟨q, hq, e⟩ | rfl | h)
      · exact .inl ⟨q, List.mem_cons_of_mem _ hq, e⟩
      · exact .inl ⟨p, List.mem_cons_self, rfl⟩
      · exact .inr h
    · rintro (⟨q, hq, e⟩ | h)
      · rcases List.mem_cons.mp hq with rfl | hq
        · exact .inr (.inl e.symm)
        · exact .inl ⟨q, hq, e⟩
      · exact .inr (.inr h)
theorem nmR_mem {y : Str} : ∀ {rows : List Rw} {acc : List Str}, y ∈ nmR rows acc ↔ (∃ r ∈ rows, ∃ p ∈ r.1, p.1 = y) ∨ y ∈ acc
  | [], acc => by simp [nmR]
  | r :: rows, acc => by
    have z := nmR_mem (y := y) (rows := rows) (acc := nmP r.1 acc)
    show y ∈ nmR rows (nmP r.1 acc) ↔ _
    rw [z, nmP_mem]
    constructor
    · rintro (⟨q, hq, e⟩ | h | h)
      · exact .inl ⟨q, List.mem_cons_of_mem _ hq, e⟩
      · exact .inl ⟨r, List.mem_cons_self, h⟩
      · exact .inr h
    · rintro (⟨q, hq, e⟩ | h)
      · rcases List.mem_cons.mp hq with rfl | hq
        · exact .inr (.inl e)
        · exact .inl ⟨q, hq, e⟩
      · exact .inr (.inr h)
theorem na_nmR : ∀ (rows : List Rw) {acc : List Str}, NA acc → (∀ r ∈ rows, ∀ p ∈ r.1, Nam p.1) → NA (nmR rows acc)
  | [], _, h, _ => h
  | r :: rows, _, h, hp => na_nmR rows (NA.nmP r.1 h (hp r List.mem_cons_self)) fun x hx => hp x (List.mem_cons_of_mem _ hx)
def holdsF (f : Str → Rat) (r : Rw) : Bool := holdsR r.2.1 (lin f r.1) (rv r.2.2)
theorem PtB.perm {pt pt' : List Pt} {q u : Nat} (h : PtB pt q u) (p : pt'.Perm pt) : PtB pt' q u := by
  obtain ⟨D, a, b, c⟩ := h.ex
  exact ⟨(p.map _).nodup_iff.mpr h.nd, ⟨D, a, b, fun x hx => c x (p.mem_iff.mp hx)⟩, h.le⟩
def namesOf (rows : List Rw) : List Str := sortS (nmR rows [])
structure PtO (rows : List Rw) (pt : List Pt) : Prop where
  bd : PtB pt 305 200
  nm : ∀ p ∈ pt, p.1 ∈ namesOf rows
  hold : ∀ r ∈ rows, holdsF (ptF pt) r = true
structure SolvD (rows : List Rw) (ls : List (List Dr)) (pre : List (List Dr)) (dl : List Dr) : Prop where
  told : Told rows (namesOf rows) (cleanM (begM rows)) ls
  all : ∀ l ∈ ls, ∀ d ∈ l, Cl d ∧ trivB d = false
  eq : ls = pre ++ [dl]
  ctx : ∃ (L' : List Str) (c' b' δ' : Nat), ∀ d ∈ dl, Ctx rows L' c' b' δ' d
  pap : ∀ d ∈ dl, d.1.1 = [] → Pap 222 d.2
  nt : ∀ d ∈ dl, trivB d = false
theorem L3_nam {x : Str} (h : x ∈ L3) : Nam x := by
  simp [L3] at h
  unfold Nam
  simp [h]
end DL
namespace DL
open PySem PySem.Spec PyProof.Rows L2 RT
def notW (F : Rho → Res PyData) : Rho → Res PyData := fun ρ => (truF F ρ).bind fun b ρ => .ok (.bool (!b)) ρ
section
variable {X : L2.Cx} {B : Bx} {W : WX} {pos : Pos} {a : Expr} {F : Rho → Res PyData}
end
end DL
namespace DL
open PySem PySem.Spec PyProof.Rows L2 RT
noncomputable def PG.S_refutes : Rho → Out := (seqS (ifS (notT (truF (callF PG.m_is_paper (consA (varF 0) (consA (varF 1) nilA))))) (retS (cF (.bool false))) nxS) (seqS (asgS (callF PG.m_sum_of (consA (varF 0) (consA (varF 1) nilA))) (nameT 2)) (retS (andV (notW (binF dIx (varF 2) (cF (.int 0)))) (notV (callF PG.m_holds (consA (varF 2) (consA (tupF nilA) nilA))))))))
noncomputable def PG.B_refutes (a0 a1 : PyData) : FR := outFR (PG.S_refutes [.d a0, .d a1, .un])
noncomputable def PG.S_is_point : Rho → Out := (retS (appF (app1 bAll) (consA (lcF [2] (itemsQ (varF 0)) (nameT 2) yesT (callF PG.m_holds (consA (varF 2) (consA (varF 1) nilA)))) nilA)))
noncomputable def PG.B_is_point (a0 a1 : PyData) : FR := outFR (PG.S_is_point [.d a0, .d a1, .un])
end DL
set_option exponentiation.threshold 5000
namespace DL
open PySem PySem.Spec PyProof.Rows L2 RT
theorem tot_lin {rows : List Rw} (R : RwP rows) (f : Str → Rat) {pa : List Pa} (hp : ∀ p ∈ pa, 0 < p.2.2) : lin f (totM rows pa).1 = lin (fun i => lin f (rwAt rows i).1) pa := by
  have e : lin f (totM rows pa).1 = lin f (accP rows pa) := gparts_lin srtS f (accP_pos R hp)
  rw [e]
  clear e
  induction pa with
  | nil => rfl
  | cons p pa ih =>
    have e1 : accP rows (p :: pa) = (scaleM (rwAt rows p.1) p.2).1 ++ accP rows pa := by simp [accP]
    have p0 := hp p List.mem_cons_self
    have e2 : lin f (scaleM (rwAt rows p.1) p.2).1 = lin f (rwAt rows p.1).1 * rv p.2 := lin_scale f p0 _ (R p.1).1
    rw [e1, lin_app, ih fun q hq => hp q (List.mem_cons_of_mem _ hq), e2]
    simp only [lin]
    grind
theorem hold_sum {a b : Int → Rat} {s : Int → Str} (hs : ∀ i, Sgn (s i)) : ∀ {pa : List Pa}, (∀ p ∈ pa, rv p.2 ≠ 0 ∧ (rv p.2 < 0 → s p.1 = "=") ∧ holdsR (s p.1) (a p.1) (b p.1) = true) →
    lin a pa ≤ lin b pa ∧ (("<" : Str) ∈ pa.map (fun p => s p.1) → lin a pa < lin b pa) ∧ (("<" : Str) ∉ pa.map (fun p => s p.1) → ("<=" : Str) ∉ pa.map (fun p => s p.1) → lin a pa = lin b pa)
  | [], _ => ⟨by simp only [lin]; grind, fun h => by simp at h, fun _ _ => rfl⟩
  | p :: pa, h => by
    obtain ⟨i1, i2, i3⟩ := hold_sum hs (pa := pa) fun q hq => h q (List.mem_cons_of_mem _ hq)
    obtain ⟨n0, ng, hd⟩ := h p List.mem_cons_self
    simp only [lin, List.map_cons, List.mem_cons]
    have lt_ne : ¬ ("<" : Str) = "=" := by decide
    have le_ne : ¬ ("<=" : Str) = "=" := by decide
    have lt_le : ¬ ("<" : Str) = "<=" := by decide
    have le_lt : ¬ ("<=" : Str) = "<" := by decide
    generalize lin a pa = A at *
    generalize lin b pa = B at *
    generalize rv p.2 = m at *
    generalize a p.1 = x at *
    generalize b p.1 = y at *
    rcases hs p.1 with e | e | e
    · rw [e] at hd ng ⊢
      rw [holdsR_le] at hd
      have mp : 0 < m := by
        apply Classical.byContradiction
        intro z
        exact le_ne (ng (by grind))
      have k : 0 ≤ m * (y - x) := Rat.mul_nonneg (by grind) (by grind)
      refine ⟨by grind, fun z => ?_, fun z w => ?_⟩
      · rcases z with z | z
        · exact absurd z lt_le
        · have := i2 z; grind
      · exact absurd (.inl rfl) w
    · rw [e] at hd ng ⊢
      rw [holdsR_lt] at hd
      have mp : 0 < m := by
        apply Classical.byContradiction
        intro z
        exact lt_ne (ng (by grind))
      have k : 0 < m * (y - x) := Rat.mul_pos mp (by grind)
      exact ⟨by grind, fun _ => by grind, fun z => absurd (.inl rfl) z⟩
    · rw [e] at hd ng ⊢
      rw [holdsR_eq] at hd
      subst hd
      refine ⟨by grind, fun z => ?_, fun z w => ?_⟩
      · rcases z with z | z
        · exact absurd z lt_ne
        · have := i2 z; grind
      · have := i3 (fun q => z (.inr q)) (fun q => w (.inr q))
        grind
theorem tot_holdsF {rows : List Rw} (Z : Rz rows) {f : Str → Rat} (h : ∀ r ∈ rows, holdsF f r = true) {P : List Pa} (can : Can (· ≤ · : Int → Int → Prop) P) (ix : ∀ p ∈ P, 0 ≤ p.1 ∧ p.1 < rows.length) (sg : ∀ p ∈ P, p.2.1 < 0 → (rwAt rows p.1).2.1 = "=") : holdsF f (totM rows P) = true := by
  have pos := can_pos can
  obtain ⟨h1, h2, h3⟩ := hold_sum (a := fun i => lin f (rwAt rows i).1) (b := fun i => rv (rwAt rows i).2.2) Z.sgn (pa := P) fun p hp => by
    have p0 := pos p hp
    obtain ⟨_, nz⟩ := can.low p hp
    refine ⟨fun z => nz ((rv_nz p0).mpr z), fun z => sg p hp ?_, ?_⟩
    · have := (rv_lt (p := p.2) (q := (0, 1)) p0 (by decide)).mp (by rw [rv01]; exact z)
      have h3 : p.2.1 * 1 < 0 * p.2.2 := this
      omega
    · rcases rwAt_cases rows p.1 with e | e
      · exact h _ e
      · rw [e]
        show holdsR "=" 0 (rv (0, 1)) = true
        rw [rv01, holdsR_eq]
  rw [← tot_lin Z.rwp f pos, ← tot_bd Z.rwp pos] at h1 h2 h3
  unfold holdsF
  show holdsR (sgnOf (sigs rows P)) _ _ = true
  have es : sigs rows P = P.map fun p => (rwAt rows p.1).2.1 := rfl
  rw [← es] at h2 h3
  unfold sgnOf
  by_cases c1 : ("<" : Str) ∈ sigs rows P
  · rw [if_pos c1, holdsR_lt]; exact h2 c1
  · rw [if_neg c1]
    by_cases c2 : ("<=" : Str) ∈ sigs rows P
    · rw [if_pos c2, holdsR_le]; exact h1
    · rw [if_neg c2, holdsR_eq]; exact h3 c1 c2
theorem RefP.none {rows : List Rw} (Z : Rz rows) {P : List Pa} (R : RefP rows P) {f : Str → Rat} (h : ∀ r ∈ rows, holdsF f r = true) : False := by
  have t := tot_holdsF Z h R.can R.ix R.sg
  unfold holdsF at t
  rw [R.parts] at t
  have n := R.no
  simp only [lin] at t
  rw [n] at t
  cases t
theorem RefP.pap {rows : List Rw} {P : List Pa} (R : RefP rows P) : Pap 1900 P := ⟨1, by decide, by simp, fun p hp => by
  obtain ⟨a, b⟩ := R.int p hp
  exact ⟨p.2.1, b, by unfold rv; rw [a]⟩⟩
theorem boolsD_mp (bs : List Bool) : boolsD (bs.map PyData.bool) = some bs := by
  induction bs with
  | nil => rfl
  | cons b r ih => rw [List.map_cons]; simp [boolsD, ih]
theorem sum_linP {pt : List Pt} : ∀ ps : List Pt, sumR (look pt) ps = lin (ptF pt) ps
  | [] => rfl
  | p :: ps => by
    have z := sum_linP (pt := pt) ps
    simp only [sumR, lin, z]
    rfl
theorem pg_holdsF {r : Rw} {pt : List Pt} {m : Nat} (hpt : ∀ p ∈ pt, Sz m p.2) (h : SzR 150 r) (hs : Sgn r.2.1) (hl : r.1.length ≤ 4) (hm : m ≤ 700) (ps : ∀ p ∈ r.1, 0 < p.2.2) (pl : ∀ y, 0 < (look pt y).2) : PG.m_holds [rD r, psD pt] = .ok (.bool (holdsF (ptF pt) r)) := by
  have e := pg_holds hpt h hs (by decide) (by omega) (by
    have : (150 + (m + 1) + 1) * r.1.length ≤ (150 + (m + 1) + 1) * 4 := Nat.mul_le_mul_left _ hl
    omega)
  rw [rv_at pl r.1 (0, 1) ps (by decide), rv01, sum_linP] at e
  have : (0 : Rat) + lin (ptF pt) r.1 = lin (ptF pt) r.1 := by grind
  rw [this] at e
  exact e
end DL
set_option exponentiation.threshold 5000
namespace DL
open PySem PySem.Spec PyProof.Rows L2 RT
structure PapN (P : List Pa) : Prop where
  fd : ∃ D : Int, 0 < D ∧ D.natAbs ≤ 2 ^ 1910 ∧ ∀ p ∈ P, Fd D (2 ^ 1910) (rv p.2)
  sz : ∀ p ∈ P, Sz 2000 p.2
  len : P.length ≤ 8
theorem PapN.pos {P : List Pa} (h : PapN P) : ∀ p ∈ P, 0 < p.2.2 := fun p hp => (h.sz p hp).pos
section
variable {rows : List Rw} (Z : Rz rows) {P : List Pa} (hN : PapN P)
include Z hN
end
end DL
set_option exponentiation.threshold 5000
namespace DL
open PySem PySem.Spec PyProof.Rows L2 RT
section
variable {rows : List Rw} (Z : Rz rows) (hm : ∀ r ∈ rows, ∀ p ∈ r.1, PySem.PyData.strOk p.1 = true) {P : List Pa} (hN : PapN P) {r : Rw} (rn : ∀ p ∈ r.1, PySem.PyData.strOk p.1 = true) (rs : Sgn r.2.1) (rb : Sz 4000 r.2.2) (rl : Low r.2.2)
include Z hm hN rn rs rb rl
end
end DL
set_option exponentiation.threshold 5000
namespace DL
open PySem PySem.Spec PyProof.Rows L2 RT
end DL
set_option exponentiation.threshold 5000
namespace DL
open PySem PySem.Spec PyProof.Rows L2 RT
inductive Sol (rows : List Rw) : PyData → Prop
  | paper {P : List Pa} : RefP rows P → Sol rows (.tuple [.str "paper", .tuple (P.map aD)])
  | point {pt : List Pt} : PtO rows pt → Sol rows (.tuple [.str "point", psD pt])
end DL
namespace DL
open PySem PySem.Spec PyProof.Rows L2 RT
section
variable {X : L2.Cx} {B : Bx} {W : WX} {pos : Pos} {e : Expr} {F : Rho → Res PyData}
end
end DL
set_option exponentiation.threshold 5000
namespace DL
open PySem PySem.Spec PyProof.Rows L2 RT
end DL
namespace DL
open PySem PySem.Spec PyProof.Rows L2 RT
noncomputable def PG.L__point_outside_1 : Rho → Out := (seqS (asgS (callF PG.m_solve (consA (binF dAdd (varF 0) (lstF (consA (varF 3) nilA))) nilA)) (tupT 2 (consTs (nameT 4) (consTs (nameT 5) nilTs)))) (ifS (testF (binF dEq (varF 4) (cF (.str "point")))) (retS (varF 5)) nxS))
noncomputable def PG.L__point_outside_2 : Rho → Out := (forS (itemsQ (callF PG.m_opposites (consA (varF 2) nilA))) (nameT 3) PG.L__point_outside_1)
noncomputable def PG.S__point_outside : Rho → Out := (seqS (forS (itemsQ (varF 1)) (nameT 2) PG.L__point_outside_2) (retS (cF (.none))))
noncomputable def PG.B__point_outside (a0 a1 : PyData) : FR := outFR (PG.S__point_outside [.d a0, .d a1, .un, .un, .un, .un])
noncomputable def PG.m__point_outside : Fn := fn2 PG.B__point_outside
noncomputable def PG.S_telling_point : Rho → Out := (seqS (asgS (callF PG.m__point_outside (consA (varF 0) (consA (varF 1) nilA))) (nameT 2)) (seqS (ifS (testF (binF dNotN2 (varF 2) (cF (.none)))) (retS (varF 2)) nxS) (retS (callF PG.m__point_outside (consA (varF 1) (consA (varF 0) nilA))))))
noncomputable def PG.B_telling_point (a0 a1 : PyData) : FR := outFR (PG.S_telling_point [.d a0, .d a1, .un])
noncomputable def PG.m_telling_point : Fn := fn2 PG.B_telling_point
noncomputable def PG.S_are_alike : Rho → Out := (retS (binF dIsN2 (callF PG.m_telling_point (consA (varF 0) (consA (varF 1) nilA))) (cF (.none))))
noncomputable def PG.B_are_alike (a0 a1 : PyData) : FR := outFR (PG.S_are_alike [.d a0, .d a1])
noncomputable def LH.L_first_1 : Rho → Out := (seqS (asgS (callF LH.m_solved (consA (binF dAdd (varF 0) (lstF (consA (varF 3) nilA))) nilA)) (tupT 2 (consTs (nameT 4) (consTs (nameT 5) nilTs)))) (ifS (testF (binF dEq (varF 4) (cF (.str "point")))) (retS (varF 5)) nxS))
noncomputable def PG.S__paper_of : Rho → Out := (seqS (asgS (callF PG.m_solve (consA (binF dAdd (varF 0) (callF PG.m_opposites (consA (varF 1) nilA))) nilA)) (tupT 2 (consTs (nameT 2) (consTs (nameT 3) nilTs)))) (seqS (ifS (testF (binF dEq (varF 2) (cF (.str "point")))) (retS (cF (.none))) nxS) (retS (callF PG.m_multiplied (consA (cutF (varF 3) noP (someP (unF dNeg (cF (.int 1))))) (consA (callF PG.m_over (consA (cF (.tuple [.int 1, .int 1])) (consA (binF dIx (binF dIx (varF 3) (unF dNeg (cF (.int 1)))) (cF (.int 1))) nilA))) nilA))))))
noncomputable def PG.B__paper_of (a0 a1 : PyData) : FR := outFR (PG.S__paper_of [.d a0, .d a1, .un, .un])
noncomputable def LH.S_made : Rho → Out := (seqS (asgS (callF PG.m_solve (consA (binF dAdd (varF 0) (lstF (consA (binF dIx (callF PG.m_opposites (consA (varF 1) nilA)) (cF (.int 0))) nilA))) nilA)) (tupT 2 (consTs (nameT 2) (consTs (nameT 3) nilTs)))) (seqS (ifS (testF (binF dEq (varF 2) (cF (.str "point")))) (retS (cF (.none))) nxS) (seqS (asgS (binF dIx (lcF [5, 6] (itemsQ (varF 3)) (tupT 2 (consTs (nameT 5) (consTs (nameT 6) nilTs))) (testF (binF dEq (varF 5) (appF (app1 bLen) (consA (varF 0) nilA)))) (varF 6)) (cF (.int 0))) (nameT 4)) (retS (appF (app1 bTuple) (consA (lcF [5, 6] (itemsQ (varF 3)) (tupT 2 (consTs (nameT 5) (consTs (nameT 6) nilTs))) (testF (binF dLt (varF 5) (appF (app1 bLen) (consA (varF 0) nilA)))) (tupF (consA (varF 5) (consA (callF LH.m_div (consA (varF 6) (consA (varF 4) nilA))) nilA)))) nilA))))))
noncomputable def LH.B_made (a0 a1 : PyData) : FR := outFR (LH.S_made [.d a0, .d a1, .un, .un, .un, .un, .un])
end DL
set_option exponentiation.threshold 5000
namespace DL
open PySem PySem.Spec PyProof.Rows L2 RT
section
variable {r : Rw} (G : GoodR r)
include G
theorem pg_oppositesG : PG.B_opposites (rD r) = .ok (.list ((oppM r).map rD)) := by
  have r1 : PG.m_row [psD r.1, .str "<", .tuple [.int r.2.2.1, .int r.2.2.2]] = .ok (rD (undM r)) := pg_rowc0 PyData.tuple (.inr rfl) G.sz.ps G.sz.bd G.low.bd G.len (.inr (.inl rfl))
  have r2 : PG.m_row [psD r.1, .str ">", .tuple [.int r.2.2.1, .int r.2.2.2]] = .ok (rD (aboM r)) := pg_rowc1 PyData.tuple (.inr rfl) G.sz.ps G.sz.bd G.low.bd G.len (.inr ⟨rfl, rfl⟩)
  have r3 : PG.m_row [psD r.1, .str ">=", .tuple [.int r.2.2.1, .int r.2.2.2]] = .ok (rD (aboE r)) := pg_rowc1 PyData.tuple (.inr rfl) G.sz.ps G.sz.bd G.low.bd G.len (.inl ⟨rfl, rfl⟩)
  have a1 : (("<=" : Str) == "<=") = true := by decide
  have a2 : (("<" : Str) == "<=") = false := by decide
  have a3 : (("=" : Str) == "<=") = false := by decide
  have a4 : (("=" : Str) == "<") = false := by decide
  have a5 : ("<=" : Str) ≠ "=" := by decide
  have a6 : ("<" : Str) ≠ "=" := by decide
  have a7 : ("<" : Str) ≠ "<=" := by decide
  unfold oppM
  rcases G.sg with hs | hs | hs
  · simp [PG.B_opposites, PG.S_opposites, hs, dEq_s ok_le ok_le, a1, a5, r2]
  · simp [PG.B_opposites, PG.S_opposites, hs, dEq_s ok_lt ok_le, dEq_s ok_lt ok_lt, a2, a6, a7, r3]
  · simp [PG.B_opposites, PG.S_opposites, hs, dEq_s ok_eq ok_le, dEq_s ok_eq ok_lt, a3, a4, r1, r2]
end
structure MidA (a B : Nat) (r : Rw) : Prop where
  row : RowN 11 18 L3 r
  mul : MuR 60 a a B r
theorem rowN_good {r : Rw} (R : RowN 11 18 L3 r) : GoodR r := by
  have can := R.can
  refine ⟨⟨fun p hp => ?_, ⟨R.low.pos, ?_, ?_⟩⟩, ⟨fun p hp => can.low p hp, R.low⟩, R.sgn, R.len, r, ⟨fun p hp => ⟨(can.low p hp).1.pos, (can.low p hp).2⟩, R.low.pos⟩, R.nrm.symm, rfl⟩
  · obtain ⟨a, b⟩ := R.int p hp
    exact ⟨by rw [a]; decide, Nat.lt_of_le_of_lt b (Nat.lt_of_lt_of_le (pw1 _) (pwl (by decide))), by rw [a]; exact Nat.lt_of_lt_of_le (show 1 < 2 ^ 1 by decide) (pwl (by decide))⟩
  · exact Nat.lt_of_le_of_lt R.bd.1 (Nat.lt_of_lt_of_le (pw1 _) (pwl (by decide)))
  · exact Nat.lt_of_le_of_lt R.bd.2 (Nat.lt_of_lt_of_le (pw1 _) (pwl (by decide)))
theorem MidA.good {a B : Nat} {r : Rw} (h : MidA a B r) : GoodR r := rowN_good h.row
theorem row_empty {r : Rw} (P : PosR r) (lr : LowR r) (nr : normM r = r) (hne : r.1 = []) : r.2.2.1.natAbs ≤ 1 ∧ r.2.2.2 = 1 := by
  have f1 := fac_one P lr nr
  obtain ⟨S, _, _, _, q4⟩ := fac_none P lr.bd hne (K := r.2.2.2) P.bd (Fd.of r.2.2)
  rw [f1, rv11] at q4
  have e : rv r.2.2 * 1 = rv r.2.2 := by grind
  rw [e] at q4
  obtain ⟨u1, u2⟩ := lr.bd.fd (by decide) q4
  have : (1 : Int).natAbs = 1 := rfl
  have := P.bd
  exact ⟨by omega, by omega⟩
theorem can_flipS {ps : List Pt} (c : Can leS ps) : Can leS (flipM ps) := by
  have := can_scale (le := leS) (ps := ps) (c := (-1, 1)) (by decide) (by decide) c
  have e : flipM ps = ps.map fun p => (p.1, qmul p.2 (-1, 1)) := by
    unfold flipM
    apply List.map_congr_left
    intro p hp
    have l := (c.low p hp).1
    have p0 := l.pos
    have : qsub (0, 1) p.2 = qmul p.2 (-1, 1) := rv_ext (low_nrm (by show 1 * p.2.2 ≠ 0; omega)) (low_nrm (by show p.2.2 * 1 ≠ 0; omega)) (by rw [rv_sub (by omega) (by decide), rv_mul (by decide) (by omega), rv01, rvm1]; grind)
    rw [this]
  rw [e]
  exact this
theorem parts_canS {ps : List Pt} (c : Can leS ps) : partsM ps = ps := by
  have pos := can_pos c
  exact can_ext srtS (gparts_can srtS pos) c fun x => gparts_vs srtS pos x
theorem opp_len (r : Rw) : (oppM r).length ≤ 2 := by
  unfold oppM
  split
  · simp
  · split <;> simp
structure TotT (X : Rw) : Prop where
  pos : PosR X
  can : Can leS X.1
  low : Low X.2.2
  sg : Sgn X.2.1
  nm : ∀ p ∈ X.1, p.1 ∈ L3
  xs : ∀ y, ∃ n : Int, n.natAbs ≤ 1080 ∧ (12 : Rat) * vs y X.1 = n
  bs : ∃ m : Int, m.natAbs ≤ 216000 ∧ (12 : Rat) * rv X.2.2 * 60 = m
theorem TotT.len {X : Rw} (h : TotT X) : X.1.length ≤ 3 := by
  have z := len_of_nd2 L3 (X.1.map fun p : Pt => p.1) h.can.nd (fun x hx => by
    obtain ⟨p, hp, rfl⟩ := List.mem_map.mp hx
    exact h.nm p hp)
  have e : L3.length = 3 := rfl
  rw [List.length_map] at z
  omega
end DL
set_option exponentiation.threshold 5000
namespace DL
open PySem PySem.Spec PyProof.Rows L2 RT
theorem hold_rowM {ps : List Pt} (c : Can leS ps) {b : Qn} (lb : Low b) {sg : Str} (hs : sg = "<=" ∨ sg = "<") (f : Str → Rat) : holdsF f (rowM ps sg b) = holdsR sg (lin f ps) (rv b) := by
  have PX : PosR (ps, sg, b) := ⟨fun p hp => ⟨(c.low p hp).1.pos, (c.low p hp).2⟩, lb.pos⟩
  obtain ⟨s0, s2⟩ := fac_low PX
  have ne : (sg == "=") = false := by rcases hs with rfl | rfl <;> decide
  have fp := fac_pos PX ne
  have bp := lb.pos
  have φ0 : 0 < rv (factorM (ps, sg, b)) := by
    have := (rv_lt (p := (0, 1)) (q := factorM (ps, sg, b)) (by decide) s2).mpr (by show 0 * _ < _ * 1; rw [Int.zero_mul, Int.mul_one]; exact fp)
    rwa [rv01] at this
  unfold rowM
  rw [parts_canS c]
  unfold holdsF
  have e1 : lin f (normM (ps, sg, b)).1 = lin f ps * rv (factorM (ps, sg, b)) := lin_scale f s2 _ (can_pos c)
  have e2 : rv (normM (ps, sg, b)).2.2 = rv b * rv (factorM (ps, sg, b)) := rv_mul (by omega) (by show b.2 ≠ 0; omega)
  have e3 : (normM (ps, sg, b)).2.1 = sg := rfl
  rw [e1, e2, e3]
  generalize rv (factorM (ps, sg, b)) = φ at *
  generalize lin f ps = x at *
  generalize rv b = y at *
  rw [Bool.eq_iff_iff]
  rcases hs with rfl | rfl
  · rw [holdsR_le, holdsR_le]
    constructor
    · intro h
      apply Classical.byContradiction
      intro z
      have : 0 < (x - y) * φ := Rat.mul_pos (by grind) φ0
      grind
    · intro h
      have : 0 ≤ (y - x) * φ := Rat.mul_nonneg (by grind) (by grind)
      grind
  · rw [holdsR_lt, holdsR_lt]
    constructor
    · intro h
      apply Classical.byContradiction
      intro z
      have : 0 ≤ (x - y) * φ := Rat.mul_nonneg (by grind) (by grind)
      grind
    · intro h
      have : 0 < (y - x) * φ := Rat.mul_pos (by grind) φ0
      grind
theorem lin_flipS {ps : List Pt} (h : ∀ p ∈ ps, 0 < p.2.2) (f : Str → Rat) : lin f (flipM ps) = -lin f ps := by
  induction ps with
  | nil => simp only [flipM, List.map_nil, lin]; grind
  | cons p ps ih =>
    have z := ih fun q hq => h q (List.mem_cons_of_mem _ hq)
    have p0 := h p List.mem_cons_self
    have e : flipM (p :: ps) = (p.1, qsub (0, 1) p.2) :: flipM ps := rfl
    rw [e]
    simp only [lin]
    rw [z, rv_sub (by omega) (by decide), rv01]
    grind
theorem opp_iff {r : Rw} (G : GoodR r) (c : Can leS r.1) (f : Str → Rat) : (∃ o ∈ oppM r, holdsF f o = true) ↔ holdsF f r = false := by
  have lb := G.low.bd
  have bp := lb.pos
  have pos := can_pos c
  have cf := can_flipS c
  have h1 : ∀ sg : Str, sg = "<=" ∨ sg = "<" → holdsF f (rowM r.1 sg r.2.2) = holdsR sg (lin f r.1) (rv r.2.2) := fun sg hs => hold_rowM c lb hs f
  have h2 : ∀ sg : Str, sg = "<=" ∨ sg = "<" → holdsF f (rowM (flipM r.1) sg (qsub (0, 1) r.2.2)) = holdsR sg (-lin f r.1) (-rv r.2.2) := fun sg hs => by
    rw [hold_rowM cf (neg_low lb) hs f, lin_flipS pos, rv_sub (by omega) (by decide), rv01]
    congr 1
    grind
  have hr : holdsF f r = holdsR r.2.1 (lin f r.1) (rv r.2.2) := rfl
  rw [hr]
  unfold oppM undM aboM aboE
  generalize lin f r.1 = x at *
  generalize rv r.2.2 = y at *
  rcases G.sg with e | e | e <;> rw [e]
  · rw [if_neg (by decide), if_pos rfl, ← Bool.not_eq_true, holdsR_le]
    constructor
    · rintro ⟨o, ho, h⟩
      rw [List.mem_singleton.mp ho, h2 _ (.inr rfl), holdsR_lt] at h
      grind
    · intro h
      exact ⟨_, List.mem_singleton.mpr rfl, by rw [h2 _ (.inr rfl), holdsR_lt]; grind⟩
  · rw [if_neg (by decide), if_neg (by decide), ← Bool.not_eq_true, holdsR_lt]
    constructor
    · rintro ⟨o, ho, h⟩
      rw [List.mem_singleton.mp ho, h2 _ (.inl rfl), holdsR_le] at h
      grind
    · intro h
      exact ⟨_, List.mem_singleton.mpr rfl, by rw [h2 _ (.inl rfl), holdsR_le]; grind⟩
  · rw [if_pos rfl, ← Bool.not_eq_true, holdsR_eq]
    constructor
    · rintro ⟨o, ho, h⟩
      rcases List.mem_cons.mp ho with rfl | ho
      · rw [h1 _ (.inr rfl), holdsR_lt] at h
        grind
      · rw [List.mem_singleton.mp ho, h2 _ (.inr rfl), holdsR_lt] at h
        grind
    · intro h
      by_cases z : x < y
      · exact ⟨_, List.mem_cons_self, by rw [h1 _ (.inr rfl), holdsR_lt]; exact z⟩
      · exact ⟨_, List.mem_cons_of_mem _ (List.mem_singleton.mpr rfl), by rw [h2 _ (.inr rfl), holdsR_lt]; grind⟩
section
variable {rows : List Rw} (l : rows.length ≤ 100)
include l
end
end DL
set_option exponentiation.threshold 5000
namespace DL
open PySem PySem.Spec PyProof.Rows L2 RT
end DL
set_option exponentiation.threshold 5000
namespace DL
open PySem PySem.Spec PyProof.Rows L2 RT
theorem prim_row {r : Rw} (P : PosR r) (lr : LowR r) (nr : normM r = r) (hne : r.1 ≠ []) : Prim 1 (r.1.map fun p => rv p.2) := by
  have f1 := fac_one P lr nr
  obtain ⟨p0, ps0, hps⟩ : ∃ p0 ps0, r.1 = p0 :: ps0 := by
    cases h : r.1 with
    | nil => exact absurd h hne
    | cons p0 ps0 => exact ⟨_, _, rfl⟩
  have fq : facQ r = p0.2 :: ps0.map (·.2) := by unfold facQ; rw [hps]; rfl
  obtain ⟨f, PP, E, _⟩ := fac_rv P fq (P.ps p0 (by rw [hps]; exact List.mem_cons_self)).2
  have fo : f = 1 := by
    have fp := PP.pos
    rw [f1, rv11] at E
    by_cases hb : (r.2.1 == "=" && decide (p0.2.1 < 0)) = true
    · rw [if_pos hb] at E; grind
    · rw [if_neg hb] at E; exact E.symm
  rw [fo] at PP
  have em : (p0.2 :: ps0.map (·.2)).map rv = r.1.map fun p => rv p.2 := by rw [hps]; simp [List.map_map, Function.comp_def]
  rw [em] at PP
  exact PP
theorem rowM_fix {ps : List Pt} (c : Can leS ps) {b : Qn} (lb : Low b) {sg : Str} (hs : (sg == "=") = false) (pr : ps ≠ [] → Prim 1 (ps.map fun p => rv p.2)) (emp : ps = [] → b.1.natAbs ≤ 1 ∧ b.2 = 1) : rowM ps sg b = (ps, sg, b) := by
  have PX : PosR (ps, sg, b) := ⟨fun p hp => ⟨(c.low p hp).1.pos, (c.low p hp).2⟩, lb.pos⟩
  have one : factorM (ps, sg, b) = (1, 1) := by
    cases ps with
    | nil =>
      obtain ⟨e1, e2⟩ := emp rfl
      by_cases h0 : b.1 = 0
      · simp [factorM, h0]
      · obtain ⟨f, P, E, L⟩ := fac_rv PX (q := b) (qs := []) rfl h0
        have ne : ((([], sg, b) : Rw).2.1 == "=" && decide (b.1 < 0)) = false := by
          show ((sg == "=") && _) = false
          rw [hs]; rfl
        rw [ne] at E
        simp only [Bool.false_eq_true, if_false] at E
        have h1 := prim_one1 (f := f) (x := rv b) P
        have fp := P.pos
        have hb : rv b = 1 ∨ rv b = -1 := by
          have : b.1 = 1 ∨ b.1 = -1 := by omega
          unfold rv
          rw [e2]
          rcases this with z | z <;> rw [z]
          · left; push_cast; grind
          · right; push_cast; grind
        have f1 : f = 1 := by
          rcases hb with z | z <;> rw [z] at h1 <;> rcases h1 with w | w <;> grind
        exact rv_ext L low11 (by rw [E, f1, rv11])
    | cons p ps =>
      obtain ⟨f, P, E, L⟩ := fac_rv PX (q := p.2) (qs := ps.map (·.2)) rfl (c.low p List.mem_cons_self).2
      have ne : (((p :: ps, sg, b) : Rw).2.1 == "=" && decide (p.2.1 < 0)) = false := by
        show ((sg == "=") && _) = false
        rw [hs]; rfl
      rw [ne] at E
      simp only [Bool.false_eq_true, if_false] at E
      have em : (p.2 :: ps.map (·.2)).map rv = (p :: ps).map fun p => rv p.2 := by simp [List.map_map, Function.comp_def]
      rw [em] at P
      have f1 : f = 1 := P.unique (pr (by simp))
      exact rv_ext L low11 (by rw [E, f1, rv11])
  unfold rowM
  rw [parts_canS c]
  unfold normM
  rw [one]
  unfold scaleM
  have q1 : ∀ {q : Qn}, Low q → qmul q (1, 1) = q := fun {q} h => by
    have hp := h.pos
    refine rv_ext (low_nrm (Int.mul_ne_zero (by omega) (by decide))) h ?_
    rw [rv_mul (by decide) (by omega), rv11]
    grind
  have e1 : (ps.map fun p => (p.1, qmul p.2 (1, 1))) = ps := by
    conv => rhs; rw [← List.map_id ps]
    apply List.map_congr_left
    intro p hp
    show (p.1, qmul p.2 (1, 1)) = p
    rw [q1 (c.low p hp).1]
  simp only
  rw [e1, q1 lb]
section
variable {r : Rw} (R : RowN 11 18 L3 r)
include R
theorem rowN_pos : PosR r ∧ LowR r := ⟨⟨fun p hp => ⟨(R.can.low p hp).1.pos, (R.can.low p hp).2⟩, R.low.pos⟩, ⟨fun p hp => R.can.low p hp, R.low⟩⟩
theorem same_fix {sg : Str} (hs : (sg == "=") = false) : rowM r.1 sg r.2.2 = (r.1, sg, r.2.2) := by
  obtain ⟨P, lr⟩ := rowN_pos R
  exact rowM_fix R.can R.low hs (fun h => prim_row P lr R.nrm h) fun h => row_empty P lr R.nrm h
theorem turn_fix {sg : Str} (hs : (sg == "=") = false) : rowM (flipM r.1) sg (qsub (0, 1) r.2.2) = (flipM r.1, sg, qsub (0, 1) r.2.2) := by
  obtain ⟨P, lr⟩ := rowN_pos R
  have b0 := R.low.pos
  refine rowM_fix (can_flipS R.can) (neg_low R.low) hs (fun h => ?_) fun h => ?_
  · have hne : r.1 ≠ [] := fun z => h (by rw [z]; rfl)
    have p1 := prim_row P lr R.nrm hne
    have e : r.1.map (fun p => rv p.2) = ((flipM r.1).map fun p => rv p.2).map ((-1) * ·) := by
      unfold flipM
      rw [List.map_map, List.map_map]
      apply List.map_congr_left
      intro p hp
      have p0 := (P.ps p hp).1
      show rv p.2 = -1 * rv (qsub (0, 1) p.2)
      rw [rv_sub (by omega) (by decide), rv01]
      grind
    rw [e] at p1
    have := Prim.scale_neg p1 (by decide)
    have e2 : (1 : Rat) * -(-1) = 1 := by grind
    rw [e2] at this
    exact this
  · have hr : r.1 = [] := by
      cases h2 : r.1 with
      | nil => rfl
      | cons p ps => rw [h2] at h; simp [flipM] at h
    obtain ⟨e1, e2⟩ := row_empty P lr R.nrm hr
    have lw := neg_low R.low
    have e3 : rv (qsub (0, 1) r.2.2) = ((-r.2.2.1 : Int) : Rat) / ((1 : Int) : Rat) := by
      rw [rv_sub (by omega) (by decide), rv01]
      unfold rv
      rw [e2]
      push_cast
      grind
    obtain ⟨u1, u2⟩ := low_le lw (by decide) e3
    have lp := lw.pos
    have : (1 : Int).natAbs = 1 := rfl
    exact ⟨by omega, by omega⟩
end
end DL
namespace DL
open PySem PySem.Spec PyProof.Rows L2 RT
noncomputable def PG.S_is_true (r_is_true : Fn) : Rho → Out := (seqS (asgS (binF dIx (varF 0) (cF (.int 0))) (nameT 2)) (seqS (ifS (testF (binF dEq (varF 2) (cF (.str "row")))) (retS (callF PG.m_holds (consA (binF dIx (varF 0) (cF (.int 1))) (consA (varF 1) nilA)))) nxS) (seqS (ifS (testF (binF dEq (varF 2) (cF (.str "not")))) (retS (notV (callF r_is_true (consA (binF dIx (varF 0) (cF (.int 1))) (consA (varF 1) nilA))))) nxS) (seqS (ifS (testF (binF dEq (varF 2) (cF (.str "and")))) (retS (appF (app1 bAll) (consA (lcF [3] (itemsQ (binF dIx (varF 0) (cF (.int 1)))) (nameT 3) yesT (callF r_is_true (consA (varF 3) (consA (varF 1) nilA)))) nilA))) nxS) (seqS (ifS (testF (binF dEq (varF 2) (cF (.str "or")))) (retS (appF (app1 bAny) (consA (lcF [3] (itemsQ (binF dIx (varF 0) (cF (.int 1)))) (nameT 3) yesT (callF r_is_true (consA (varF 3) (consA (varF 1) nilA)))) nilA))) nxS) (retS (binF dEq (varF 2) (cF (.str "true")))))))))
noncomputable def PG.B_is_true (r_is_true : Fn) (a0 a1 : PyData) : FR := outFR (PG.S_is_true r_is_true [.d a0, .d a1, .un, .un])
noncomputable def PG.R_is_true : Nat → Fn
  | 0 => noFn
  | n + 1 => fn2 (PG.B_is_true (PG.R_is_true n))
noncomputable def PG.S__joined : Rho → Out := (seqS (ifS (testF (binF dEq (appF (app1 bLen) (consA (varF 1) nilA)) (cF (.int 1)))) (retS (binF dIx (varF 1) (cF (.int 0)))) nxS) (retS (tupF (consA (varF 0) (consA (appF (app1 bTuple) (consA (varF 1) nilA)) nilA)))))
noncomputable def PG.B__joined (a0 a1 : PyData) : FR := outFR (PG.S__joined [.d a0, .d a1])
noncomputable def PG.m__joined : Fn := fn2 PG.B__joined
noncomputable def PG.S_plain (r_plain r__plain_not : Fn) : Rho → Out := (seqS (asgS (binF dIx (varF 0) (cF (.int 0))) (nameT 1)) (seqS (ifS (testF (binF dEq (varF 1) (cF (.str "not")))) (retS (callF r__plain_not (consA (binF dIx (varF 0) (cF (.int 1))) nilA))) nxS) (seqS (ifS (testF (binF dIn3 (varF 1) (cF (.tuple [.str "and", .str "or"])))) (retS (tupF (consA (varF 1) (consA (appF (app1 bTuple) (consA (lcF [2] (itemsQ (binF dIx (varF 0) (cF (.int 1)))) (nameT 2) yesT (callF r_plain (consA (varF 2) nilA))) nilA)) nilA)))) nxS) (retS (varF 0)))))
noncomputable def PG.B_plain (r_plain r__plain_not : Fn) (a0 : PyData) : FR := outFR (PG.S_plain r_plain r__plain_not [.d a0, .un, .un])
noncomputable def PG.S__plain_not (r_plain r__plain_not : Fn) : Rho → Out := (seqS (asgS (binF dIx (varF 0) (cF (.int 0))) (nameT 1)) (seqS (ifS (testF (binF dEq (varF 1) (cF (.str "not")))) (retS (callF r_plain (consA (binF dIx (varF 0) (cF (.int 1))) nilA))) nxS) (seqS (ifS (testF (binF dIn3 (varF 1) (cF (.tuple [.str "and", .str "or"])))) (retS (tupF (consA (ixKF [("and", "or"), ("or", "and"), ("true", "false"), ("false", "true")] (varF 1)) (consA (appF (app1 bTuple) (consA (lcF [2] (itemsQ (binF dIx (varF 0) (cF (.int 1)))) (nameT 2) yesT (callF r__plain_not (consA (varF 2) nilA))) nilA)) nilA)))) nxS) (seqS (ifS (testF (binF dEq (varF 1) (cF (.str "row")))) (retS (callF PG.m__joined (consA (cF (.str "or")) (consA (lcF [3] (itemsQ (callF PG.m_opposites (consA (binF dIx (varF 0) (cF (.int 1))) nilA))) (nameT 3) yesT (tupF (consA (cF (.str "row")) (consA (varF 3) nilA)))) nilA)))) nxS) (retS (tupF (consA (ixKF [("and", "or"), ("or", "and"), ("true", "false"), ("false", "true")] (varF 1)) nilA)))))))
noncomputable def PG.B__plain_not (r_plain r__plain_not : Fn) (a0 : PyData) : FR := outFR (PG.S__plain_not r_plain r__plain_not [.d a0, .un, .un, .un])
noncomputable def PG.R_plain : Nat → Fn × Fn
  | 0 => (noFn, noFn)
  | n + 1 => (fn1 (PG.B_plain (PG.R_plain n).1 (PG.R_plain n).2), fn1 (PG.B__plain_not (PG.R_plain n).1 (PG.R_plain n).2))
noncomputable def PG.S__parts : Rho → Out := (seqS (ifS (testF (binF dEq (binF dIx (varF 0) (cF (.int 0))) (cF (.str "not")))) (retS (tupF (consA (binF dIx (varF 0) (cF (.int 1))) nilA))) nxS) (seqS (ifS (testF (binF dIn3 (binF dIx (varF 0) (cF (.int 0))) (cF (.tuple [.str "and", .str "or"])))) (retS (binF dIx (varF 0) (cF (.int 1)))) nxS) (retS (tupF nilA))))
noncomputable def PG.B__parts (a0 : PyData) : FR := outFR (PG.S__parts [.d a0])
noncomputable def PG.m__parts : Fn := fn1 PG.B__parts
noncomputable def PG.L__all_in_1 : Rho → Out := (seqS (asgS (popF 2) (tupT 2 (consTs (nameT 3) (consTs (nameT 4) nilTs)))) (seqS (appendS 1 (tupF (consA (varF 3) (consA (varF 4) nilA)))) (exlS 2 (lcO [5] (itemsQ (callF PG.m__parts (consA (varF 3) nilA))) (nameT 5) yesT (tupF (consA (varF 5) (consA (binF dAdd (varF 4) (cF (.int 1))) nilA)))))))
noncomputable def PG.S__all_in : Rho → Out := (seqS (parQ 1 2 0 0) (seqS (whileS (truO 2) PG.L__all_in_1) (retS (varF 1))))
noncomputable def PG.B__all_in (a0 : PyData) : FR := outFR (PG.S__all_in [.d a0, .un, .un, .un, .un, .un])
noncomputable def PG.m__all_in : Fn := fn1 PG.B__all_in
noncomputable def PG.S_unknowns_of : Rho → Out := (retS (callF PG.m_unknowns (consA (lcF [1, 2] (itemsQ (callF PG.m__all_in (consA (varF 0) nilA))) (tupT 2 (consTs (nameT 1) (consTs (nameT 2) nilTs))) (testF (binF dEq (binF dIx (varF 1) (cF (.int 0))) (cF (.str "row")))) (binF dIx (varF 1) (cF (.int 1)))) nilA)))
noncomputable def PG.B_unknowns_of (a0 : PyData) : FR := outFR (PG.S_unknowns_of [.d a0, .un, .un])
noncomputable def PG.m_unknowns_of : Fn := fn1 PG.B_unknowns_of
noncomputable def LF.L_row_1 : Rho → Out := (seqS (asgS (binF dSub (binF dMod (binF dIx (varF 0) (binF dMod (appF (app1 bInt) (consA (binF dAdd (varF 1) (varF 4)) nilA)) (appF (app1 bLen) (consA (varF 0) nilA)))) (cF (.int 7))) (cF (.int 3))) (nameT 5)) (seqS (ifS (testF (binF dEq (binF dMod (binF dIx (varF 0) (binF dMod (appF (app1 bInt) (consA (binF dAdd (varF 1) (cF (.int 5))) nilA)) (appF (app1 bLen) (consA (varF 0) nilA)))) (cF (.int 5))) (varF 4))) (asgS (cF (.int 0)) (nameT 5)) nxS) (appendS 3 (tupF (consA (binF dIx (varF 2) (varF 4)) (consA (tupF (consA (varF 5) (consA (cF (.int 1)) nilA))) nilA))))))
noncomputable def LF.S_row : Rho → Out := (seqS (ownS (consA (cF (.str "x")) (consA (cF (.str "y")) (consA (cF (.str "z2")) nilA))) 2) (seqS (ownS nilA 3) (seqS (forS (range1F (consA (cF (.int 3)) nilA)) (nameT 4) LF.L_row_1) (seqS (asgS (binF dSub (binF dMod (binF dIx (varF 0) (binF dMod (appF (app1 bInt) (consA (binF dAdd (varF 1) (cF (.int 3))) nilA)) (appF (app1 bLen) (consA (varF 0) nilA)))) (cF (.int 9))) (cF (.int 4))) (nameT 6)) (seqS (asgS (binF dIx (lstF (consA (cF (.str "<=")) (consA (cF (.str "<")) (consA (cF (.str "<=")) (consA (cF (.str "=")) (consA (cF (.str ">=")) (consA (cF (.str "<")) nilA))))))) (binF dMod (binF dIx (varF 0) (binF dMod (appF (app1 bInt) (consA (binF dAdd (varF 1) (cF (.int 4))) nilA)) (appF (app1 bLen) (consA (varF 0) nilA)))) (cF (.int 6)))) (nameT 7)) (seqS (ifS (testF (binF dEq (binF dMod (binF dIx (varF 0) (binF dMod (appF (app1 bInt) (consA (binF dAdd (varF 1) (cF (.int 6))) nilA)) (appF (app1 bLen) (consA (varF 0) nilA)))) (cF (.int 4))) (cF (.int 0)))) (retS (callF PG.m_row (consA (varF 3) (consA (varF 7) (consA (tupF (consA (binF dAdd (binF dMul (cF (.int 2)) (varF 6)) (cF (.int 1))) (consA (cF (.int 2)) nilA))) nilA))))) nxS) (retS (callF PG.m_row (consA (varF 3) (consA (varF 7) (consA (tupF (consA (varF 6) (consA (cF (.int 1)) nilA))) nilA)))))))))))
noncomputable def LF.B_row (a0 a1 : PyData) : FR := outFR (LF.S_row [.d a0, .d a1, .un, .un, .un, .un, .un, .un])
noncomputable def LF.m_row : Fn := fn2 LF.B_row
noncomputable def LF.S_formula (r__law_formula : Fn) : Rho → Out := (seqS (asgS (binF dMod (binF dIx (varF 0) (binF dMod (appF (app1 bInt) (consA (varF 1) nilA)) (appF (app1 bLen) (consA (varF 0) nilA)))) (cF (.int 9))) (nameT 3)) (seqS (ifS (andT (testF (binF dEq (varF 3) (cF (.int 8)))) (testF (binF dEq (binF dMod (binF dIx (varF 0) (binF dMod (appF (app1 bInt) (consA (binF dAdd (varF 1) (cF (.int 1))) nilA)) (appF (app1 bLen) (consA (varF 0) nilA)))) (cF (.int 4))) (cF (.int 0))))) (retS (binF dIx (lstF (consA (tupF (consA (cF (.str "true")) nilA)) (consA (tupF (consA (cF (.str "false")) nilA)) nilA))) (binF dMod (binF dIx (varF 0) (binF dMod (appF (app1 bInt) (consA (binF dAdd (varF 1) (cF (.int 2))) nilA)) (appF (app1 bLen) (consA (varF 0) nilA)))) (cF (.int 2))))) nxS) (seqS (ifS (orT (testF (binF dEq (varF 2) (cF (.int 0)))) (orT (testF (binF dLt (varF 3) (cF (.int 3)))) (testF (binF dEq (varF 3) (cF (.int 8)))))) (retS (tupF (consA (cF (.str "row")) (consA (callF LF.m_row (consA (varF 0) (consA (binF dAdd (varF 1) (cF (.int 1))) nilA))) nilA)))) nxS) (seqS (asgS (callF r__law_formula (consA (varF 0) (consA (binF dAdd (varF 1) (cF (.int 2))) (consA (binF dSub (varF 2) (cF (.int 1))) nilA)))) (nameT 4)) (seqS (ifS (testF (binF dEq (varF 3) (cF (.int 3)))) (retS (tupF (consA (cF (.str "not")) (consA (varF 4) nilA)))) nxS) (seqS (ownS (consA (varF 4) (consA (callF r__law_formula (consA (varF 0) (consA (binF dAdd (varF 1) (cF (.int 11))) (consA (binF dSub (varF 2) (cF (.int 1))) nilA)))) nilA)) 5) (seqS (ifS (testF (binF dEq (varF 3) (cF (.int 7)))) (appendS 5 (tupF (consA (cF (.str "row")) (consA (callF LF.m_row (consA (varF 0) (consA (binF dAdd (varF 1) (cF (.int 5))) nilA))) nilA)))) nxS) (retS (tupF (consA (binF dIx (lstF (consA (cF (.str "and")) (consA (cF (.str "and")) (consA (cF (.str "or")) (consA (cF (.str "or")) nilA))))) (binF dSub (varF 3) (cF (.int 4)))) (consA (appF (app1 bTuple) (consA (varF 5) nilA)) nilA)))))))))))
noncomputable def LF.B_formula (r__law_formula : Fn) (a0 a1 a2 : PyData) : FR := outFR (LF.S_formula r__law_formula [.d a0, .d a1, .d a2, .un, .un, .un])
noncomputable def LF.R_formula : Nat → Fn
  | 0 => noFn
  | n + 1 => fn3 (LF.B_formula (LF.R_formula n))
noncomputable def LF.m_formula : Fn := (LF.R_formula 24)
noncomputable def LF.S_some : Rho → Out := (retS (callF LF.m_formula (consA (callF lm_draw (consA (varF 0) (consA (varF 1) (consA (repF (consA (cF (.int 97)) nilA) (cF (.int 40))) nilA)))) (consA (cF (.int 0)) (consA (varF 2) nilA)))))
noncomputable def LF.B_some (a0 a1 a2 : PyData) : FR := outFR (LF.S_some [.d a0, .d a1, .d a2])
noncomputable def LF.m_some : Fn := fn3 LF.B_some
noncomputable def LF.L_number_1 : Rho → Out := (parS (consA (varF 3) (consA (binF dMod (varF 2) (varF 3)) nilA)) 2 3)
noncomputable def LF.S_number : Rho → Out := (seqS (asgS (appF (app1 bAbs) (consA (varF 0) nilA)) (nameT 2)) (seqS (asgS (varF 1) (nameT 3)) (seqS (whileS (testF (binF dNe (varF 3) (cF (.int 0)))) LF.L_number_1) (retS (tupF (consA (binF dDiv (varF 0) (varF 2)) (consA (binF dDiv (varF 1) (varF 2)) nilA)))))))
noncomputable def LF.B_number (a0 a1 : PyData) : FR := outFR (LF.S_number [.d a0, .d a1, .un, .un])
noncomputable def LF.m_number : Fn := fn2 LF.B_number
noncomputable def LF.L_holds_1 : Rho → Out := (putS 2 (varF 3) (varF 4))
noncomputable def LF.L_holds_2 : Rho → Out := (seqS (asgS (dgetF 2 (varF 3) (tupF (consA (cF (.int 0)) (consA (cF (.int 1)) nilA)))) (nameT 4)) (seqS (asgS (binF dAdd (binF dMul (binF dMul (varF 5) (binF dIx (varF 7) (cF (.int 1)))) (binF dIx (varF 4) (cF (.int 1)))) (binF dMul (binF dMul (binF dIx (varF 7) (cF (.int 0))) (binF dIx (varF 4) (cF (.int 0)))) (varF 6))) (nameT 5)) (asgS (binF dMul (binF dMul (varF 6) (binF dIx (varF 7) (cF (.int 1)))) (binF dIx (varF 4) (cF (.int 1)))) (nameT 6))))
noncomputable def LF.S_holds : Rho → Out := (seqS (newDS 2) (seqS (forS (itemsQ (varF 1)) (tupT 2 (consTs (nameT 3) (consTs (nameT 4) nilTs))) LF.L_holds_1) (seqS (asgS (cF (.int 0)) (nameT 5)) (seqS (asgS (cF (.int 1)) (nameT 6)) (seqS (forS (itemsQ (binF dIx (varF 0) (cF (.int 0)))) (tupT 2 (consTs (nameT 3) (consTs (nameT 7) nilTs))) LF.L_holds_2) (seqS (asgS (binF dMul (varF 5) (binF dIx (binF dIx (varF 0) (cF (.int 2))) (cF (.int 1)))) (nameT 8)) (seqS (asgS (binF dMul (binF dIx (binF dIx (varF 0) (cF (.int 2))) (cF (.int 0))) (varF 6)) (nameT 9)) (seqS (ifS (testF (binF dEq (binF dIx (varF 0) (cF (.int 1))) (cF (.str "=")))) (retS (binF dEq (varF 8) (varF 9))) nxS) (retS (orV (binF dLt (varF 8) (varF 9)) (andV (binF dEq (binF dIx (varF 0) (cF (.int 1))) (cF (.str "<="))) (binF dEq (varF 8) (varF 9)))))))))))))
noncomputable def LF.B_holds (a0 a1 : PyData) : FR := outFR (LF.S_holds [.d a0, .d a1, .un, .un, .un, .un, .un, .un, .un, .un])
noncomputable def LF.m_holds : Fn := fn2 LF.B_holds
noncomputable def LF.S_true (r__law_true : Fn) : Rho → Out := (seqS (asgS (binF dIx (varF 0) (cF (.int 0))) (nameT 2)) (seqS (ifS (testF (binF dEq (varF 2) (cF (.str "row")))) (retS (callF LF.m_holds (consA (binF dIx (varF 0) (cF (.int 1))) (consA (varF 1) nilA)))) nxS) (seqS (ifS (testF (binF dEq (varF 2) (cF (.str "not")))) (retS (notV (callF r__law_true (consA (binF dIx (varF 0) (cF (.int 1))) (consA (varF 1) nilA))))) nxS) (seqS (ifS (orT (testF (binF dEq (varF 2) (cF (.str "and")))) (testF (binF dEq (varF 2) (cF (.str "or"))))) (seqS (lcS 3 [4] (itemsQ (binF dIx (varF 0) (cF (.int 1)))) (nameT 4) yesT (callF r__law_true (consA (varF 4) (consA (varF 1) nilA)))) (seqS (ifS (testF (binF dEq (varF 2) (cF (.str "and")))) (retS (binF dNotIn3 (cF (.bool false)) (varF 3))) nxS) (retS (binF dIn3 (cF (.bool true)) (varF 3))))) nxS) (retS (binF dEq (varF 2) (cF (.str "true"))))))))
noncomputable def LF.B_true (r__law_true : Fn) (a0 a1 : PyData) : FR := outFR (LF.S_true r__law_true [.d a0, .d a1, .un, .un, .un])
noncomputable def LF.R_true : Nat → Fn
  | 0 => noFn
  | n + 1 => fn2 (LF.B_true (LF.R_true n))
noncomputable def LF.L_point_1 : Rho → Out := (ifS (testF (binF dNe (binF dIx (varF 2) (cF (.int 4))) (varF 5))) (appendS 4 (tupF (consA (binF dIx (varF 3) (varF 5)) (consA (callF LF.m_number (consA (binF dSub (binF dIx (varF 2) (varF 5)) (cF (.int 6))) (consA (binF dAdd (cF (.int 1)) (binF dIx (varF 2) (cF (.int 3)))) nilA))) nilA)))) nxS)
noncomputable def LF.S_point : Rho → Out := (seqS (asgS (callF lm_draw (consA (varF 0) (consA (varF 1) (consA (lstF (consA (cF (.int 13)) (consA (cF (.int 13)) (consA (cF (.int 13)) (consA (cF (.int 3)) (consA (cF (.int 9)) nilA)))))) nilA)))) (nameT 2)) (seqS (ownS (consA (cF (.str "x")) (consA (cF (.str "y")) (consA (cF (.str "z2")) nilA))) 3) (seqS (ownS nilA 4) (seqS (forS (range1F (consA (cF (.int 3)) nilA)) (nameT 5) LF.L_point_1) (retS (appF (app1 bTuple) (consA (varF 4) nilA)))))))
noncomputable def LF.B_point (a0 a1 : PyData) : FR := outFR (LF.S_point [.d a0, .d a1, .un, .un, .un, .un])
noncomputable def LF.m_point : Fn := fn2 LF.B_point
noncomputable def LF.S_opposite : Rho → Out := (seqS (asgS (appF (app1 bTuple) (consA (lcF [2, 3] (itemsQ (binF dIx (varF 0) (cF (.int 0)))) (tupT 2 (consTs (nameT 2) (consTs (nameT 3) nilTs))) yesT (tupF (consA (varF 2) (consA (tupF (consA (binF dSub (cF (.int 0)) (binF dIx (varF 3) (cF (.int 0)))) (consA (binF dIx (varF 3) (cF (.int 1))) nilA))) nilA)))) nilA)) (nameT 1)) (seqS (asgS (tupF (consA (binF dSub (cF (.int 0)) (binF dIx (binF dIx (varF 0) (cF (.int 2))) (cF (.int 0)))) (consA (binF dIx (binF dIx (varF 0) (cF (.int 2))) (cF (.int 1))) nilA))) (nameT 4)) (seqS (ifS (testF (binF dEq (binF dIx (varF 0) (cF (.int 1))) (cF (.str "<=")))) (retS (tupF (consA (cF (.str "row")) (consA (tupF (consA (varF 1) (consA (cF (.str "<")) (consA (varF 4) nilA)))) nilA)))) nxS) (seqS (ifS (testF (binF dEq (binF dIx (varF 0) (cF (.int 1))) (cF (.str "<")))) (retS (tupF (consA (cF (.str "row")) (consA (tupF (consA (varF 1) (consA (cF (.str "<=")) (consA (varF 4) nilA)))) nilA)))) nxS) (seqS (ifS (andT (testF (binF dEq (appF (app1 bLen) (consA (varF 1) nilA)) (cF (.int 0)))) (testF (binF dEq (binF dIx (binF dIx (varF 0) (cF (.int 2))) (cF (.int 0))) (cF (.int 0))))) (retS (tupF (consA (cF (.str "or")) (consA (tupF (consA (tupF (consA (cF (.str "row")) (consA (tupF (consA (varF 1) (consA (cF (.str "<")) (consA (varF 4) nilA)))) nilA))) (consA (tupF (consA (cF (.str "row")) (consA (tupF (consA (varF 1) (consA (cF (.str "<")) (consA (varF 4) nilA)))) nilA))) nilA))) nilA)))) nxS) (retS (tupF (consA (cF (.str "or")) (consA (tupF (consA (tupF (consA (cF (.str "row")) (consA (tupF (consA (binF dIx (varF 0) (cF (.int 0))) (consA (cF (.str "<")) (consA (binF dIx (varF 0) (cF (.int 2))) nilA)))) nilA))) (consA (tupF (consA (cF (.str "row")) (consA (tupF (consA (varF 1) (consA (cF (.str "<")) (consA (varF 4) nilA)))) nilA))) nilA))) nilA)))))))))
noncomputable def LF.B_opposite (a0 : PyData) : FR := outFR (LF.S_opposite [.d a0, .un, .un, .un, .un])
noncomputable def LF.m_opposite : Fn := fn1 LF.B_opposite
noncomputable def LF.S_plain (r__law_plain : Fn) : Rho → Out := (seqS (asgS (binF dIx (varF 0) (cF (.int 0))) (nameT 2)) (seqS (ifS (testF (binF dEq (varF 2) (cF (.str "not")))) (retS (callF r__law_plain (consA (binF dIx (varF 0) (cF (.int 1))) (consA (notV (varF 1)) nilA)))) nxS) (seqS (ifS (orT (testF (binF dEq (varF 2) (cF (.str "and")))) (testF (binF dEq (varF 2) (cF (.str "or"))))) (seqS (ifS (truF (varF 1)) (asgS (binF dIx (lstF (consA (cF (.str "and")) (consA (cF (.str "or")) nilA))) (appF (app1 bInt) (consA (binF dEq (varF 2) (cF (.str "and"))) nilA))) (nameT 2)) nxS) (retS (tupF (consA (varF 2) (consA (appF (app1 bTuple) (consA (lcF [3] (itemsQ (binF dIx (varF 0) (cF (.int 1)))) (nameT 3) yesT (callF r__law_plain (consA (varF 3) (consA (varF 1) nilA)))) nilA)) nilA))))) nxS) (seqS (ifS (testF (binF dEq (varF 2) (cF (.str "row")))) (seqS (ifS (truF (varF 1)) (retS (callF LF.m_opposite (consA (binF dIx (varF 0) (cF (.int 1))) nilA))) nxS) (retS (varF 0))) nxS) (seqS (ifS (truF (varF 1)) (retS (binF dIx (lstF (consA (tupF (consA (cF (.str "true")) nilA)) (consA (tupF (consA (cF (.str "false")) nilA)) nilA))) (appF (app1 bInt) (consA (binF dEq (varF 2) (cF (.str "true"))) nilA)))) nxS) (retS (varF 0)))))))
noncomputable def LF.B_plain (r__law_plain : Fn) (a0 a1 : PyData) : FR := outFR (LF.S_plain r__law_plain [.d a0, .d a1, .un, .un])
noncomputable def LF.R_plain : Nat → Fn
  | 0 => noFn
  | n + 1 => fn2 (LF.B_plain (LF.R_plain n))
noncomputable def LF.L_many_1 : Rho → Out := (ifS (andT (testF (binF dLt (varF 2) (appF (app1 bLen) (consA (varF 1) nilA)))) (testF (binF dIn3 (binF dIx (binF dIx (varF 1) (varF 2)) (cF (.int 0))) (lstF (consA (cF (.str "and")) (consA (cF (.str "or")) nilA)))))) (asgS (binF dAdd (varF 1) (appF (app1 bList) (consA (binF dIx (binF dIx (varF 1) (varF 2)) (cF (.int 1))) nilA))) (nameT 1)) nxS)
noncomputable def LF.S_many : Rho → Out := (seqS (ownS (consA (varF 0) nilA) 1) (seqS (forS (range1F (consA (cF (.int 60)) nilA)) (nameT 2) LF.L_many_1) (retS (appF (app1 bLen) (consA (varF 1) nilA)))))
noncomputable def LF.B_many (a0 : PyData) : FR := outFR (LF.S_many [.d a0, .un, .un])
noncomputable def LF.m_many : Fn := fn1 LF.B_many
end DL
set_option exponentiation.threshold 5000
namespace DL
open PySem PySem.Spec PyProof.Rows L2 RT
inductive Fm where
  | row (r : Rw)
  | tt
  | ff
  | neg (f : Fm)
  | jn (b : Bool) (fs : List Fm)
def jw (b : Bool) : Str := if b then "and" else "or"
mutual
def fmD : Fm → PyData
  | .row r => .tuple [.str "row", rD r]
  | .tt => .tuple [.str "true"]
  | .ff => .tuple [.str "false"]
  | .neg f => .tuple [.str "not", fmD f]
  | .jn b fs => .tuple [.str (jw b), .tuple (fmDs fs)]
def fmDs : List Fm → List PyData
  | [] => []
  | f :: fs => fmD f :: fmDs fs
end
theorem fmDs_map : ∀ fs : List Fm, fmDs fs = fs.map fmD
  | [] => rfl
  | f :: fs => by rw [fmDs, fmDs_map fs]; rfl
mutual
def fdep : Fm → Nat
  | .row _ => 0
  | .tt => 0
  | .ff => 0
  | .neg f => fdep f + 1
  | .jn _ fs => fdeps fs + 1
def fdeps : List Fm → Nat
  | [] => 0
  | f :: fs => max (fdep f) (fdeps fs)
end
mutual
def ev (φ : Str → Rat) : Fm → Bool
  | .row r => holdsF φ r
  | .tt => true
  | .ff => false
  | .neg f => !ev φ f
  | .jn b fs => if b then evA φ fs else evO φ fs
def evA (φ : Str → Rat) : List Fm → Bool
  | [] => true
  | f :: fs => ev φ f && evA φ fs
def evO (φ : Str → Rat) : List Fm → Bool
  | [] => false
  | f :: fs => ev φ f || evO φ fs
end
theorem evA_all (φ : Str → Rat) : ∀ fs : List Fm, evA φ fs = fs.all (ev φ)
  | [] => rfl
  | f :: fs => by rw [evA, evA_all φ fs]; rfl
theorem evO_any (φ : Str → Rat) : ∀ fs : List Fm, evO φ fs = fs.any (ev φ)
  | [] => rfl
  | f :: fs => by rw [evO, evO_any φ fs]; rfl
mutual
def FmOk (P : Rw → Prop) : Fm → Prop
  | .row r => P r
  | .tt => True
  | .ff => True
  | .neg f => FmOk P f
  | .jn _ fs => fs.length ≤ 1000 ∧ FmsOk P fs
def FmsOk (P : Rw → Prop) : List Fm → Prop
  | [] => True
  | f :: fs => FmOk P f ∧ FmsOk P fs
end
theorem FmsOk_mem {P : Rw → Prop} : ∀ {fs : List Fm}, FmsOk P fs ↔ ∀ f ∈ fs, FmOk P f
  | [] => by simp [FmsOk]
  | f :: fs => by simp [FmsOk, FmsOk_mem (fs := fs)]
abbrev RwT : Rw → Prop := RowN 2 4 L3
theorem RwT.big {r : Rw} (h : RwT r) : RowN 11 18 L3 r := RowN.mono h (by decide) (by decide) fun x h => h
theorem RwT.good {r : Rw} (h : RwT r) : GoodR r := rowN_good (RwT.big h)
theorem RwT.szR {r : Rw} (h : RwT r) : SzR 150 r := by
  refine ⟨fun p hp => ?_, ⟨h.low.pos, ?_, ?_⟩⟩
  · obtain ⟨a, b⟩ := h.int p hp
    exact ⟨by rw [a]; decide, Nat.lt_of_le_of_lt b (Nat.lt_of_lt_of_le (pw1 _) (pwl (by decide))), by rw [a]; exact Nat.lt_of_lt_of_le (show 1 < 2 ^ 1 by decide) (pwl (by decide))⟩
  · exact Nat.lt_of_le_of_lt h.bd.1 (Nat.lt_of_lt_of_le (pw1 _) (pwl (by decide)))
  · exact Nat.lt_of_le_of_lt h.bd.2 (Nat.lt_of_lt_of_le (pw1 _) (pwl (by decide)))
theorem RwT.len3 {r : Rw} (h : RwT r) : r.1.length ≤ 3 := h.len
theorem okw_row : PySem.PyData.strOk ("row" : Str) = true := by decide +kernel
theorem okw_not : PySem.PyData.strOk ("not" : Str) = true := by decide +kernel
theorem okw_and : PySem.PyData.strOk ("and" : Str) = true := by decide +kernel
theorem okw_or : PySem.PyData.strOk ("or" : Str) = true := by decide +kernel
theorem okw_true : PySem.PyData.strOk ("true" : Str) = true := by decide +kernel
theorem okw_false : PySem.PyData.strOk ("false" : Str) = true := by decide +kernel
theorem kw_row_row : dEq (.str "row") (.str "row") = some (.bool true) := by rw [dEq_s okw_row okw_row, show (("row" : Str) == "row") = true by decide +kernel]
theorem kw_row_not : dEq (.str "row") (.str "not") = some (.bool false) := by rw [dEq_s okw_row okw_not, show (("row" : Str) == "not") = false by decide +kernel]
theorem kw_row_and : dEq (.str "row") (.str "and") = some (.bool false) := by rw [dEq_s okw_row okw_and, show (("row" : Str) == "and") = false by decide +kernel]
theorem kw_row_or : dEq (.str "row") (.str "or") = some (.bool false) := by rw [dEq_s okw_row okw_or, show (("row" : Str) == "or") = false by decide +kernel]
theorem kw_not_row : dEq (.str "not") (.str "row") = some (.bool false) := by rw [dEq_s okw_not okw_row, show (("not" : Str) == "row") = false by decide +kernel]
theorem kw_not_not : dEq (.str "not") (.str "not") = some (.bool true) := by rw [dEq_s okw_not okw_not, show (("not" : Str) == "not") = true by decide +kernel]
theorem kw_not_and : dEq (.str "not") (.str "and") = some (.bool false) := by rw [dEq_s okw_not okw_and, show (("not" : Str) == "and") = false by decide +kernel]
theorem kw_not_or : dEq (.str "not") (.str "or") = some (.bool false) := by rw [dEq_s okw_not okw_or, show (("not" : Str) == "or") = false by decide +kernel]
theorem kw_and_row : dEq (.str "and") (.str "row") = some (.bool false) := by rw [dEq_s okw_and okw_row, show (("and" : Str) == "row") = false by decide +kernel]
theorem kw_and_not : dEq (.str "and") (.str "not") = some (.bool false) := by rw [dEq_s okw_and okw_not, show (("and" : Str) == "not") = false by decide +kernel]
theorem kw_and_and : dEq (.str "and") (.str "and") = some (.bool true) := by rw [dEq_s okw_and okw_and, show (("and" : Str) == "and") = true by decide +kernel]
theorem kw_or_row : dEq (.str "or") (.str "row") = some (.bool false) := by rw [dEq_s okw_or okw_row, show (("or" : Str) == "row") = false by decide +kernel]
theorem kw_or_not : dEq (.str "or") (.str "not") = some (.bool false) := by rw [dEq_s okw_or okw_not, show (("or" : Str) == "not") = false by decide +kernel]
theorem kw_or_and : dEq (.str "or") (.str "and") = some (.bool false) := by rw [dEq_s okw_or okw_and, show (("or" : Str) == "and") = false by decide +kernel]
theorem kw_or_or : dEq (.str "or") (.str "or") = some (.bool true) := by rw [dEq_s okw_or okw_or, show (("or" : Str) == "or") = true by decide +kernel]
theorem kw_true_row : dEq (.str "true") (.str "row") = some (.bool false) := by rw [dEq_s okw_true okw_row, show (("true" : Str) == "row") = false by decide +kernel]
theorem kw_true_not : dEq (.str "true") (.str "not") = some (.bool false) := by rw [dEq_s okw_true okw_not, show (("true" : Str) == "not") = false by decide +kernel]
theorem kw_true_and : dEq (.str "true") (.str "and") = some (.bool false) := by rw [dEq_s okw_true okw_and, show (("true" : Str) == "and") = false by decide +kernel]
theorem kw_true_or : dEq (.str "true") (.str "or") = some (.bool false) := by rw [dEq_s okw_true okw_or, show (("true" : Str) == "or") = false by decide +kernel]
theorem kw_true_true : dEq (.str "true") (.str "true") = some (.bool true) := by rw [dEq_s okw_true okw_true, show (("true" : Str) == "true") = true by decide +kernel]
theorem kw_false_row : dEq (.str "false") (.str "row") = some (.bool false) := by rw [dEq_s okw_false okw_row, show (("false" : Str) == "row") = false by decide +kernel]
theorem kw_false_not : dEq (.str "false") (.str "not") = some (.bool false) := by rw [dEq_s okw_false okw_not, show (("false" : Str) == "not") = false by decide +kernel]
theorem kw_false_and : dEq (.str "false") (.str "and") = some (.bool false) := by rw [dEq_s okw_false okw_and, show (("false" : Str) == "and") = false by decide +kernel]
theorem kw_false_or : dEq (.str "false") (.str "or") = some (.bool false) := by rw [dEq_s okw_false okw_or, show (("false" : Str) == "or") = false by decide +kernel]
theorem kw_false_true : dEq (.str "false") (.str "true") = some (.bool false) := by rw [dEq_s okw_false okw_true, show (("false" : Str) == "true") = false by decide +kernel]
end DL
set_option exponentiation.threshold 5000
namespace DL
open PySem PySem.Spec PyProof.Rows L2 RT
theorem R_is_true_succ (n : Nat) : PG.R_is_true (n + 1) = fn2 (PG.B_is_true (PG.R_is_true n)) := id rfl
theorem bAll_mp {α : Type} (g : α → Bool) (xs : List α) : bAll (.list (xs.map fun x => PyData.bool (g x))) = some (.bool (xs.all g)) := by
  have q : (xs.map fun x => PyData.bool (g x)) = (xs.map g).map PyData.bool := by rw [List.map_map]; rfl
  rw [q]
  show (boolsD _).map _ = _
  rw [boolsD_mp]
  simp
theorem bAny_mp {α : Type} (g : α → Bool) (xs : List α) : bAny (.list (xs.map fun x => PyData.bool (g x))) = some (.bool (xs.any g)) := by
  have q : (xs.map fun x => PyData.bool (g x)) = (xs.map g).map PyData.bool := by rw [List.map_map]; rfl
  rw [q]
  show (boolsD _).map _ = _
  rw [boolsD_mp]
  simp
mutual
theorem it_ok {pt : List Pt} {m : Nat} (hpt : ∀ p ∈ pt, Sz m p.2) (hm : m ≤ 700) : ∀ (f : Fm) (n : Nat), FmOk RwT f → fdep f < n → PG.R_is_true n [fmD f, psD pt] = .ok (.bool (ev (ptF pt) f))
  | f, 0, _, h => absurd h (Nat.not_lt_zero _)
  | .row r, n + 1, h, _ => by
    rw [R_is_true_succ]
    rw [FmOk] at h
    have e := pg_holdsF hpt (RwT.szR h) h.sgn (by have := RwT.len3 h; omega) hm (fun p hp => (RwT.szR h).ps p hp |>.pos) (fun y => (look_sz hpt y).pos)
    show PG.B_is_true _ _ _ = _
    rw [fmD, ev]
    generalize rD r = R at *
    generalize psD pt = P at *
    simp [PG.B_is_true, PG.S_is_true, kw_row_row, e]
  | .tt, n + 1, _, _ => by
    rw [R_is_true_succ]
    show PG.B_is_true _ _ _ = _
    rw [fmD, ev]
    generalize psD pt = P at *
    simp [PG.B_is_true, PG.S_is_true, kw_true_row, kw_true_not, kw_true_and, kw_true_or, kw_true_true]
  | .ff, n + 1, _, _ => by
    rw [R_is_true_succ]
    show PG.B_is_true _ _ _ = _
    rw [fmD, ev]
    generalize psD pt = P at *
    simp [PG.B_is_true, PG.S_is_true, kw_false_row, kw_false_not, kw_false_and, kw_false_or, kw_false_true]
  | .neg f, n + 1, h, hd => by
    rw [R_is_true_succ]
    rw [FmOk] at h
    rw [fdep] at hd
    have e := it_ok hpt hm f n h (by omega)
    show PG.B_is_true _ _ _ = _
    rw [fmD, ev]
    generalize fmD f = F at *
    generalize psD pt = P at *
    generalize PG.R_is_true n = RR at *
    simp [PG.B_is_true, PG.S_is_true, kw_not_row, kw_not_not, e]
  | .jn b fs, n + 1, h, hd => by
    rw [R_is_true_succ]
    rw [FmOk] at h
    rw [fdep] at hd
    have es := it_all hpt hm fs n h.2 (by omega)
    show PG.B_is_true _ _ _ = _
    rw [fmD, ev, fmDs_map, evA_all, evO_any]
    have c : ∀ w, compL (nameT 3) yesT (callF (PG.R_is_true n) (consA (varF 3) (consA (varF 1) nilA))) [.d (.tuple [.str (jw b), .tuple (fs.map fmD)]), .d (psD pt), w, .un] (fs.map fmD) [] = some (fs.map fun f => PyData.bool (ev (ptF pt) f)) := by
      intro w
      refine compL_map fmD (fun f => PyData.bool (ev (ptF pt) f)) fs (fun f hf => ?_) (by omega)
      have e := es f hf
      generalize fs.map fmD = FS at *
      generalize fmD f = F at *
      generalize psD pt = P at *
      generalize PG.R_is_true n = RR at *
      simp [e]
    have a1 := bAll_mp (ev (ptF pt)) fs
    have a2 := bAny_mp (ev (ptF pt)) fs
    generalize (fs.map fun f => PyData.bool (ev (ptF pt) f)) = BS at *
    generalize fs.map fmD = FS at *
    generalize psD pt = P at *
    generalize PG.R_is_true n = RR at *
    cases b
    · have w : jw false = "or" := rfl
      rw [w] at c ⊢
      simp [PG.B_is_true, PG.S_is_true, kw_or_row, kw_or_not, kw_or_and, kw_or_or, c, a2]
    · have w : jw true = "and" := rfl
      rw [w] at c ⊢
      simp [PG.B_is_true, PG.S_is_true, kw_and_row, kw_and_not, kw_and_and, c, a1]
theorem it_all {pt : List Pt} {m : Nat} (hpt : ∀ p ∈ pt, Sz m p.2) (hm : m ≤ 700) : ∀ (fs : List Fm) (n : Nat), FmsOk RwT fs → fdeps fs < n → ∀ f ∈ fs, PG.R_is_true n [fmD f, psD pt] = .ok (.bool (ev (ptF pt) f))
  | [], _, _, _ => fun f hf => by cases hf
  | g :: fs, n, h, hd => by
    rw [FmsOk] at h
    rw [fdeps] at hd
    have e1 := it_ok hpt hm g n h.1 (by omega)
    have e2 := it_all hpt hm fs n h.2 (by omega)
    intro f hf
    rcases List.mem_cons.mp hf with rfl | hf
    · exact e1
    · exact e2 f hf
end
def negP (q : Qn) : Qn := (-q.1, q.2)
def negPs (ps : List Pt) : List Pt := ps.map fun p => (p.1, negP p.2)
def oppF (r : Rw) : Fm := if r.2.1 = "<=" then .row (negPs r.1, "<", negP r.2.2) else if r.2.1 = "<" then .row (negPs r.1, "<=", negP r.2.2) else .jn false [.row (r.1, "<", r.2.2), .row (negPs r.1, "<", negP r.2.2)]
mutual
def plF : Fm → Bool → Fm
  | .row r, d => if d then oppF r else .row r
  | .tt, d => if d then .ff else .tt
  | .ff, d => if d then .tt else .ff
  | .neg f, d => plF f (!d)
  | .jn b fs, d => .jn (b != d) (plFs fs d)
def plFs : List Fm → Bool → List Fm
  | [], _ => []
  | f :: fs, d => plF f d :: plFs fs d
end
theorem plFs_map (d : Bool) : ∀ fs : List Fm, plFs fs d = fs.map fun f => plF f d
  | [] => rfl
  | f :: fs => by rw [plFs, plFs_map d fs]; rfl
theorem qsub_neg {q : Qn} (h : Low q) : qsub (0, 1) q = negP q := by
  have hp := h.pos
  have L2 : Low (negP q) := ⟨hp, by show Nat.gcd _ _ = 1; have := h.co; simpa [negP] using this⟩
  refine rv_ext (low_nrm (Int.mul_ne_zero (by decide) (by omega))) L2 ?_
  rw [rv_sub (by omega) (by decide), rv01]
  unfold rv negP
  push_cast
  grind
theorem flip_neg {ps : List Pt} (h : ∀ p ∈ ps, Low p.2) : flipM ps = negPs ps := by
  unfold flipM negPs
  refine List.map_congr_left fun p hp => ?_
  rw [qsub_neg (h p hp)]
theorem opp_eq {r : Rw} (h : RwT r) : (oppM r).map Fm.row = (match oppF r with | .jn _ fs => fs | f => [f]) := by
  have R := RwT.big h
  have e1 := same_fix R (sg := "<") (by decide)
  have e2 := turn_fix R (sg := "<") (by decide)
  have e3 := turn_fix R (sg := "<=") (by decide)
  rw [qsub_neg R.low, flip_neg fun p hp => (R.can.low p hp).1] at e2 e3
  unfold oppM oppF undM aboM aboE
  rw [qsub_neg R.low, flip_neg fun p hp => (R.can.low p hp).1, e1, e2, e3]
  rcases h.sgn with e | e | e <;> rw [e] <;> rfl
theorem R_plain_succ (n : Nat) : PG.R_plain (n + 1) = (fn1 (PG.B_plain (PG.R_plain n).1 (PG.R_plain n).2), fn1 (PG.B__plain_not (PG.R_plain n).1 (PG.R_plain n).2)) := id rfl
theorem inJ {w : Str} (h : PySem.PyData.strOk w = true) : dIn3 (.str w) (.tuple [.str "and", .str "or"]) = some (.bool (("and" == w) || ("or" == w))) := by
  show (if SeqAt.shaped (.str w) = true ∧ SeqAt.shaped (.tuple [.str "and", .str "or"]) = true then some (PyData.bool ([PyData.str "and", .str "or"].any fun z => PyData.eqv z (.str w))) else none) = _
  rw [if_pos ⟨str_shaped h, by decide +kernel⟩]
  simp [PyData.eqv]
theorem inJ_row : dIn3 (.str "row") (.tuple [.str "and", .str "or"]) = some (.bool false) := by rw [inJ okw_row]; exact congrArg (fun b => some (PyData.bool b)) (by decide +kernel)
theorem inJ_true : dIn3 (.str "true") (.tuple [.str "and", .str "or"]) = some (.bool false) := by rw [inJ okw_true]; exact congrArg (fun b => some (PyData.bool b)) (by decide +kernel)
theorem inJ_false : dIn3 (.str "false") (.tuple [.str "and", .str "or"]) = some (.bool false) := by rw [inJ okw_false]; exact congrArg (fun b => some (PyData.bool b)) (by decide +kernel)
theorem inJ_jw (b : Bool) : dIn3 (.str (jw b)) (.tuple [.str "and", .str "or"]) = some (.bool true) := by
  cases b
  · show dIn3 (.str "or") _ = _
    rw [inJ okw_or]; exact congrArg (fun b => some (PyData.bool b)) (by decide +kernel)
  · show dIn3 (.str "and") _ = _
    rw [inJ okw_and]; exact congrArg (fun b => some (PyData.bool b)) (by decide +kernel)
theorem jw_not (b : Bool) : dEq (.str (jw b)) (.str "not") = some (.bool false) := by cases b; exact kw_or_not; exact kw_and_not
theorem jw_row (b : Bool) : dEq (.str (jw b)) (.str "row") = some (.bool false) := by cases b; exact kw_or_row; exact kw_and_row
theorem turn_jw (b : Bool) : ([("and", "or"), ("or", "and"), ("true", "false"), ("false", "true")] : List (Str × Str)).find? (fun p => decide (p.1 = jw b)) = some (jw b, jw (!b)) := by cases b <;> decide +kernel
theorem turn_tt : ([("and", "or"), ("or", "and"), ("true", "false"), ("false", "true")] : List (Str × Str)).find? (fun p : Str × Str => decide (p.1 = ("true" : Str))) = some (("true" : Str), ("false" : Str)) := by decide +kernel
theorem turn_ff : ([("and", "or"), ("or", "and"), ("true", "false"), ("false", "true")] : List (Str × Str)).find? (fun p : Str × Str => decide (p.1 = ("false" : Str))) = some (("false" : Str), ("true" : Str)) := by decide +kernel
theorem opp_run {r : Rw} (h : RwT r) : PG.m__joined [.str "or", .list ((oppM r).map fun o => .tuple [.str "row", rD o])] = .ok (fmD (oppF r)) := by
  have e : ((oppM r).map fun o => PyData.tuple [.str "row", rD o]) = ((oppM r).map Fm.row).map fmD := by
    rw [List.map_map]
    refine List.map_congr_left fun o _ => ?_
    show _ = fmD (.row o)
    rw [fmD]
  rw [e, opp_eq h]
  have j1 : ∀ d : PyData, PG.m__joined [.str "or", .list [d]] = .ok d := fun d => by
    show PG.B__joined (.str "or") (.list [d]) = _
    simp [PG.B__joined, PG.S__joined]
  have j2 : ∀ d e : PyData, PG.m__joined [.str "or", .list [d, e]] = .ok (.tuple [.str "or", .tuple [d, e]]) := fun d e => by
    show PG.B__joined (.str "or") (.list [d, e]) = _
    simp [PG.B__joined, PG.S__joined]
  unfold oppF
  rcases h.sgn with e | e | e <;> rw [e]
  · rw [if_pos rfl]
    exact j1 _
  · rw [if_neg (by decide), if_pos rfl]
    exact j1 _
  · rw [if_neg (by decide), if_neg (by decide)]
    show PG.m__joined [.str "or", .list [fmD _, fmD _]] = _
    rw [j2]
    rfl
mutual
theorem pl_ok : ∀ (f : Fm) (n : Nat), FmOk RwT f → fdep f < n → (PG.R_plain n).1 [fmD f] = .ok (fmD (plF f false)) ∧ (PG.R_plain n).2 [fmD f] = .ok (fmD (plF f true))
  | f, 0, _, h => absurd h (Nat.not_lt_zero _)
  | .row r, n + 1, h, _ => by
    rw [R_plain_succ]
    rw [FmOk] at h
    rw [fmD, plF, plF]
    have o1 : PG.m_opposites [rD r] = .ok (.list ((oppM r).map rD)) := pg_oppositesG (RwT.good h)
    have o2 := opp_run h
    have lo := opp_len r
    have c : ∀ a0 a1 a2, compL (nameT 3) yesT (tupF (consA (cF (.str "row")) (consA (varF 3) nilA))) [.d a0, .d a1, a2, .un] ((oppM r).map rD) [] = some ((oppM r).map fun o => .tuple [.str "row", rD o]) := by
      intro a0 a1 a2
      refine compL_map rD (fun o => PyData.tuple [.str "row", rD o]) (oppM r) (fun o _ => ?_) (by omega)
      generalize rD o = R at *
      simp
    constructor
    · show PG.B_plain _ _ _ = _
      rw [show (if (false : Bool) = true then oppF r else Fm.row r) = Fm.row r from rfl, fmD]
      generalize rD r = R at *
      simp [PG.B_plain, PG.S_plain, kw_row_not, inJ_row]
    · show PG.B__plain_not _ _ _ = _
      rw [if_pos rfl]
      generalize (oppM r).map (fun o => PyData.tuple [.str "row", rD o]) = OO at *
      generalize (oppM r).map rD = O1 at *
      generalize rD r = R at *
      generalize fmD (oppF r) = F at *
      simp [PG.B__plain_not, PG.S__plain_not, kw_row_not, inJ_row, kw_row_row, o1, c, o2]
  | .tt, n + 1, _, _ => by
    rw [R_plain_succ]
    rw [fmD, plF, plF]
    constructor
    · show PG.B_plain _ _ _ = _
      simp [PG.B_plain, PG.S_plain, kw_true_not, inJ_true, fmD]
    · show PG.B__plain_not _ _ _ = _
      simp [PG.B__plain_not, PG.S__plain_not, kw_true_not, inJ_true, kw_true_row, turn_tt, fmD]
  | .ff, n + 1, _, _ => by
    rw [R_plain_succ]
    rw [fmD, plF, plF]
    constructor
    · show PG.B_plain _ _ _ = _
      simp [PG.B_plain, PG.S_plain, kw_false_not, inJ_false, fmD]
    · show PG.B__plain_not _ _ _ = _
      simp [PG.B__plain_not, PG.S__plain_not, kw_false_not, inJ_false, kw_false_row, turn_ff, fmD]
  | .neg f, n + 1, h, hd => by
    rw [R_plain_succ]
    rw [FmOk] at h
    rw [fdep] at hd
    obtain ⟨e1, e2⟩ := pl_ok f n h (by omega)
    rw [fmD, plF, plF]
    generalize fmD f = F at *
    generalize PG.R_plain n = RR at *
    constructor
    · show PG.B_plain _ _ _ = _
      simp [PG.B_plain, PG.S_plain, kw_not_not, e2]
    · show PG.B__plain_not _ _ _ = _
      simp [PG.B__plain_not, PG.S__plain_not, kw_not_not, e1]
  | .jn b fs, n + 1, h, hd => by
    rw [R_plain_succ]
    rw [FmOk] at h
    rw [fdep] at hd
    have es := pl_all fs n h.2 (by omega)
    rw [plF, plF, fmD, fmD, fmD, fmDs_map, fmDs_map, fmDs_map, plFs_map, plFs_map, List.map_map, List.map_map]
    have c1 : ∀ w, compL (nameT 2) yesT (callF (PG.R_plain n).1 (consA (varF 2) nilA)) [.d (.tuple [.str (jw b), .tuple (fs.map fmD)]), w, .un] (fs.map fmD) [] = some (fs.map (fmD ∘ fun f => plF f false)) := by
      intro w
      refine compL_map fmD (fmD ∘ fun f => plF f false) fs (fun f hf => ?_) (by omega)
      have e := (es f hf).1
      generalize fs.map fmD = FS at *
      show _ = some (fmD (plF f false))
      generalize fmD (plF f false) = G at *
      generalize fmD f = F at *
      generalize PG.R_plain n = RR at *
      simp [e]
    have c2 : ∀ w u, compL (nameT 2) yesT (callF (PG.R_plain n).2 (consA (varF 2) nilA)) [.d (.tuple [.str (jw b), .tuple (fs.map fmD)]), w, .un, u] (fs.map fmD) [] = some (fs.map (fmD ∘ fun f => plF f true)) := by
      intro w u
      refine compL_map fmD (fmD ∘ fun f => plF f true) fs (fun f hf => ?_) (by omega)
      have e := (es f hf).2
      generalize fs.map fmD = FS at *
      show _ = some (fmD (plF f true))
      generalize fmD (plF f true) = G at *
      generalize fmD f = F at *
      generalize PG.R_plain n = RR at *
      simp [e]
    generalize fs.map (fmD ∘ fun f => plF f false) = A1 at *
    generalize fs.map (fmD ∘ fun f => plF f true) = A2 at *
    generalize fs.map fmD = FS at *
    generalize PG.R_plain n = RR at *
    constructor
    · show PG.B_plain _ _ _ = _
      simp [PG.B_plain, PG.S_plain, jw_not, inJ_jw, c1]
    · show PG.B__plain_not _ _ _ = _
      simp [PG.B__plain_not, PG.S__plain_not, jw_not, inJ_jw, c2, turn_jw]
theorem pl_all : ∀ (fs : List Fm) (n : Nat), FmsOk RwT fs → fdeps fs < n → ∀ f ∈ fs, (PG.R_plain n).1 [fmD f] = .ok (fmD (plF f false)) ∧ (PG.R_plain n).2 [fmD f] = .ok (fmD (plF f true))
  | [], _, _, _ => fun f hf => by cases hf
  | g :: fs, n, h, hd => by
    rw [FmsOk] at h
    rw [fdeps] at hd
    have e1 := pl_ok g n h.1 (by omega)
    have e2 := pl_all fs n h.2 (by omega)
    intro f hf
    rcases List.mem_cons.mp hf with rfl | hf
    · exact e1
    · exact e2 f hf
end
end DL
set_option exponentiation.threshold 5000
namespace DL
open PySem PySem.Spec PyProof.Rows L2 RT
theorem nrm_of_rowM {X : Rw} {ps : List Pt} {sg : Str} {b : Qn} (hp : ∀ p ∈ ps, 0 < p.2.2) (lb : Low b) (e : rowM ps sg b = X) : normM X = X := by
  rw [← e]
  exact norm_norm (posR_parts hp lb)
theorem opp_rows {r : Rw} (h : RwT r) : RwT (r.1, "<", r.2.2) ∧ RwT (negPs r.1, "<", negP r.2.2) ∧ RwT (negPs r.1, "<=", negP r.2.2) := by
  have R := RwT.big h
  have lo : ∀ p ∈ r.1, Low p.2 := fun p hp => (R.can.low p hp).1
  have pos : ∀ p ∈ r.1, 0 < p.2.2 := fun p hp => (lo p hp).pos
  have e1 := same_fix R (sg := "<") (by decide)
  have e2 := turn_fix R (sg := "<") (by decide)
  have e3 := turn_fix R (sg := "<=") (by decide)
  have fp : ∀ p ∈ flipM r.1, 0 < p.2.2 := fun p hp => by
    obtain ⟨q, hq, rfl⟩ := List.mem_map.mp hp
    exact nrm_pos (by have := pos q hq; simp; omega)
  have n2 := nrm_of_rowM fp (neg_low R.low) e2
  have n3 := nrm_of_rowM fp (neg_low R.low) e3
  rw [qsub_neg R.low, flip_neg lo] at n2 n3
  have cn : Can leS (negPs r.1) := by rw [← flip_neg lo]; exact can_flipS R.can
  have ln : Low (negP r.2.2) := by rw [← qsub_neg R.low]; exact neg_low R.low
  have mem : ∀ p ∈ negPs r.1, ∃ q ∈ r.1, p = (q.1, negP q.2) := fun p hp => by
    obtain ⟨q, hq, e⟩ := List.mem_map.mp hp
    exact ⟨q, hq, e.symm⟩
  have i1 : ∀ p ∈ negPs r.1, p.2.2 = 1 ∧ p.2.1.natAbs ≤ 2 ^ 2 := fun p hp => by
    obtain ⟨q, hq, rfl⟩ := mem p hp
    obtain ⟨a, b⟩ := h.int q hq
    exact ⟨a, by show (-q.2.1).natAbs ≤ _; rw [Int.natAbs_neg]; exact b⟩
  have i2 : ∀ p ∈ negPs r.1, p.1 ∈ L3 := fun p hp => by
    obtain ⟨q, hq, rfl⟩ := mem p hp
    exact h.nm q hq
  have bd : (negP r.2.2).1.natAbs ≤ 2 ^ 4 ∧ (negP r.2.2).2.natAbs ≤ 2 ^ 4 := ⟨by show (-r.2.2.1).natAbs ≤ _; rw [Int.natAbs_neg]; exact h.bd.1, h.bd.2⟩
  exact ⟨⟨h.int, h.bd, h.nm, h.can, nrm_of_rowM pos R.low e1, h.low, .inr (.inl rfl)⟩, ⟨i1, bd, i2, cn, n2, ln, .inr (.inl rfl)⟩, ⟨i1, bd, i2, cn, n3, ln, .inl rfl⟩⟩
theorem oppF_ok {r : Rw} (h : RwT r) : FmOk RwT (oppF r) := by
  obtain ⟨a, b, c⟩ := opp_rows h
  unfold oppF
  split
  · rw [FmOk]; exact b
  · split
    · rw [FmOk]; exact c
    · rw [FmOk]; exact ⟨(show 2 ≤ 1000 by decide), by rw [FmsOk, FmsOk, FmsOk, FmOk, FmOk]; exact ⟨a, b, trivial⟩⟩
theorem oppF_dep (r : Rw) : fdep (oppF r) ≤ 1 := by
  unfold oppF
  split
  · rw [fdep]; omega
  · split
    · rw [fdep]; omega
    · rw [fdep, fdeps, fdeps, fdeps, fdep, fdep]; decide
theorem oppF_ev {r : Rw} (h : RwT r) (φ : Str → Rat) : ev φ (oppF r) = !holdsF φ r := by
  have G := RwT.good h
  have i := opp_iff G h.can φ
  have e := opp_eq h
  have q : ev φ (oppF r) = (oppM r).any (holdsF φ) := by
    have a1 : (oppM r).any (holdsF φ) = ((oppM r).map Fm.row).any (ev φ) := by
      rw [List.any_map]
      congr 1
    rw [a1, e]
    unfold oppF
    split
    · simp
    · split
      · simp
      · rw [ev, evO_any]; rfl
  rw [q]
  cases hh : holdsF φ r with
  | true =>
    rw [Bool.not_true, ← Bool.not_eq_true]
    intro z
    obtain ⟨o, ho, z⟩ := List.any_eq_true.mp z
    have := i.mp ⟨o, ho, z⟩
    rw [hh] at this
    cases this
  | false =>
    obtain ⟨o, ho, z⟩ := i.mpr hh
    exact List.any_eq_true.mpr ⟨o, ho, z⟩
mutual
theorem plF_ok : ∀ (f : Fm) (d : Bool), FmOk RwT f → FmOk RwT (plF f d)
  | .row r, d, h => by
    rw [FmOk] at h
    rw [plF]
    split
    · exact oppF_ok h
    · rw [FmOk]; exact h
  | .tt, d, _ => by rw [plF]; split <;> rw [FmOk] <;> trivial
  | .ff, d, _ => by rw [plF]; split <;> rw [FmOk] <;> trivial
  | .neg f, d, h => by
    rw [FmOk] at h
    rw [plF]
    exact plF_ok f _ h
  | .jn b fs, d, h => by
    rw [FmOk] at h
    rw [plF, FmOk]
    exact ⟨by rw [plFs_map, List.length_map]; exact h.1, plFs_ok fs d h.2⟩
theorem plFs_ok : ∀ (fs : List Fm) (d : Bool), FmsOk RwT fs → FmsOk RwT (plFs fs d)
  | [], _, _ => by rw [plFs, FmsOk]; trivial
  | f :: fs, d, h => by
    rw [FmsOk] at h
    rw [plFs, FmsOk]
    exact ⟨plF_ok f d h.1, plFs_ok fs d h.2⟩
end
mutual
theorem plF_dep : ∀ (f : Fm) (d : Bool), fdep (plF f d) ≤ fdep f + 1
  | .row r, d => by
    rw [plF]
    split
    · have := oppF_dep r; omega
    · omega
  | .tt, d => by rw [plF]; split <;> simp [fdep]
  | .ff, d => by rw [plF]; split <;> simp [fdep]
  | .neg f, d => by
    rw [plF, fdep]
    have := plF_dep f (!d)
    omega
  | .jn b fs, d => by
    rw [plF, fdep, fdep]
    have := plFs_dep fs d
    omega
theorem plFs_dep : ∀ (fs : List Fm) (d : Bool), fdeps (plFs fs d) ≤ fdeps fs + 1
  | [], _ => by rw [plFs, fdeps]; omega
  | f :: fs, d => by
    rw [plFs, fdeps, fdeps]
    have := plF_dep f d
    have := plFs_dep fs d
    omega
end
theorem any_not {α : Type} (g : α → Bool) : ∀ xs : List α, (xs.any fun x => !g x) = !xs.all g
  | [] => rfl
  | x :: xs => by rw [List.any_cons, List.all_cons, any_not g xs, Bool.not_and]
theorem all_not {α : Type} (g : α → Bool) : ∀ xs : List α, (xs.all fun x => !g x) = !xs.any g
  | [] => rfl
  | x :: xs => by rw [List.any_cons, List.all_cons, all_not g xs, Bool.not_or]
mutual
theorem plF_ev (φ : Str → Rat) : ∀ (f : Fm) (d : Bool), FmOk RwT f → ev φ (plF f d) = (ev φ f != d)
  | .row r, d, h => by
    rw [FmOk] at h
    rw [plF, ev]
    cases d
    · rw [if_neg (by decide), ev]; simp
    · rw [if_pos rfl, oppF_ev h]; simp
  | .tt, d, _ => by rw [plF, ev]; cases d <;> rfl
  | .ff, d, _ => by rw [plF, ev]; cases d <;> rfl
  | .neg f, d, h => by
    rw [FmOk] at h
    rw [plF, ev, plF_ev φ f (!d) h]
    cases ev φ f <;> cases d <;> rfl
  | .jn b fs, d, h => by
    rw [FmOk] at h
    have es := plFs_ev φ fs d h.2
    rw [plF, ev, ev, evA_all, evO_any, evA_all, evO_any]
    have m1 : (plFs fs d).all (ev φ) = fs.all fun f => ev φ f != d := by
      rw [plFs_map, List.all_map, Bool.eq_iff_iff, List.all_eq_true, List.all_eq_true]
      exact ⟨fun z f hf => by rw [← es f hf]; exact z f hf, fun z f hf => by rw [Function.comp, es f hf]; exact z f hf⟩
    have m2 : (plFs fs d).any (ev φ) = fs.any fun f => ev φ f != d := by
      rw [plFs_map, List.any_map, Bool.eq_iff_iff, List.any_eq_true, List.any_eq_true]
      exact ⟨fun ⟨f, hf, z⟩ => ⟨f, hf, by rw [← es f hf]; exact z⟩, fun ⟨f, hf, z⟩ => ⟨f, hf, by rw [Function.comp, es f hf]; exact z⟩⟩
    rw [m1, m2]
    cases d
    · simp
    · have e : (fun f => ev φ f != true) = fun f => !ev φ f := by funext f; cases ev φ f <;> rfl
      rw [e, any_not, all_not]
      cases b <;> simp
theorem plFs_ev (φ : Str → Rat) : ∀ (fs : List Fm) (d : Bool), FmsOk RwT fs → ∀ f ∈ fs, ev φ (plF f d) = (ev φ f != d)
  | [], _, _ => fun f hf => by cases hf
  | g :: fs, d, h => by
    rw [FmsOk] at h
    have e1 := plF_ev φ g d h.1
    have e2 := plFs_ev φ fs d h.2
    intro f hf
    rcases List.mem_cons.mp hf with rfl | hf
    · exact e1
    · exact e2 f hf
end
theorem oppF_plain (r : Rw) : plF (oppF r) false = oppF r := by
  unfold oppF
  split
  · rw [plF]; rfl
  · split
    · rw [plF]; rfl
    · rw [plF, plFs, plFs, plFs, plF, plF]; rfl
mutual
theorem plF_plain : ∀ (f : Fm) (d : Bool), plF (plF f d) false = plF f d
  | .row r, d => by
    rw [plF]
    split
    · exact oppF_plain r
    · rw [plF]; rfl
  | .tt, d => by rw [plF]; split <;> (rw [plF]; rfl)
  | .ff, d => by rw [plF]; split <;> (rw [plF]; rfl)
  | .neg f, d => by rw [plF]; exact plF_plain f (!d)
  | .jn b fs, d => by
    rw [plF, plF, plFs_plain fs d]
    simp
theorem plFs_plain : ∀ (fs : List Fm) (d : Bool), plFs (plFs fs d) false = plFs fs d
  | [], _ => rfl
  | f :: fs, d => by rw [plFs, plFs, plF_plain f d, plFs_plain fs d]
end
theorem lf_opposite {r : Rw} (h : RwT r) : LF.m_opposite [rD r] = .ok (fmD (oppF r)) := by
  have l3 := RwT.len3 h
  have c : ∀ a0 a1 a4, compL (tupT 2 (consTs (nameT 2) (consTs (nameT 3) nilTs))) yesT (tupF (consA (varF 2) (consA (tupF (consA (binF dSub (cF (.int 0)) (binF dIx (varF 3) (cF (.int 0)))) (consA (binF dIx (varF 3) (cF (.int 1))) nilA))) nilA))) [.d a0, a1, .un, .un, a4] (r.1.map pD) [] = some ((negPs r.1).map pD) := by
    intro a0 a1 a4
    rw [compL_map pD (fun p => pD (p.1, negP p.2)) r.1 (fun p _ => ?_) (by omega)]
    · unfold negPs; rw [List.map_map]; rfl
    · simp [negP]
  have ll : bLen (.tuple ((negPs r.1).map pD)) = some (.int (r.1.length : Int)) := by simp [bLen, negPs]
  have b0 : negP r.2.2 = (-r.2.2.1, r.2.2.2) := rfl
  have e0 : r.1 = [] → (negPs r.1).map pD = [] ∧ r.1.map pD = [] := fun z => by rw [z]; exact ⟨rfl, rfl⟩
  have q1 := dEq_s h.sgn.ok ok_le
  have q2 := dEq_s h.sgn.ok ok_lt
  have hs := h.sgn
  show LF.B_opposite _ = _
  unfold oppF
  obtain ⟨P, sg, b1, b2⟩ := r
  simp only at c ll b0 q1 q2 hs e0 l3 ⊢
  have ps : psD P = .tuple (P.map pD) := rfl
  have rd : rD (P, sg, b1, b2) = .tuple [psD P, .str sg, .tuple [.int b1, .int b2]] := rfl
  rw [rd, ps]
  have np : ∀ s : Str, fmD (.row (negPs P, s, negP (b1, b2))) = .tuple [.str "row", .tuple [.tuple ((negPs P).map pD), .str s, .tuple [.int (-b1), .int b2]]] := fun s => by first | (rw [fmD]; done) | (rw [fmD]; rfl)
  have sp : ∀ s : Str, fmD (.row (P, s, b1, b2)) = .tuple [.str "row", .tuple [.tuple (P.map pD), .str s, .tuple [.int b1, .int b2]]] := fun s => by first | (rw [fmD]; done) | (rw [fmD]; rfl)
  have fo : fmD (.jn false [.row (P, "<", b1, b2), .row (negPs P, "<", negP (b1, b2))]) = .tuple [.str "or", .tuple [fmD (.row (P, "<", b1, b2)), fmD (.row (negPs P, "<", negP (b1, b2)))]] := by
    rw [show ∀ (x y : Fm), fmD (.jn false [x, y]) = .tuple [.str (jw false), .tuple (fmDs [x, y])] from fun x y => by rw [fmD], fmDs, fmDs, fmDs]
    rfl
  rcases hs with rfl | rfl | rfl
  · rw [if_pos rfl, np]
    have d1 : (("<=" : Str) == "<=") = true := by decide
    rw [d1] at q1
    generalize (negPs P).map pD = NP at *
    generalize P.map pD = PP at *
    simp [LF.B_opposite, LF.S_opposite, c, q1]
  · rw [if_neg (by decide), if_pos rfl, np]
    have d1 : (("<" : Str) == "<=") = false := by decide
    have d2 : (("<" : Str) == "<") = true := by decide
    rw [d1] at q1; rw [d2] at q2
    generalize (negPs P).map pD = NP at *
    generalize P.map pD = PP at *
    simp [LF.B_opposite, LF.S_opposite, c, q1, q2]
  · rw [if_neg (by decide), if_neg (by decide), fo, np, sp]
    have d1 : (("=" : Str) == "<=") = false := by decide
    have d2 : (("=" : Str) == "<") = false := by decide
    rw [d1] at q1; rw [d2] at q2
    by_cases z : P = [] ∧ b1 = 0
    · obtain ⟨z1, z2⟩ := z
      obtain ⟨z3, z4⟩ := e0 z1
      have zl : (P.length : Int) = 0 := by rw [z1]; rfl
      rw [z3, zl] at ll
      have c' : ∀ a0 a1 a4, compL (tupT 2 (consTs (nameT 2) (consTs (nameT 3) nilTs))) yesT (tupF (consA (varF 2) (consA (tupF (consA (binF dSub (cF (.int 0)) (binF dIx (varF 3) (cF (.int 0)))) (consA (binF dIx (varF 3) (cF (.int 1))) nilA))) nilA))) [.d a0, a1, .un, .un, a4] [] [] = some [] := fun a0 a1 a4 => by
        have := c a0 a1 a4
        rwa [z3, z4] at this
      rw [z3, z4]
      subst z2
      simp [LF.B_opposite, LF.S_opposite, c', q1, q2, ll]
    · have tst : ((P.length : Int) == 0 && b1 == 0) = false := by
        rw [Bool.and_eq_false_iff]
        by_cases z1 : P = []
        · right; simpa using fun z2 => z ⟨z1, z2⟩
        · left; simpa using z1
      generalize hln : (P.length : Int) = LN at *
      generalize (negPs P).map pD = NP at *
      generalize P.map pD = PP at *
      cases h1 : (LN == 0) with
      | false => simp [LF.B_opposite, LF.S_opposite, c, q1, q2, ll, h1]
      | true =>
        rw [h1, Bool.true_and] at tst
        simp [LF.B_opposite, LF.S_opposite, c, q1, q2, ll, h1, tst]
theorem LR_plain_succ (n : Nat) : LF.R_plain (n + 1) = fn2 (LF.B_plain (LF.R_plain n)) := id rfl
mutual
theorem lf_plain : ∀ (f : Fm) (n : Nat) (d : Bool), FmOk RwT f → fdep f < n → LF.R_plain n [fmD f, .bool d] = .ok (fmD (plF f d))
  | f, 0, _, _, h => absurd h (Nat.not_lt_zero _)
  | .row r, n + 1, d, h, _ => by
    rw [LR_plain_succ]
    rw [FmOk] at h
    have o := lf_opposite h
    show LF.B_plain _ _ _ = _
    rw [fmD, plF]
    cases d
    · rw [if_neg (by decide), fmD]
      generalize rD r = R at *
      simp [LF.B_plain, LF.S_plain, kw_row_not, kw_row_and, kw_row_or, kw_row_row]
    · rw [if_pos rfl]
      generalize fmD (oppF r) = F at *
      generalize rD r = R at *
      simp [LF.B_plain, LF.S_plain, kw_row_not, kw_row_and, kw_row_or, kw_row_row, o]
  | .tt, n + 1, d, _, _ => by
    rw [LR_plain_succ]
    show LF.B_plain _ _ _ = _
    rw [fmD, plF]
    cases d
    · rw [if_neg (by decide), fmD]
      simp [LF.B_plain, LF.S_plain, kw_true_not, kw_true_and, kw_true_or, kw_true_row]
    · rw [if_pos rfl, fmD]
      simp [LF.B_plain, LF.S_plain, kw_true_not, kw_true_and, kw_true_or, kw_true_row, kw_true_true, bInt]
  | .ff, n + 1, d, _, _ => by
    rw [LR_plain_succ]
    show LF.B_plain _ _ _ = _
    rw [fmD, plF]
    cases d
    · rw [if_neg (by decide), fmD]
      simp [LF.B_plain, LF.S_plain, kw_false_not, kw_false_and, kw_false_or, kw_false_row]
    · rw [if_pos rfl, fmD]
      simp [LF.B_plain, LF.S_plain, kw_false_not, kw_false_and, kw_false_or, kw_false_row, kw_false_true, bInt]
  | .neg f, n + 1, d, h, hd => by
    rw [LR_plain_succ]
    rw [FmOk] at h
    rw [fdep] at hd
    have e := lf_plain f n (!d) h (by omega)
    show LF.B_plain _ _ _ = _
    rw [fmD, plF]
    generalize fmD f = F at *
    generalize fmD (plF f (!d)) = G at *
    generalize LF.R_plain n = RR at *
    simp [LF.B_plain, LF.S_plain, kw_not_not, e]
  | .jn b fs, n + 1, d, h, hd => by
    rw [LR_plain_succ]
    rw [FmOk] at h
    rw [fdep] at hd
    have es := lf_plains fs n d h.2 (by omega)
    show LF.B_plain _ _ _ = _
    rw [plF, fmD, fmD, fmDs_map, fmDs_map, plFs_map, List.map_map]
    have c : ∀ w, compL (nameT 3) yesT (callF (LF.R_plain n) (consA (varF 3) (consA (varF 1) nilA))) [.d (.tuple [.str (jw b), .tuple (fs.map fmD)]), .d (.bool d), w, .un] (fs.map fmD) [] = some (fs.map (fmD ∘ fun f => plF f d)) := by
      intro w
      refine compL_map fmD (fmD ∘ fun f => plF f d) fs (fun f hf => ?_) (by omega)
      have e := es f hf
      generalize fs.map fmD = FS at *
      show _ = some (fmD (plF f d))
      generalize fmD (plF f d) = G at *
      generalize fmD f = F at *
      generalize LF.R_plain n = RR at *
      simp [e]
    generalize fs.map (fmD ∘ fun f => plF f d) = A1 at *
    generalize fs.map fmD = FS at *
    generalize LF.R_plain n = RR at *
    cases b
    · have w : jw false = "or" := rfl
      rw [w] at c ⊢
      cases d
      · have w2 : jw (false != false) = "or" := rfl
        rw [w2]
        simp [LF.B_plain, LF.S_plain, kw_or_not, kw_or_and, kw_or_or, c]
      · have w2 : jw (false != true) = "and" := rfl
        rw [w2]
        simp [LF.B_plain, LF.S_plain, kw_or_not, kw_or_and, kw_or_or, c, bInt]
    · have w : jw true = "and" := rfl
      rw [w] at c ⊢
      cases d
      · have w2 : jw (true != false) = "and" := rfl
        rw [w2]
        simp [LF.B_plain, LF.S_plain, kw_and_not, kw_and_and, c]
      · have w2 : jw (true != true) = "or" := rfl
        rw [w2]
        simp [LF.B_plain, LF.S_plain, kw_and_not, kw_and_and, c, bInt]
theorem lf_plains : ∀ (fs : List Fm) (n : Nat) (d : Bool), FmsOk RwT fs → fdeps fs < n → ∀ f ∈ fs, LF.R_plain n [fmD f, .bool d] = .ok (fmD (plF f d))
  | [], _, _, _, _ => fun f hf => by cases hf
  | g :: fs, n, d, h, hd => by
    rw [FmsOk] at h
    rw [fdeps] at hd
    have e1 := lf_plain g n d h.1 (by omega)
    have e2 := lf_plains fs n d h.2 (by omega)
    intro f hf
    rcases List.mem_cons.mp hf with rfl | hf
    · exact e1
    · exact e2 f hf
end
end DL
set_option exponentiation.threshold 5000
namespace DL
open PySem PySem.Spec PyProof.Rows L2 RT
theorem lfput_loop {a0 a1 : Ent} : ∀ (pt kvs : List Pt) (e3 e4 e5 e6 e7 e8 e9 : Ent), kvs.length + pt.length ≤ 1000 → ∃ e3' e4', loopS (tupT 2 (consTs (nameT 3) (consTs (nameT 4) nilTs))) LF.L_holds_1 (pt.map pD) [a0, a1, .dct (dQ kvs), e3, e4, e5, e6, e7, e8, e9] = .nx [a0, a1, .dct (dQ (pt.foldl (fun k p => putQ k p.1 p.2) kvs)), e3', e4', e5, e6, e7, e8, e9]
  | [], kvs, e3, e4, e5, e6, e7, e8, e9, _ => ⟨e3, e4, rfl⟩
  | p :: pt, kvs, e3, e4, e5, e6, e7, e8, e9, hl => by
    rw [List.length_cons] at hl
    have l1 := putQ_len kvs p.1 p.2
    obtain ⟨f3, f4, z⟩ := lfput_loop (a0 := a0) (a1 := a1) pt (putQ kvs p.1 p.2) (.d (.str p.1)) (.d (N p.2)) e5 e6 e7 e8 e9 (by omega)
    refine ⟨f3, f4, ?_⟩
    have hq : (dQ kvs).length < 16777216 := by simp [dQ]; omega
    have g : putD (dQ kvs) (.inr p.1) (.tuple [.int p.2.1, .int p.2.2]) = dQ (putQ kvs p.1 p.2) := putD_dQ kvs p.1 _
    rw [List.map_cons, List.foldl_cons, loopS_cons (ρ1 := [a0, a1, .dct (dQ kvs), .d (.str p.1), .d (N p.2), e5, e6, e7, e8, e9]) (by simp)]
    have st : LF.L_holds_1 [a0, a1, .dct (dQ kvs), .d (.str p.1), .d (N p.2), e5, e6, e7, e8, e9] = .nx [a0, a1, .dct (dQ (putQ kvs p.1 p.2)), .d (.str p.1), .d (N p.2), e5, e6, e7, e8, e9] := by
      simp [LF.L_holds_1, hq, g, N]
    rw [st]
    exact z
section
variable {m : Nat} {kvs : List Pt} (hv : ∀ x, Sz (m + 1) (getQ kvs x)) (hm : m ≤ 700)
include hv hm
theorem lfhold_loop {a0 a1 : Ent} : ∀ (ps : List Pt) (t b : Int) (S : Rat) (k : Nat) (e3 e4 e7 e8 e9 : Ent), (∀ p ∈ ps, Sz 3 p.2) → Bt k t → Bt k b → k + (m + 8) * ps.length ≤ 8000 → 0 < b → (t : Rat) = S * (b : Rat) →
    ∃ e3' e4' e7' t' b', loopS (tupT 2 (consTs (nameT 3) (consTs (nameT 7) nilTs))) LF.L_holds_2 (ps.map pD) [a0, a1, .dct (dQ kvs), e3, e4, .d (.int t), .d (.int b), e7, e8, e9] = .nx [a0, a1, .dct (dQ kvs), e3', e4', .d (.int t'), .d (.int b'), e7', e8, e9] ∧
      0 < b' ∧ (t' : Rat) = (S + lin (fun x => rv (getQ kvs x)) ps) * (b' : Rat) ∧ Bt (k + (m + 8) * ps.length) t' ∧ Bt (k + (m + 8) * ps.length) b'
  | [], t, b, S, k, e3, e4, e7, e8, e9, _, ht, hb, _, b0, e => ⟨e3, e4, e7, t, b, rfl, b0, by rw [e]; simp only [lin]; grind, by simpa using ht, by simpa using hb⟩
  | p :: ps, t, b, S, k, e3, e4, e7, e8, e9, hp, ht, hb, hk, b0, e => by
    have h1 := hp p List.mem_cons_self
    have v := hv p.1
    rw [List.length_cons, Nat.mul_succ] at hk
    have hk0 : k + (m + 8) ≤ 8000 := by omega
    generalize hq : getQ kvs p.1 = q at *
    have x1 := ht.mul h1.b2
    have x2 := x1.mul v.b2
    have y1 := h1.b1.mul v.b1
    have y2 := y1.mul hb
    have z1 := hb.mul h1.b2
    have z2 := z1.mul v.b2
    have x2' : Bt (k + m + 5) (t * p.2.2 * q.2) := x2.mono (by omega)
    have y2' : Bt (k + m + 5) (p.2.1 * q.1 * b) := y2.mono (by omega)
    have t2 := x2'.add y2'
    have b2 : 0 < b * p.2.2 * q.2 := Int.mul_pos (Int.mul_pos b0 h1.pos) v.pos
    have q0 : ((q.2 : Int) : Rat) ≠ 0 := rc (by have := v.pos; omega)
    have p0 : ((p.2.2 : Int) : Rat) ≠ 0 := rc (by have := h1.pos; omega)
    obtain ⟨f3, f4, f7, t', b', lp, c1, c2, c3, c4⟩ := lfhold_loop (a0 := a0) (a1 := a1) ps (t * p.2.2 * q.2 + p.2.1 * q.1 * b) (b * p.2.2 * q.2) (S + rv p.2 * rv q) (k + (m + 8)) (.d (.str p.1)) (.d (N q)) (.d (N p.2)) e8 e9 (fun r hr => hp r (List.mem_cons_of_mem _ hr)) (t2.mono (by omega)) (z2.mono (by omega)) (by omega) b2 (by
      push_cast
      rw [e]
      unfold rv
      grind)
    refine ⟨f3, f4, f7, t', b', ?_, c1, ?_, c3.mono (by rw [List.length_cons, Nat.mul_succ]; omega), c4.mono (by rw [List.length_cons, Nat.mul_succ]; omega)⟩
    · have vd := valD_dQ kvs p.1
      rw [hq] at vd
      simp only [N] at vd lp
      have s1 : Sm t := ht.sm (by omega)
      have s2 : Sm p.2.2 := h1.b2.sm (by omega)
      have s3 : Sm (t * p.2.2) := x1.sm (by omega)
      have s4 : Sm q.2 := v.b2.sm (by omega)
      have s5 : Sm p.2.1 := h1.b1.sm (by omega)
      have s6 : Sm q.1 := v.b1.sm (by omega)
      have s7 : Sm (p.2.1 * q.1) := y1.sm (by omega)
      have s8 : Sm b := hb.sm (by omega)
      have s9 : Sm (b * p.2.2) := z1.sm (by omega)
      rw [List.map_cons, loopS_cons (ρ1 := [a0, a1, .dct (dQ kvs), .d (.str p.1), e4, .d (.int t), .d (.int b), .d (N p.2), e8, e9]) (by simp)]
      have st : LF.L_holds_2 [a0, a1, .dct (dQ kvs), .d (.str p.1), e4, .d (.int t), .d (.int b), .d (.tuple [.int p.2.1, .int p.2.2]), e8, e9] = .nx [a0, a1, .dct (dQ kvs), .d (.str p.1), .d (.tuple [.int q.1, .int q.2]), .d (.int (t * p.2.2 * q.2 + p.2.1 * q.1 * b)), .d (.int (b * p.2.2 * q.2)), .d (.tuple [.int p.2.1, .int p.2.2]), e8, e9] := by
        simp [LF.L_holds_2, vd, dMul_ok, s1, s2, s3, s4, s5, s6, s7, s8, s9]
      simp only [N]
      rw [st]
      exact lp
    · rw [c2]
      simp only [lin]
      rw [hq]
      grind
end
theorem lf_holds {r : Rw} (h : RwT r) {pt : List Pt} {m : Nat} (hpt : ∀ p ∈ pt, Sz m p.2) (hm : m ≤ 700) (hl : pt.length ≤ 500) : LF.m_holds [rD r, psD pt] = .ok (.bool (holdsF (ptF pt) r)) := by
  have l3 := RwT.len3 h
  have sz3 : ∀ p ∈ r.1, Sz 3 p.2 := fun p hp => by
    obtain ⟨a, b⟩ := h.int p hp
    exact ⟨by rw [a]; decide, Nat.lt_of_le_of_lt b (by decide), by rw [a]; show (1 : Nat) < 8; decide⟩
  obtain ⟨g3, g4, lp1⟩ := lfput_loop (a0 := .d (rD r)) (a1 := .d (psD pt)) pt [] .un .un .un .un .un .un .un (by simp; omega)
  have hv : ∀ x, Sz (m + 1) (getQ (mergeQ pt) x) := fun x => look_sz hpt x
  obtain ⟨f3, f4, f7, t, b, lp2, b0, e, ht, hb⟩ := lfhold_loop hv hm (a0 := .d (rD r)) (a1 := .d (psD pt)) r.1 0 1 0 1 g3 g4 .un .un .un sz3 (by unfold Bt; decide) (by unfold Bt; decide) (by
    have : (m + 8) * r.1.length ≤ (m + 8) * 3 := Nat.mul_le_mul_left _ l3
    omega) (by decide) (by push_cast; grind)
  have kk : 1 + (m + 8) * r.1.length ≤ 8000 := by
    have : (m + 8) * r.1.length ≤ (m + 8) * 3 := Nat.mul_le_mul_left _ l3
    omega
  have e2 : lin (fun x => rv (getQ (mergeQ pt) x)) r.1 = lin (ptF pt) r.1 := rfl
  rw [e2] at e
  have z : dQ [] = [] := rfl
  rw [z] at lp1
  have lp1' : loopS (tupT 2 (consTs (nameT 3) (consTs (nameT 4) nilTs))) LF.L_holds_1 (pt.map pD) [.d (rD r), .d (psD pt), .dct [], .un, .un, .un, .un, .un, .un, .un] = .nx [.d (rD r), .d (psD pt), .dct (dQ (mergeQ pt)), g3, g4, .un, .un, .un, .un, .un] := lp1
  have s1 : Sm t := ht.sm (by omega)
  have s2 : Sm b := hb.sm (by omega)
  have s3 : Sm r.2.2.1 := Bt.sm (n := 8) (Nat.lt_of_le_of_lt h.bd.1 (by decide)) (by decide)
  have s4 : Sm r.2.2.2 := Bt.sm (n := 8) (Nat.lt_of_le_of_lt h.bd.2 (by decide)) (by decide)
  have p2 := h.low.pos
  have b0' : (0 : Rat) < (b : Rat) := by exact_mod_cast b0
  have p2' : (0 : Rat) < (r.2.2.2 : Rat) := by exact_mod_cast p2
  have key1 : (t * r.2.2.2 = r.2.2.1 * b) ↔ lin (ptF pt) r.1 = rv r.2.2 := by
    have : (t * r.2.2.2 = r.2.2.1 * b) ↔ ((t : Rat) * (r.2.2.2 : Rat) = (r.2.2.1 : Rat) * (b : Rat)) := by
      constructor
      · intro h; exact_mod_cast congrArg (fun z : Int => (z : Rat)) h
      · intro h; exact_mod_cast h
    rw [this, e]
    unfold rv
    constructor
    · intro q
      have b1 : (b : Rat) ≠ 0 := by grind
      have c1 : (r.2.2.2 : Rat) ≠ 0 := by grind
      have : (b : Rat) * ((0 + lin (ptF pt) r.1) * (r.2.2.2 : Rat) - (r.2.2.1 : Rat)) = 0 := by grind
      rcases Rat.mul_eq_zero.mp this with z | z
      · exact absurd z b1
      · grind
    · intro q
      rw [q]
      have c1 : (r.2.2.2 : Rat) ≠ 0 := by grind
      grind
  have key2 : (t * r.2.2.2 < r.2.2.1 * b) ↔ lin (ptF pt) r.1 < rv r.2.2 := by
    have : (t * r.2.2.2 < r.2.2.1 * b) ↔ ((t : Rat) * (r.2.2.2 : Rat) < (r.2.2.1 : Rat) * (b : Rat)) := by
      constructor
      · intro h
        have : ((t * r.2.2.2 : Int) : Rat) < ((r.2.2.1 * b : Int) : Rat) := by exact_mod_cast h
        exact_mod_cast this
      · intro h; exact_mod_cast h
    rw [this, e]
    have c1 : (r.2.2.2 : Rat) ≠ 0 := by grind
    have q1 : (0 + lin (ptF pt) r.1) * (b : Rat) * (r.2.2.2 : Rat) = lin (ptF pt) r.1 * ((b : Rat) * (r.2.2.2 : Rat)) := by grind
    have q2 : (r.2.2.1 : Rat) * (b : Rat) = rv r.2.2 * ((b : Rat) * (r.2.2.2 : Rat)) := by unfold rv; grind
    rw [q1, q2]
    have bp : (0 : Rat) < (b : Rat) * (r.2.2.2 : Rat) := Rat.mul_pos b0' p2'
    constructor
    · intro q
      apply Classical.byContradiction
      intro z
      have z' : rv r.2.2 ≤ lin (ptF pt) r.1 := by grind
      have := Rat.mul_le_mul_of_nonneg_right z' (Rat.le_of_lt bp)
      grind
    · intro q
      exact Rat.mul_lt_mul_of_pos_right q bp
  show LF.B_holds _ _ = _
  have hs := h.sgn
  have q1 := dEq_s hs.ok ok_eq
  have q2 := dEq_s hs.ok ok_le
  unfold holdsF holdsR
  rw [show (decide (lin (ptF pt) r.1 = rv r.2.2)) = decide (t * r.2.2.2 = r.2.2.1 * b) from decide_eq_decide.mpr key1.symm, show (decide (lin (ptF pt) r.1 < rv r.2.2)) = decide (t * r.2.2.2 < r.2.2.1 * b) from decide_eq_decide.mpr key2.symm,
    show (decide (lin (ptF pt) r.1 ≤ rv r.2.2)) = decide (t * r.2.2.2 < r.2.2.1 * b ∨ t * r.2.2.2 = r.2.2.1 * b) from decide_eq_decide.mpr (by rw [key1, key2]; constructor <;> intro h <;> grind)]
  have ps : psD pt = .tuple (pt.map pD) := rfl
  rw [ps] at lp1' lp2 ⊢
  obtain ⟨P, sg, c1, c2⟩ := r
  have rd : rD (P, sg, c1, c2) = .tuple [.tuple (P.map pD), .str sg, .tuple [.int c1, .int c2]] := rfl
  rw [rd] at lp1' lp2 ⊢
  simp only at lp2 s3 s4 q1 q2 hs ⊢
  clear key1 key2 hv hpt e2 e sz3 h l3 kk ht hb p2 p2' b0' lp1 ps
  generalize dQ (mergeQ pt) = DD at *
  generalize P.map pD = PP at *
  generalize pt.map pD = TT at *
  have n1 : ¬ (("<=" : Str) = "=") := by decide
  have n2 : ¬ (("<=" : Str) = "<") := by decide
  have n3 : ¬ (("<" : Str) = "=") := by decide
  rcases hs with rfl | rfl | rfl
  · have d1 : (("<=" : Str) == "=") = false := by decide
    have d2 : (("<=" : Str) == "<=") = true := by decide
    rw [d1] at q1; rw [d2] at q2
    by_cases z : t * c2 < c1 * b
    · simp [LF.B_holds, LF.S_holds, lp1', lp2, dMul_ok, s1, s2, s3, s4, q1, q2, z, n1, n2]
    · simp [LF.B_holds, LF.S_holds, lp1', lp2, dMul_ok, s1, s2, s3, s4, q1, q2, z, n1, n2]
      try (rw [Bool.eq_iff_iff]; simp)
  · have d1 : (("<" : Str) == "=") = false := by decide
    have d2 : (("<" : Str) == "<=") = false := by decide
    rw [d1] at q1; rw [d2] at q2
    by_cases z : t * c2 < c1 * b
    · simp [LF.B_holds, LF.S_holds, lp1', lp2, dMul_ok, s1, s2, s3, s4, q1, q2, z, n3]
    · simp [LF.B_holds, LF.S_holds, lp1', lp2, dMul_ok, s1, s2, s3, s4, q1, q2, z, n3]
  · have d1 : (("=" : Str) == "=") = true := by decide
    rw [d1] at q1
    simp [LF.B_holds, LF.S_holds, lp1', lp2, dMul_ok, s1, s2, s3, s4, q1]
    try (rw [Bool.eq_iff_iff]; simp)
end DL
set_option exponentiation.threshold 5000
namespace DL
open PySem PySem.Spec PyProof.Rows L2 RT
theorem in_bools (b : Bool) (bs : List Bool) : dIn3 (.bool b) (.list (bs.map PyData.bool)) = some (.bool (bs.any fun z => z == b)) := by
  have a : PyData.canLayAll0 (bs.map PyData.bool) = true := canAll fun i _ => by simp [PyData.canLay0]
  have d : PyData.depthAll (bs.map PyData.bool) ≤ 1 := depAll fun i _ => by simp [PyData.depth]
  have sh : SeqAt.shaped (.list (bs.map PyData.bool)) = true := by
    simp only [SeqAt.shaped, PyData.canLay0, PyData.depth, a, Bool.true_and]
    exact decide_eq_true (by omega)
  have sb : SeqAt.shaped (.bool b) = true := rfl
  show (if SeqAt.shaped (.bool b) = true ∧ SeqAt.shaped (.list (bs.map PyData.bool)) = true then some (PyData.bool ((bs.map PyData.bool).any fun z => PyData.eqv z (.bool b))) else none) = _
  rw [if_pos ⟨sb, sh⟩, List.any_map]
  congr 2
theorem notin_bools (b : Bool) (bs : List Bool) : dNotIn3 (.bool b) (.list (bs.map PyData.bool)) = some (.bool (!bs.any fun z => z == b)) := by
  have a : PyData.canLayAll0 (bs.map PyData.bool) = true := canAll fun i _ => by simp [PyData.canLay0]
  have d : PyData.depthAll (bs.map PyData.bool) ≤ 1 := depAll fun i _ => by simp [PyData.depth]
  have sh : SeqAt.shaped (.list (bs.map PyData.bool)) = true := by
    simp only [SeqAt.shaped, PyData.canLay0, PyData.depth, a, Bool.true_and]
    exact decide_eq_true (by omega)
  have sb : SeqAt.shaped (.bool b) = true := rfl
  show (if SeqAt.shaped (.bool b) = true ∧ SeqAt.shaped (.list (bs.map PyData.bool)) = true then some (PyData.bool (!(bs.map PyData.bool).any fun z => PyData.eqv z (.bool b))) else none) = _
  rw [if_pos ⟨sb, sh⟩, List.any_map]
  congr 3
theorem LR_true_succ (n : Nat) : LF.R_true (n + 1) = fn2 (LF.B_true (LF.R_true n)) := id rfl
mutual
theorem lt_ok {pt : List Pt} {m : Nat} (hpt : ∀ p ∈ pt, Sz m p.2) (hm : m ≤ 700) (hl : pt.length ≤ 500) : ∀ (f : Fm) (n : Nat), FmOk RwT f → fdep f < n → LF.R_true n [fmD f, psD pt] = .ok (.bool (ev (ptF pt) f))
  | f, 0, _, h => absurd h (Nat.not_lt_zero _)
  | .row r, n + 1, h, _ => by
    rw [LR_true_succ]
    rw [FmOk] at h
    have e := lf_holds h hpt hm hl
    show LF.B_true _ _ _ = _
    rw [fmD, ev]
    generalize rD r = R at *
    generalize psD pt = P at *
    simp [LF.B_true, LF.S_true, kw_row_row, e]
  | .tt, n + 1, _, _ => by
    rw [LR_true_succ]
    show LF.B_true _ _ _ = _
    rw [fmD, ev]
    generalize psD pt = P at *
    simp [LF.B_true, LF.S_true, kw_true_row, kw_true_not, kw_true_and, kw_true_or, kw_true_true]
  | .ff, n + 1, _, _ => by
    rw [LR_true_succ]
    show LF.B_true _ _ _ = _
    rw [fmD, ev]
    generalize psD pt = P at *
    simp [LF.B_true, LF.S_true, kw_false_row, kw_false_not, kw_false_and, kw_false_or, kw_false_true]
  | .neg f, n + 1, h, hd => by
    rw [LR_true_succ]
    rw [FmOk] at h
    rw [fdep] at hd
    have e := lt_ok hpt hm hl f n h (by omega)
    show LF.B_true _ _ _ = _
    rw [fmD, ev]
    generalize fmD f = F at *
    generalize psD pt = P at *
    generalize LF.R_true n = RR at *
    simp [LF.B_true, LF.S_true, kw_not_row, kw_not_not, e]
  | .jn b fs, n + 1, h, hd => by
    rw [LR_true_succ]
    rw [FmOk] at h
    rw [fdep] at hd
    have es := lt_all hpt hm hl fs n h.2 (by omega)
    show LF.B_true _ _ _ = _
    rw [fmD, ev, fmDs_map, evA_all, evO_any]
    have c : ∀ w u, compL (nameT 4) yesT (callF (LF.R_true n) (consA (varF 4) (consA (varF 1) nilA))) [.d (.tuple [.str (jw b), .tuple (fs.map fmD)]), .d (psD pt), w, u, .un] (fs.map fmD) [] = some ((fs.map (ev (ptF pt))).map PyData.bool) := by
      intro w u
      rw [compL_map fmD (fun f => PyData.bool (ev (ptF pt) f)) fs (fun f hf => ?_) (by omega)]
      · rw [List.map_map]; rfl
      · have e := es f hf
        generalize fs.map fmD = FS at *
        generalize fmD f = F at *
        generalize psD pt = P at *
        generalize LF.R_true n = RR at *
        simp [e]
    have a1 := notin_bools false (fs.map (ev (ptF pt)))
    have a2 := in_bools true (fs.map (ev (ptF pt)))
    have b1 : (!(fs.map (ev (ptF pt))).any fun z => z == false) = fs.all (ev (ptF pt)) := by
      rw [List.any_map, show ((fun z => z == false) ∘ ev (ptF pt)) = fun f => !ev (ptF pt) f from by funext f; simp, any_not]
      simp
    have b2 : ((fs.map (ev (ptF pt))).any fun z => z == true) = fs.any (ev (ptF pt)) := by
      rw [List.any_map]
      congr 1
      funext f
      simp
    rw [b1] at a1
    rw [b2] at a2
    generalize (fs.map (ev (ptF pt))).map PyData.bool = BS at *
    generalize fs.map fmD = FS at *
    generalize psD pt = P at *
    generalize LF.R_true n = RR at *
    cases b
    · have w : jw false = "or" := rfl
      rw [w] at c ⊢
      simp [LF.B_true, LF.S_true, lcS_apc, kw_or_row, kw_or_not, kw_or_and, kw_or_or, c, a2]
    · have w : jw true = "and" := rfl
      rw [w] at c ⊢
      simp [LF.B_true, LF.S_true, lcS_apc, kw_and_row, kw_and_not, kw_and_and, c, a1]
theorem lt_all {pt : List Pt} {m : Nat} (hpt : ∀ p ∈ pt, Sz m p.2) (hm : m ≤ 700) (hl : pt.length ≤ 500) : ∀ (fs : List Fm) (n : Nat), FmsOk RwT fs → fdeps fs < n → ∀ f ∈ fs, LF.R_true n [fmD f, psD pt] = .ok (.bool (ev (ptF pt) f))
  | [], _, _, _ => fun f hf => by cases hf
  | g :: fs, n, h, hd => by
    rw [FmsOk] at h
    rw [fdeps] at hd
    have e1 := lt_ok hpt hm hl g n h.1 (by omega)
    have e2 := lt_all hpt hm hl fs n h.2 (by omega)
    intro f hf
    rcases List.mem_cons.mp hf with rfl | hf
    · exact e1
    · exact e2 f hf
end
end DL
namespace DL
end DL
namespace DL
open PySem PySem.Spec PyProof.Rows L2 RT
end DL
set_option exponentiation.threshold 5000
namespace DL
open PySem PySem.Spec PyProof.Rows L2 RT
def Nam4 (x : Str) : Prop := x = "x" ∨ x = "y" ∨ x = "z2" ∨ x = "~"
theorem Nam4.ok {x : Str} (h : Nam4 x) : PySem.PyData.strOk x = true := by
  rcases h with rfl | rfl | rfl | rfl <;> decide +kernel
def NA4 (acc : List Str) : Prop := acc.Nodup ∧ ∀ x ∈ acc, x ∈ (["x", "y", "z2", "~"] : List Str)
theorem NA4.len {acc : List Str} (h : NA4 acc) : acc.length ≤ 4 := len_of_nd ["x", "y", "z2", "~"] acc h.1 h.2
theorem NA4.ins {acc : List Str} {x : Str} (h : NA4 acc) (hx : Nam4 x) : NA4 (insT x acc) := by
  refine ⟨insT_nd h.1, fun y hy => ?_⟩
  unfold insT at hy
  split at hy
  · exact h.2 y hy
  · rcases List.mem_cons.mp hy with rfl | hy
    · rcases hx with rfl | rfl | rfl | rfl <;> simp
    · exact h.2 y hy
theorem NA4.nmP : ∀ (ps : List Pt) {acc : List Str}, NA4 acc → (∀ p ∈ ps, Nam4 p.1) → NA4 (nmP ps acc)
  | [], _, h, _ => h
  | p :: ps, _, h, hp => NA4.nmP ps (h.ins (hp p List.mem_cons_self)) fun q hq => hp q (List.mem_cons_of_mem _ hq)
end DL
set_option exponentiation.threshold 5000
namespace DL
open PySem PySem.Spec PyProof.Rows L2 RT
theorem rowM_int {ps : List Pt} {sg : Str} {b : Qn} (pr : PosR (partsM ps, sg, b)) : ∀ p ∈ (rowM ps sg b).1, p.2.2 = 1 := by
  intro p hp
  obtain ⟨f1, f2⟩ := fac_low pr
  have LS := LowR.scale pr f1 f2
  have lp := (LS.ps p hp).1
  have hp' : p ∈ (partsM ps).map fun p => (p.1, qmul p.2 (factorM (partsM ps, sg, b))) := hp
  obtain ⟨q, hq, rfl⟩ := List.mem_map.mp hp'
  obtain ⟨p0, ps0, hps⟩ : ∃ p0 ps0, partsM ps = p0 :: ps0 := by
    cases h : partsM ps with
    | nil => rw [h] at hq; cases hq
    | cons p0 ps0 => exact ⟨_, _, rfl⟩
  have fq : facQ (partsM ps, sg, b) = p0.2 :: ps0.map (·.2) := by rw [hps]; rfl
  obtain ⟨f, P, E, _⟩ := fac_rv pr fq (partsM_nz p0 (by rw [hps]; exact List.mem_cons_self))
  have em : (p0.2 :: ps0.map (·.2)) = (partsM ps).map (·.2) := by rw [hps]; rfl
  rw [em] at P
  obtain ⟨ns, e1, _⟩ := P.who
  have m1 : f * rv q.2 ∈ (((partsM ps).map (·.2)).map rv).map (f * ·) := List.mem_map.mpr ⟨rv q.2, List.mem_map.mpr ⟨q.2, List.mem_map.mpr ⟨q, hq, rfl⟩, rfl⟩, rfl⟩
  rw [e1] at m1
  obtain ⟨n, _, en⟩ := List.mem_map.mp m1
  have qp := (pr.ps q hq).1
  have rq : rv (qmul q.2 (factorM (partsM ps, sg, b))) = rv q.2 * rv (factorM (partsM ps, sg, b)) := rv_mul (by omega) (by omega)
  have := sgn_le lp (a := n) (b := 1) (by decide) (by
    show rv (qmul q.2 (factorM (partsM ps, sg, b))) = _ ∨ rv (qmul q.2 (factorM (partsM ps, sg, b))) = _
    rw [rq, E]
    split
    · right; push_cast; grind
    · left; push_cast; grind)
  have h2 := this.2
  have l0 := lp.pos
  have : (1 : Int).natAbs = 1 := rfl
  show (qmul q.2 (factorM (partsM ps, sg, b))).2 = 1
  have h3 : (qmul q.2 (factorM (partsM ps, sg, b))).2.natAbs ≤ 1 := h2
  have h4 : 0 < (qmul q.2 (factorM (partsM ps, sg, b))).2 := l0
  omega
def RInv (u : Str) (a b : Dr) : Prop := (vs u a.1.1 ≠ 0 → a.1.2.1 = "=" → b.1.2.1 ≠ "=" ∧ vs u b.1.1 = 0) ∧ (vs u b.1.1 ≠ 0 → b.1.2.1 = "=" → vs u a.1.1 = 0)
def Inv (u : Str) (ds : List Dr) : Prop := ds.Pairwise (RInv u)
structure TellT (rows : List Rw) (T : List Str) (xs : List Str) (ds : List Dr) (ls : List (List Dr)) : Prop where
  told : Told rows xs ds ls
  compl : ∀ pre dl, ls = pre ++ [dl] → refM dl = none → ∀ f : Str → Rat, (∀ d ∈ dl, holdsB f d = true) → ∃ g : Str → Rat, (∀ y, y ∉ xs → g y = f y) ∧ ∀ d ∈ ds, holdsB g d = true
  last : ∃ pre dl, ls = pre ++ [dl] ∧ (∃ (L' : List Str) (c' b' δ' : Nat), ∀ d ∈ dl, Ctx rows L' c' b' δ' d) ∧ (∀ d ∈ dl, trivB d = false) ∧ (refM dl = none → ∃ c b δ : Nat, b ≤ 30 ∧ ∀ d ∈ dl, Ctx rows T c b δ d)
  inv : ∀ u, Inv u ds → ∀ pre dl, ls = pre ++ [dl] → Inv u dl
  cln : ∀ pre dl, ls = pre ++ [dl] → dl = ds ∨ ∃ es, dl = cleanM es
section
variable {rows : List Rw} (Z : Rz rows) {T : List Str}
include Z
end
end DL
set_option exponentiation.threshold 5000
namespace DL
open PySem PySem.Spec PyProof.Rows L2 RT
theorem small_row {ps : List Pt} {sg : Str} {b : Qn} (nd : (ps.map (·.1)).Nodup) (hk : ∀ p ∈ ps, ∃ t : Int, t.natAbs ≤ 3 ∧ p.2 = (t, 1)) (bl : Low b) (hs : Sgn sg) (hL : ∀ p ∈ ps, p.1 ∈ L3) (x1 : b.1.natAbs ≤ 10) (x2 : b.2.natAbs ≤ 2) : RwT (rowM ps sg b) ∧ Tiny (rowM ps sg b) := by
  have lo : ∀ p ∈ ps, Low p.2 := fun p hp => by
    obtain ⟨t, _, e⟩ := hk p hp
    rw [e]; exact ⟨by show (0 : Int) < 1; decide, by show Nat.gcd _ 1 = 1; exact Nat.gcd_one_right _⟩
  have pos : ∀ p ∈ ps, 0 < p.2.2 := fun p hp => (lo p hp).pos
  have sub := parts_sub lo nd
  have bp := bl.pos
  have cP : Can leS (partsM ps) := gparts_can srtS pos
  have pr : PosR (partsM ps, sg, b) := ⟨fun p h => ⟨(cP.low p h).1.pos, (cP.low p h).2⟩, bl.pos⟩
  obtain ⟨f1, f2⟩ := fac_low pr
  have LS := LowR.scale pr f1 f2
  have bdl : Low (qmul b (factorM (partsM ps, sg, b))) := LS.bd
  have rbd : rv (qmul b (factorM (partsM ps, sg, b))) = rv b * rv (factorM (partsM ps, sg, b)) := rv_mul (by omega) (by omega)
  have b2' : ((b.2 : Int) : Rat) ≠ 0 := rc (by omega)
  have base : (∀ p ∈ (rowM ps sg b).1, p.2.1.natAbs ≤ 3) → (qmul b (factorM (partsM ps, sg, b))).1.natAbs ≤ 10 → (qmul b (factorM (partsM ps, sg, b))).2.natAbs ≤ 6 → RwT (rowM ps sg b) ∧ Tiny (rowM ps sg b) := fun h1 h2 h3 => by
    refine ⟨⟨fun p hp => ⟨rowM_int pr p hp, by have := h1 p hp; show p.2.1.natAbs ≤ 4; omega⟩, ⟨by show (qmul b (factorM (partsM ps, sg, b))).1.natAbs ≤ 16; omega, by show (qmul b (factorM (partsM ps, sg, b))).2.natAbs ≤ 16; omega⟩, fun p hp => ?_, can_scale f2 f1 cP, norm_norm pr, bdl, hs⟩, ⟨h1, h2, h3⟩⟩
    have hp' : p ∈ (partsM ps).map fun p => (p.1, qmul p.2 (factorM (partsM ps, sg, b))) := hp
    obtain ⟨q, hq, rfl⟩ := List.mem_map.mp hp'
    exact partsM_names (P := fun x => x ∈ L3) hL q hq
  by_cases hne : partsM ps = []
  · have goal : (qmul b (factorM (partsM ps, sg, b))).1.natAbs ≤ 1 ∧ (qmul b (factorM (partsM ps, sg, b))).2.natAbs ≤ 1 := by
      by_cases h0 : b.1 = 0
      · have z : rv b = 0 := rv_zero.mpr (.inl h0)
        have := sgn_le bdl (a := 0) (b := 1) (by decide) (.inl (by rw [rbd, z]; grind))
        exact ⟨by have := this.1; simp at this; omega, this.2⟩
      · have fq : facQ (partsM ps, sg, b) = b :: [] := by rw [hne]; rfl
        obtain ⟨f, P, E, _⟩ := fac_rv pr fq h0
        obtain ⟨ns, e1, e2⟩ := P.who
        obtain ⟨n, rfl⟩ : ∃ n, ns = [n] := by
          have h1 := congrArg List.length e1
          rw [List.length_map, List.length_map, List.length_map] at h1
          exact List.length_eq_one_iff.mp h1.symm
        have n1 : n.natAbs = 1 := by simpa [gcdL] using e2
        have e3 : f * rv b = (n : Rat) := by simpa using e1
        have := sgn_le bdl (a := n) (b := 1) (by decide) (by
          rw [rbd, E]
          split
          · right; push_cast; grind
          · left; push_cast; grind)
        rw [n1] at this
        exact this
    have p3 : ∀ p ∈ (rowM ps sg b).1, p.2.1.natAbs ≤ 3 := fun p hp => by
      have : p ∈ (partsM ps).map fun p => (p.1, qmul p.2 (factorM (partsM ps, sg, b))) := hp
      rw [hne] at this
      cases this
    exact base p3 (by omega) (by omega)
  · have src : ∀ p ∈ partsM ps, ∃ t : Int, t ≠ 0 ∧ t.natAbs ≤ 3 ∧ rv p.2 = (t : Rat) ∧ p.2 = (t, 1) := fun p hp => by
      obtain ⟨q, hq, e⟩ := sub p hp
      obtain ⟨t, ht, e2⟩ := hk q hq
      have nz := partsM_nz p hp
      rw [e, e2] at nz ⊢
      exact ⟨t, nz, ht, by unfold rv; push_cast; grind, rfl⟩
    obtain ⟨p0, ps0, hps⟩ : ∃ p0 ps0, partsM ps = p0 :: ps0 := by
      cases h : partsM ps with
      | nil => exact absurd h hne
      | cons p0 ps0 => exact ⟨_, _, rfl⟩
    have fq : facQ (partsM ps, sg, b) = p0.2 :: ps0.map (·.2) := by rw [hps]; rfl
    have m0 : p0 ∈ partsM ps := by rw [hps]; exact List.mem_cons_self
    obtain ⟨f, P, E, _⟩ := fac_rv pr fq (partsM_nz p0 m0)
    have em : (p0.2 :: ps0.map (·.2)) = (partsM ps).map (·.2) := by rw [hps]; rfl
    rw [em] at P
    generalize hS : gcdL (((partsM ps).map (·.2)).map fun q => q.1 * (1 / q.2)) = S at *
    obtain ⟨t0, tz, t3, _, et⟩ := src p0 m0
    have dS : (S : Int) ∣ t0 := by
      have : t0 = p0.2.1 * (1 / p0.2.2) := by rw [et]; simp
      rw [← hS, this]
      exact gcdL_dvd (List.mem_map.mpr ⟨p0.2, List.mem_map.mpr ⟨p0, m0, rfl⟩, rfl⟩)
    have dS2 : S ∣ t0.natAbs := by
      have := Int.natAbs_dvd_natAbs.mpr dS
      simpa using this
    have S0 : 0 < S := by
      rcases Nat.eq_zero_or_pos S with z | z
      · rw [z] at dS2
        have := Nat.eq_zero_of_zero_dvd dS2
        omega
      · exact z
    have S3 : S ≤ 3 := Nat.le_trans (Nat.le_of_dvd (by omega) dS2) t3
    have P2 := prim_of (qs := (partsM ps).map (·.2)) (C := 1) (by decide) S0 (fun q hq => by
      obtain ⟨p, hp, rfl⟩ := List.mem_map.mp hq
      obtain ⟨t, _, _, _, x⟩ := src p hp
      rw [x]
      exact ⟨by show (0 : Int) < 1; decide, Int.dvd_refl 1⟩) hS
    have ef := Prim.unique P P2
    have cS : ((S : Int) : Rat) ≠ 0 := rc (by omega)
    have EF : rv (factorM (partsM ps, sg, b)) = 1 / ((S : Int) : Rat) ∨ rv (factorM (partsM ps, sg, b)) = -(1 / ((S : Int) : Rat)) := by
      rw [E, ef]
      push_cast
      split
      · exact .inr rfl
      · exact .inl rfl
    have rb : rv b = (b.1 : Rat) / (b.2 : Rat) := rfl
    have B := sgn_le bdl (a := b.1) (b := b.2 * (S : Int)) (Int.mul_pos bp (by omega)) (by
      rw [rbd, rb, Rat.intCast_mul]
      rcases EF with z | z <;> rw [z]
      · left; grind
      · right; grind)
    have k3 : (b.2 * (S : Int)).natAbs ≤ 6 := by
      rw [Int.natAbs_mul]
      have : b.2.natAbs * (S : Int).natAbs ≤ 2 * 3 := Nat.mul_le_mul x2 (by omega)
      omega
    have p3 : ∀ p ∈ (rowM ps sg b).1, p.2.1.natAbs ≤ 3 := fun p hp => by
      have lp := (LS.ps p hp).1
      have hp' : p ∈ (partsM ps).map fun p => (p.1, qmul p.2 (factorM (partsM ps, sg, b))) := hp
      obtain ⟨q, hq, rfl⟩ := List.mem_map.mp hp'
      obtain ⟨t, _, t3', rt, x1⟩ := src q hq
      have q1 : q.2.2 ≠ 0 := by rw [x1]; show (1 : Int) ≠ 0; decide
      have rq : rv (qmul q.2 (factorM (partsM ps, sg, b))) = rv q.2 * rv (factorM (partsM ps, sg, b)) := rv_mul (by omega) q1
      have := sgn_le lp (a := t) (b := (S : Int)) (by omega) (by
        show rv (qmul q.2 (factorM (partsM ps, sg, b))) = _ ∨ rv (qmul q.2 (factorM (partsM ps, sg, b))) = _
        rw [rq, rt]
        rcases EF with z | z <;> rw [z]
        · left; grind
        · right; grind)
      exact Nat.le_trans this.1 t3'
    exact base p3 (by omega) (by omega)
theorem dMod_pos {a b : Int} (hb : 0 < b) : dMod (.int a) (.int b) = some (.int (a % b)) := by
  rw [dMod_ok (by omega), Int.fmod_eq_emod_of_nonneg _ (by omega)]
end DL
set_option exponentiation.threshold 5000
namespace DL
open PySem PySem.Spec PyProof.Rows L2 RT
structure Dg (ds : List Int) : Prop where
  len : ds.length = 40
  lt : ∀ d ∈ ds, 0 ≤ d ∧ d < 97
def dgt (ds : List Int) (z : Int) : Int := (ds[(z % 40).toNat]?).getD 0
section
variable {ds : List Int} (D : Dg ds)
include D
theorem dgt_get (z : Int) : ds[(z % 40).toNat]? = some (dgt ds z) ∧ 0 ≤ dgt ds z ∧ dgt ds z < 97 := by
  have h0 := Int.emod_nonneg z (show (40 : Int) ≠ 0 by decide)
  have h1 := Int.emod_lt_of_pos z (show (0 : Int) < 40 by decide)
  have lt : (z % 40).toNat < ds.length := by rw [D.len]; omega
  have e : ds[(z % 40).toNat]? = some ds[(z % 40).toNat] := List.getElem?_eq_getElem lt
  have d : dgt ds z = ds[(z % 40).toNat] := by unfold dgt; rw [e]; rfl
  rw [d]
  exact ⟨e, D.lt _ (List.getElem_mem lt)⟩
theorem dgt_ix (z : Int) : dIx (.list (ds.map PyData.int)) (.int (z % 40)) = some (.int (dgt ds z)) := by
  have h0 := Int.emod_nonneg z (show (40 : Int) ≠ 0 by decide)
  have e : z % 40 = (((z % 40).toNat : Nat) : Int) := by omega
  rw [e]
  refine dIx_l ?_
  rw [List.getElem?_map, (dgt_get D z).1]
  rfl
theorem dgt_len : bLen (.list (ds.map PyData.int)) = some (.int 40) := by simp [bLen, D.len]
def dnum (ds : List Int) (at_ k : Int) : Int := if dgt ds (at_ + 5) % 5 = k then 0 else dgt ds (at_ + k) % 7 - 3
theorem row_step {a1 e5 : Ent} {at_ : Int} {k : Int} {w : Str} (hk : dIx (.list [.str "x", .str "y", .str "z2"]) (.int k) = some (.str w)) {acc : List PyData} (hl : acc.length < 1000) {e2 e6 e7 : Ent} (h2 : e2 = .own [.str "x", .str "y", .str "z2"] ∨ e2 = .d (.list [.str "x", .str "y", .str "z2"])) :
    ∃ f5, LF.L_row_1 [.d (.list (ds.map PyData.int)), .d (.int at_), e2, .own acc, .d (.int k), e5, e6, e7] = .nx [.d (.list (ds.map PyData.int)), .d (.int at_), .d (.list [.str "x", .str "y", .str "z2"]), .own (acc ++ [.tuple [.str w, .tuple [.int (dnum ds at_ k), .int 1]]]), .d (.int k), f5, e6, e7] := by
  have L := dgt_len D
  have X := dgt_ix D
  have M : ∀ z : Int, dMod (.int z) (.int 40) = some (.int (z % 40)) := fun z => dMod_pos (by decide)
  have M7 : ∀ z : Int, dMod (.int z) (.int 7) = some (.int (z % 7)) := fun z => dMod_pos (by decide)
  have M5 : ∀ z : Int, dMod (.int z) (.int 5) = some (.int (z % 5)) := fun z => dMod_pos (by decide)
  have hl' : acc.length < 16777216 := by omega
  unfold dnum
  generalize ds.map PyData.int = DS at *
  by_cases h : dgt ds (at_ + 5) % 5 = k
  · refine ⟨.d (.int 0), ?_⟩
    rw [if_pos h]
    have hb : (dgt ds (at_ + 5) % 5 == k) = true := by simpa using h
    rcases h2 with rfl | rfl <;> simp [LF.L_row_1, L, X, M, M7, M5, hb, hk, hl', bInt]
  · refine ⟨.d (.int (dgt ds (at_ + k) % 7 - 3)), ?_⟩
    rw [if_neg h]
    have hb : (dgt ds (at_ + 5) % 5 == k) = false := by simpa using h
    rcases h2 with rfl | rfl <;> simp [LF.L_row_1, L, X, M, M7, M5, hb, hk, hl', bInt]
def dpairs (ds : List Int) (at_ : Int) : List Pt := [("x", (dnum ds at_ 0, 1)), ("y", (dnum ds at_ 1, 1)), ("z2", (dnum ds at_ 2, 1))]
theorem dnum_le (at_ k : Int) : (dnum ds at_ k).natAbs ≤ 3 := by
  unfold dnum
  split
  · decide
  · have := Int.emod_nonneg (dgt ds (at_ + k)) (show (7 : Int) ≠ 0 by decide)
    have := Int.emod_lt_of_pos (dgt ds (at_ + k)) (show (0 : Int) < 7 by decide)
    omega
theorem sign_six {d : Int} : ∃ s : Str, dIx (.list [.str "<=", .str "<", .str "<=", .str "=", .str ">=", .str "<"]) (.int (d % 6)) = some (.str s) ∧ (s = "<=" ∨ s = "<" ∨ s = "=" ∨ s = ">=") := by
  have h0 := Int.emod_nonneg d (show (6 : Int) ≠ 0 by decide)
  have h1 := Int.emod_lt_of_pos d (show (0 : Int) < 6 by decide)
  have : d % 6 = 0 ∨ d % 6 = 1 ∨ d % 6 = 2 ∨ d % 6 = 3 ∨ d % 6 = 4 ∨ d % 6 = 5 := by omega
  rcases this with e | e | e | e | e | e <;> rw [e]
  · exact ⟨"<=", dIx_l (i := 0) rfl, by simp⟩
  · exact ⟨"<", dIx_l (i := 1) rfl, by simp⟩
  · exact ⟨"<=", dIx_l (i := 2) rfl, by simp⟩
  · exact ⟨"=", dIx_l (i := 3) rfl, by simp⟩
  · exact ⟨">=", dIx_l (i := 4) rfl, by simp⟩
  · exact ⟨"<", dIx_l (i := 5) rfl, by simp⟩
theorem made_row {at_ : Int} {s : Str} (hs : s = "<=" ∨ s = "<" ∨ s = "=" ∨ s = ">=") {b : Qn} (lb : Low b) (x1 : b.1.natAbs ≤ 10) (x2 : b.2.natAbs ≤ 2) : ∃ r, PG.m_row [.list ((dpairs ds at_).map pD), .str s, N b] = .ok (rD r) ∧ RwT r ∧ Tiny r := by
  have n0 := dnum_le D at_ 0
  have n1 := dnum_le D at_ 1
  have n2 := dnum_le D at_ 2
  have pz : ∀ p ∈ dpairs ds at_, Sz 4 p.2 := fun p hp => by
    unfold dpairs at hp
    simp only [List.mem_cons, List.not_mem_nil, or_false] at hp
    rcases hp with rfl | rfl | rfl
    · exact ⟨by show (0 : Int) < 1; decide, by show (dnum ds at_ 0).natAbs < 16; omega, by show (1 : Nat) < 16; decide⟩
    · exact ⟨by show (0 : Int) < 1; decide, by show (dnum ds at_ 1).natAbs < 16; omega, by show (1 : Nat) < 16; decide⟩
    · exact ⟨by show (0 : Int) < 1; decide, by show (dnum ds at_ 2).natAbs < 16; omega, by show (1 : Nat) < 16; decide⟩
  have bz : Sz 4 b := ⟨lb.pos, by show _ < 16; omega, by show _ < 16; omega⟩
  have hk : ∀ p ∈ dpairs ds at_, ∃ t : Int, t.natAbs ≤ 3 ∧ p.2 = (t, 1) := fun p hp => by
    unfold dpairs at hp
    simp only [List.mem_cons, List.not_mem_nil, or_false] at hp
    rcases hp with rfl | rfl | rfl
    · exact ⟨_, n0, rfl⟩
    · exact ⟨_, n1, rfl⟩
    · exact ⟨_, n2, rfl⟩
  have nd : ((dpairs ds at_).map (·.1)).Nodup := by
    show (["x", "y", "z2"] : List Str).Nodup
    decide
  have hL : ∀ p ∈ dpairs ds at_, p.1 ∈ L3 := fun p hp => by
    unfold dpairs at hp
    simp only [List.mem_cons, List.not_mem_nil, or_false] at hp
    rcases hp with rfl | rfl | rfl
    · show ("x" : Str) ∈ L3; decide
    · show ("y" : Str) ∈ L3; decide
    · show ("z2" : Str) ∈ L3; decide
  have len : (dpairs ds at_).length = 3 := rfl
  have hn : ((4 + 1) * (dpairs ds at_).length + 1 + 4) * ((dpairs ds at_).length + 2) + 4 ≤ 3900 := by rw [len]; decide
  have direct : Sgn s → ∃ r, PG.m_row [.list ((dpairs ds at_).map pD), .str s, N b] = .ok (rD r) ∧ RwT r ∧ Tiny r := fun h => by
    obtain ⟨a, c⟩ := small_row nd hk lb h hL x1 x2
    exact ⟨_, pg_row0 pz bz lb (by rw [len]; decide) h hn, a, c⟩
  rcases hs with rfl | rfl | rfl | rfl
  · exact direct (.inl rfl)
  · exact direct (.inr (.inl rfl))
  · exact direct (.inr (.inr rfl))
  · have lo : ∀ p ∈ dpairs ds at_, Low p.2 := fun p hp => by
      obtain ⟨t, _, e⟩ := hk p hp
      rw [e]; exact ⟨by show (0 : Int) < 1; decide, by show Nat.gcd _ 1 = 1; exact Nat.gcd_one_right _⟩
    have fk : ∀ p ∈ flipM (dpairs ds at_), ∃ t : Int, t.natAbs ≤ 3 ∧ p.2 = (t, 1) := fun p hp => by
      rw [flip_neg lo] at hp
      obtain ⟨q, hq, rfl⟩ := List.mem_map.mp hp
      obtain ⟨t, ht, e⟩ := hk q hq
      exact ⟨-t, by omega, by show negP q.2 = _; rw [e]; rfl⟩
    have fm : (flipM (dpairs ds at_)).map (·.1) = (dpairs ds at_).map (·.1) := by simp [flipM]
    have fL : ∀ p ∈ flipM (dpairs ds at_), p.1 ∈ L3 := fun p hp => by
      obtain ⟨q, hq, rfl⟩ := List.mem_map.mp hp
      exact hL q hq
    have nb : qsub (0, 1) b = negP b := qsub_neg lb
    obtain ⟨a, c⟩ := small_row (sg := "<=") (b := qsub (0, 1) b) (by rw [fm]; exact nd) fk (neg_low lb) (.inl rfl) fL (by rw [nb]; show (-b.1).natAbs ≤ 10; omega) (by rw [nb]; exact x2)
    exact ⟨_, pg_row1 pz bz lb (by rw [len]; decide) (.inl ⟨rfl, rfl⟩) hn, a, c⟩
theorem lf_row (at_ : Int) : ∃ r, LF.m_row [.list (ds.map PyData.int), .int at_] = .ok (rD r) ∧ RwT r ∧ Tiny r := by
  have L := dgt_len D
  have X := dgt_ix D
  have M : ∀ z : Int, dMod (.int z) (.int 40) = some (.int (z % 40)) := fun z => dMod_pos (by decide)
  have M9 : ∀ z : Int, dMod (.int z) (.int 9) = some (.int (z % 9)) := fun z => dMod_pos (by decide)
  have M6 : ∀ z : Int, dMod (.int z) (.int 6) = some (.int (z % 6)) := fun z => dMod_pos (by decide)
  have M4 : ∀ z : Int, dMod (.int z) (.int 4) = some (.int (z % 4)) := fun z => dMod_pos (by decide)
  obtain ⟨s, hs, s4⟩ := sign_six (ds := ds) D (d := dgt ds (at_ + 4))
  have b0 := Int.emod_nonneg (dgt ds (at_ + 3)) (show (9 : Int) ≠ 0 by decide)
  have b1 := Int.emod_lt_of_pos (dgt ds (at_ + 3)) (show (0 : Int) < 9 by decide)
  generalize hbd : dgt ds (at_ + 3) % 9 - 4 = bd at *
  have bl : bd.natAbs ≤ 4 := by omega
  obtain ⟨r1, e1, g1, t1⟩ := made_row D (at_ := at_) s4 (b := (bd, 1)) ⟨by show (0 : Int) < 1; decide, by show Nat.gcd _ 1 = 1; exact Nat.gcd_one_right _⟩ (by show bd.natAbs ≤ 10; omega) (by show (1 : Nat) ≤ 2; decide)
  obtain ⟨r2, e2, g2, t2⟩ := made_row D (at_ := at_) s4 (b := (2 * bd + 1, 2)) ⟨by show (0 : Int) < 2; decide, by
    show Nat.gcd (2 * bd + 1).natAbs 2 = 1
    have : (2 * bd + 1).natAbs % 2 = 1 := by omega
    rw [Nat.gcd_comm, Nat.gcd_rec, this]
    exact Nat.gcd_one_left _⟩ (by show (2 * bd + 1).natAbs ≤ 10; omega) (by show (2 : Nat) ≤ 2; decide)
  obtain ⟨f5, st0⟩ := row_step D (a1 := .un) (e5 := .un) (at_ := at_) (k := 0) (w := "x") (dIx_l (i := 0) rfl) (acc := []) (by decide) (e2 := .own [.str "x", .str "y", .str "z2"]) (e6 := .un) (e7 := .un) (.inl rfl)
  obtain ⟨g5, st1⟩ := row_step D (a1 := .un) (e5 := f5) (at_ := at_) (k := 1) (w := "y") (dIx_l (i := 1) rfl) (acc := [.tuple [.str "x", .tuple [.int (dnum ds at_ 0), .int 1]]]) (by show 1 < 1000; decide) (e2 := .d (.list [.str "x", .str "y", .str "z2"])) (e6 := .un) (e7 := .un) (.inr rfl)
  obtain ⟨h5, st2⟩ := row_step D (a1 := .un) (e5 := g5) (at_ := at_) (k := 2) (w := "z2") (dIx_l (i := 2) rfl) (acc := [.tuple [.str "x", .tuple [.int (dnum ds at_ 0), .int 1]], .tuple [.str "y", .tuple [.int (dnum ds at_ 1), .int 1]]]) (by show 2 < 1000; decide) (e2 := .d (.list [.str "x", .str "y", .str "z2"])) (e6 := .un) (e7 := .un) (.inr rfl)
  have pe : (dpairs ds at_).map pD = [.tuple [.str "x", .tuple [.int (dnum ds at_ 0), .int 1]], .tuple [.str "y", .tuple [.int (dnum ds at_ 1), .int 1]], .tuple [.str "z2", .tuple [.int (dnum ds at_ 2), .int 1]]] := rfl
  rw [pe] at e1 e2
  have r3 : ∀ ρ, rng1 [.int (3 : Int)] ρ = .ok [.int 0, .int 1, .int 2] ρ := fun ρ => rng1_nat (n := 3) (by decide)
  simp only [List.nil_append, List.cons_append] at st0 st1 st2
  have lp : loopS (nameT 4) LF.L_row_1 [.int 0, .int 1, .int 2] [.d (.list (ds.map PyData.int)), .d (.int at_), .own [.str "x", .str "y", .str "z2"], .own [], .un, .un, .un, .un] = .nx [.d (.list (ds.map PyData.int)), .d (.int at_), .d (.list [.str "x", .str "y", .str "z2"]), .own [.tuple [.str "x", .tuple [.int (dnum ds at_ 0), .int 1]], .tuple [.str "y", .tuple [.int (dnum ds at_ 1), .int 1]], .tuple [.str "z2", .tuple [.int (dnum ds at_ 2), .int 1]]], .d (.int 2), h5, .un, .un] := by
    rw [loopS_cons_nx (ρ1 := [.d (.list (ds.map PyData.int)), .d (.int at_), .own [.str "x", .str "y", .str "z2"], .own [], .d (.int 0), .un, .un, .un]) (by simp) st0]
    rw [loopS_cons_nx (ρ1 := [.d (.list (ds.map PyData.int)), .d (.int at_), .d (.list [.str "x", .str "y", .str "z2"]), .own [.tuple [.str "x", .tuple [.int (dnum ds at_ 0), .int 1]]], .d (.int 1), f5, .un, .un]) (by simp) st1]
    rw [loopS_cons_nx (ρ1 := [.d (.list (ds.map PyData.int)), .d (.int at_), .d (.list [.str "x", .str "y", .str "z2"]), .own [.tuple [.str "x", .tuple [.int (dnum ds at_ 0), .int 1]], .tuple [.str "y", .tuple [.int (dnum ds at_ 1), .int 1]]], .d (.int 2), g5, .un, .un]) (by simp) st2]
    rfl
  have sm2 : Sm 2 := Bt.sm (n := 31) (by unfold Bt; decide) (by decide)
  have smb : Sm bd := Bt.sm (n := 31) (by unfold Bt; omega) (by decide)
  have e1' : PG.m_row [.list [.tuple [.str "x", .tuple [.int (dnum ds at_ 0), .int 1]], .tuple [.str "y", .tuple [.int (dnum ds at_ 1), .int 1]], .tuple [.str "z2", .tuple [.int (dnum ds at_ 2), .int 1]]], .str s, .tuple [.int bd, .int 1]] = .ok (rD r1) := e1
  have e2' : PG.m_row [.list [.tuple [.str "x", .tuple [.int (dnum ds at_ 0), .int 1]], .tuple [.str "y", .tuple [.int (dnum ds at_ 1), .int 1]], .tuple [.str "z2", .tuple [.int (dnum ds at_ 2), .int 1]]], .str s, .tuple [.int (2 * bd + 1), .int 2]] = .ok (rD r2) := e2
  clear st0 st1 st2 e1 e2 pe
  show ∃ r, LF.B_row _ _ = _ ∧ _
  generalize ds.map PyData.int = DS at *
  generalize dnum ds at_ 0 = n0 at *
  generalize dnum ds at_ 1 = n1 at *
  generalize dnum ds at_ 2 = n2 at *
  by_cases h : dgt ds (at_ + 6) % 4 = 0
  · refine ⟨r2, ?_, g2, t2⟩
    generalize rD r2 = R at *
    have hb : (dgt ds (at_ + 6) % 4 == 0) = true := by simpa using h
    simp [LF.B_row, LF.S_row, r3, lp, L, X, M, M9, M6, M4, hb, hbd, hs, e2', bInt, dMul_ok, sm2, smb]
  · refine ⟨r1, ?_, g1, t1⟩
    generalize rD r1 = R at *
    have hb : (dgt ds (at_ + 6) % 4 == 0) = false := by simpa using h
    simp [LF.B_row, LF.S_row, r3, lp, L, X, M, M9, M6, M4, hb, hbd, hs, e1', bInt]
end
end DL
set_option exponentiation.threshold 5000
namespace DL
open PySem PySem.Spec PyProof.Rows L2 RT
mutual
def fsz : Fm → Nat
  | .row _ => 1
  | .tt => 1
  | .ff => 1
  | .neg f => fsz f + 1
  | .jn _ fs => fszs fs + 1
def fszs : List Fm → Nat
  | [] => 0
  | f :: fs => fsz f + fszs fs
end
mutual
theorem FmOk.imp {P Q : Rw → Prop} (i : ∀ r, P r → Q r) : ∀ f : Fm, FmOk P f → FmOk Q f
  | .row r, h => by rw [FmOk] at h ⊢; exact i r h
  | .tt, _ => by rw [FmOk]; trivial
  | .ff, _ => by rw [FmOk]; trivial
  | .neg f, h => by rw [FmOk] at h ⊢; exact FmOk.imp i f h
  | .jn _ fs, h => by rw [FmOk] at h ⊢; exact ⟨h.1, FmsOk.imp i fs h.2⟩
theorem FmsOk.imp {P Q : Rw → Prop} (i : ∀ r, P r → Q r) : ∀ fs : List Fm, FmsOk P fs → FmsOk Q fs
  | [], _ => by rw [FmsOk]; trivial
  | f :: fs, h => by rw [FmsOk] at h ⊢; exact ⟨FmOk.imp i f h.1, FmsOk.imp i fs h.2⟩
end
def RwD (r : Rw) : Prop := RwT r ∧ Tiny r
def nsz : Nat → Nat
  | 0 => 1
  | d + 1 => 2 * nsz d + 2
theorem nsz_pos : ∀ d, 1 ≤ nsz d
  | 0 => Nat.le_refl _
  | d + 1 => by rw [nsz]; omega
theorem LR_formula_succ (n : Nat) : LF.R_formula (n + 1) = fn3 (LF.B_formula (LF.R_formula n)) := id rfl
structure DrF (f : Fm) (d : Nat) : Prop where
  ok : FmOk RwD f
  dep : fdep f ≤ d
  sz : fsz f ≤ nsz d
theorem lf_formula {ds : List Int} (D : Dg ds) : ∀ (d n : Nat) (at_ : Int), d < n → ∃ f, LF.R_formula n [.list (ds.map PyData.int), .int at_, .int (d : Int)] = .ok (fmD f) ∧ DrF f d
  | d, 0, _, h => absurd h (Nat.not_lt_zero _)
  | d, n + 1, at_, hd => by
    have L := dgt_len D
    have X := dgt_ix D
    have M : ∀ z : Int, dMod (.int z) (.int 40) = some (.int (z % 40)) := fun z => dMod_pos (by decide)
    have M9 : ∀ z : Int, dMod (.int z) (.int 9) = some (.int (z % 9)) := fun z => dMod_pos (by decide)
    have M2 : ∀ z : Int, dMod (.int z) (.int 2) = some (.int (z % 2)) := fun z => dMod_pos (by decide)
    have M4 : ∀ z : Int, dMod (.int z) (.int 4) = some (.int (z % 4)) := fun z => dMod_pos (by decide)
    have k0 := Int.emod_nonneg (dgt ds at_) (show (9 : Int) ≠ 0 by decide)
    have k1 := Int.emod_lt_of_pos (dgt ds at_) (show (0 : Int) < 9 by decide)
    obtain ⟨r1, e1, g1⟩ := lf_row D (at_ + 1)
    obtain ⟨r5, e5, g5⟩ := lf_row D (at_ + 5)
    have fr : ∀ r, fmD (.row r) = .tuple [.str "row", rD r] := fun r => by rw [fmD]
    rw [LR_formula_succ]
    show ∃ f, LF.B_formula _ _ _ _ = _ ∧ _
    generalize hkd : dgt ds at_ % 9 = kd at *
    have rowc : ∀ r, RwD r → DrF (.row r) d := fun r h => ⟨by rw [FmOk]; exact h, by rw [fdep]; omega, by rw [fsz]; exact nsz_pos d⟩
    by_cases c8 : kd = 8 ∧ dgt ds (at_ + 1) % 4 = 0
    · obtain ⟨rfl, c4⟩ := c8
      have j0 := Int.emod_nonneg (dgt ds (at_ + 2)) (show (2 : Int) ≠ 0 by decide)
      have j1 := Int.emod_lt_of_pos (dgt ds (at_ + 2)) (show (0 : Int) < 2 by decide)
      rcases (show dgt ds (at_ + 2) % 2 = 0 ∨ dgt ds (at_ + 2) % 2 = 1 by omega) with j | j
      · refine ⟨.tt, ?_, ⟨by rw [FmOk]; trivial, by rw [fdep]; omega, by rw [fsz]; exact nsz_pos d⟩⟩
        have ix : dIx (.list [.tuple [.str "true"], .tuple [.str "false"]]) (.int 0) = some (.tuple [.str "true"]) := dIx_l (i := 0) rfl
        rw [fmD]
        generalize ds.map PyData.int = DS at *
        simp [LF.B_formula, LF.S_formula, L, X, M, M9, M4, M2, hkd, c4, j, ix, bInt]
      · refine ⟨.ff, ?_, ⟨by rw [FmOk]; trivial, by rw [fdep]; omega, by rw [fsz]; exact nsz_pos d⟩⟩
        have ix : dIx (.list [.tuple [.str "true"], .tuple [.str "false"]]) (.int 1) = some (.tuple [.str "false"]) := dIx_l (i := 1) rfl
        rw [fmD]
        generalize ds.map PyData.int = DS at *
        simp [LF.B_formula, LF.S_formula, L, X, M, M9, M4, M2, hkd, c4, j, ix, bInt]
    · have b8 : (kd == 8 && dgt ds (at_ + 1) % 4 == 0) = false := by
        rw [Bool.and_eq_false_iff]
        by_cases z : kd = 8
        · right; simpa using fun w => c8 ⟨z, w⟩
        · left; simpa using z
      by_cases c0 : d = 0 ∨ kd < 3 ∨ kd = 8
      · refine ⟨.row r1, ?_, rowc r1 g1⟩
        rw [fr]
        generalize ds.map PyData.int = DS at *
        generalize rD r1 = R1 at *
        by_cases z8 : kd = 8
        · subst z8
          have q4 : ¬ dgt ds (at_ + 1) % 4 = 0 := fun w => c8 ⟨rfl, w⟩
          have q4' : (dgt ds (at_ + 1) % 4 == 0) = false := by simpa using q4
          by_cases zd : d = 0
          · subst zd
            simp [LF.B_formula, LF.S_formula, L, X, M, M9, M4, hkd, q4', e1, bInt]
          · have zd' : ((d : Int) == 0) = false := by simpa using zd
            simp [LF.B_formula, LF.S_formula, L, X, M, M9, M4, hkd, q4', e1, bInt, zd']
        · have z8' : (kd == 8) = false := by simpa using z8
          by_cases zd : d = 0
          · subst zd
            simp [LF.B_formula, LF.S_formula, L, X, M, M9, hkd, z8', e1, bInt]
          · have zd' : ((d : Int) == 0) = false := by simpa using zd
            have z3 : kd < 3 := by
              rcases c0 with z | z | z
              · exact absurd z zd
              · exact z
              · exact absurd z z8
            simp [LF.B_formula, LF.S_formula, L, X, M, M9, hkd, z8', e1, bInt, zd', z3]
      · have zd : d ≠ 0 := fun z => c0 (.inl z)
        have z3 : ¬ kd < 3 := fun z => c0 (.inr (.inl z))
        have z8 : kd ≠ 8 := fun z => c0 (.inr (.inr z))
        obtain ⟨d', rfl⟩ : ∃ d', d = d' + 1 := ⟨d - 1, by omega⟩
        have zz0 : ((d' + 1 : Nat) : Int) ≠ 0 := by omega
        have z8' : (kd == 8) = false := by simpa using z8
        obtain ⟨f1, h1, D1⟩ := lf_formula D d' n (at_ + 2) (by omega)
        obtain ⟨f2, h2, D2⟩ := lf_formula D d' n (at_ + 11) (by omega)
        have sb : ((d' + 1 : Nat) : Int) - 1 = (d' : Int) := by omega
        have zq : ((d' + 1 : Nat) : Int) = ((d' + 1 : Nat) : Int) := rfl
        generalize ((d' + 1 : Nat) : Int) = zz at zz0 sb zq ⊢
        have zd' : (zz == 0) = false := by simpa using zz0
        have s1 := D1.sz
        have s2 := D2.sz
        have p1 := D1.dep
        have p2 := D2.dep
        have nz : nsz (d' + 1) = 2 * nsz d' + 2 := rfl
        have fs2 : ∀ b, fmD (.jn b [f1, f2]) = .tuple [.str (jw b), .tuple [fmD f1, fmD f2]] := fun b => by rw [fmD, fmDs, fmDs, fmDs]
        have fs3 : ∀ b, fmD (.jn b [f1, f2, .row r5]) = .tuple [.str (jw b), .tuple [fmD f1, fmD f2, .tuple [.str "row", rD r5]]] := fun b => by rw [fmD, fmDs, fmDs, fmDs, fmDs, fr]
        have ok2 : ∀ b, DrF (.jn b [f1, f2]) (d' + 1) := fun b => ⟨by rw [FmOk, FmsOk, FmsOk, FmsOk]; exact ⟨(show 2 ≤ 1000 by decide), D1.ok, D2.ok, trivial⟩, by rw [fdep, fdeps, fdeps, fdeps]; omega, by rw [fsz, fszs, fszs, fszs]; omega⟩
        have ok3 : ∀ b, DrF (.jn b [f1, f2, .row r5]) (d' + 1) := fun b => ⟨by rw [FmOk, FmsOk, FmsOk, FmsOk, FmsOk, FmOk]; exact ⟨(show 3 ≤ 1000 by decide), D1.ok, D2.ok, g5, trivial⟩, by rw [fdep, fdeps, fdeps, fdeps, fdeps, fdep]; omega, by rw [fsz, fszs, fszs, fszs, fszs, fsz]; omega⟩
        rcases (show kd = 3 ∨ kd = 4 ∨ kd = 5 ∨ kd = 6 ∨ kd = 7 by omega) with rfl | rfl | rfl | rfl | rfl
        · refine ⟨.neg f1, ?_, ⟨by rw [FmOk]; exact D1.ok, by rw [fdep]; omega, by rw [fsz]; omega⟩⟩
          rw [fmD]
          generalize ds.map PyData.int = DS at *
          generalize fmD f1 = F1 at *
          generalize LF.R_formula n = RR at *
          simp [LF.B_formula, LF.S_formula, L, X, M, M9, hkd, bInt, zd', sb, h1]
        · have ix : dIx (.list [.str "and", .str "and", .str "or", .str "or"]) (.int 0) = some (.str (jw true)) := dIx_l (i := 0) rfl
          refine ⟨.jn true [f1, f2], ?_, ok2 true⟩
          rw [fs2]
          generalize ds.map PyData.int = DS at *
          generalize fmD f1 = F1 at *
          generalize fmD f2 = F2 at *
          generalize LF.R_formula n = RR at *
          simp [LF.B_formula, LF.S_formula, L, X, M, M9, hkd, bInt, zd', sb, h1, h2, ix]
        · have ix : dIx (.list [.str "and", .str "and", .str "or", .str "or"]) (.int 1) = some (.str (jw true)) := dIx_l (i := 1) rfl
          refine ⟨.jn true [f1, f2], ?_, ok2 true⟩
          rw [fs2]
          generalize ds.map PyData.int = DS at *
          generalize fmD f1 = F1 at *
          generalize fmD f2 = F2 at *
          generalize LF.R_formula n = RR at *
          simp [LF.B_formula, LF.S_formula, L, X, M, M9, hkd, bInt, zd', sb, h1, h2, ix]
        · have ix : dIx (.list [.str "and", .str "and", .str "or", .str "or"]) (.int 2) = some (.str (jw false)) := dIx_l (i := 2) rfl
          refine ⟨.jn false [f1, f2], ?_, ok2 false⟩
          rw [fs2]
          generalize ds.map PyData.int = DS at *
          generalize fmD f1 = F1 at *
          generalize fmD f2 = F2 at *
          generalize LF.R_formula n = RR at *
          simp [LF.B_formula, LF.S_formula, L, X, M, M9, hkd, bInt, zd', sb, h1, h2, ix]
        · have ix : dIx (.list [.str "and", .str "and", .str "or", .str "or"]) (.int 3) = some (.str (jw false)) := dIx_l (i := 3) rfl
          refine ⟨.jn false [f1, f2, .row r5], ?_, ok3 false⟩
          rw [fs3]
          generalize ds.map PyData.int = DS at *
          generalize fmD f1 = F1 at *
          generalize fmD f2 = F2 at *
          generalize rD r5 = R5 at *
          generalize LF.R_formula n = RR at *
          simp [LF.B_formula, LF.S_formula, L, X, M, M9, hkd, bInt, zd', sb, h1, h2, ix, e5]
theorem dg_of : ∀ {ds : List Int} (n : Nat), Dig ds (List.replicate n 97) → ds.length = n ∧ ∀ d ∈ ds, 0 ≤ d ∧ d < 97
  | [], 0, _ => ⟨rfl, fun _ h => by cases h⟩
  | [], n + 1, h => by rw [List.replicate_succ] at h; exact h.elim
  | d :: ds, 0, h => h.elim
  | d :: ds, n + 1, h => by
    rw [List.replicate_succ] at h
    obtain ⟨a, b⟩ := dg_of n h.2
    exact ⟨by rw [List.length_cons, a], fun x hx => by
      rcases List.mem_cons.mp hx with rfl | hx
      · exact h.1
      · exact b x hx⟩
theorem lf_some (ns : List Int) (k : Nat) (hk : k < 1000) (d : Nat) (hd : d ≤ 20) : ∃ f, LF.m_some [iL ns, .int (k : Int), .int (d : Int)] = .ok (fmD f) ∧ DrF f d := by
  obtain ⟨ds, ed, gd⟩ := draw_ok ns k hk (List.replicate 40 97) (by decide) (by decide)
  obtain ⟨l, q⟩ := dg_of 40 gd
  obtain ⟨f, e, F⟩ := lf_formula (ds := ds) ⟨l, q⟩ d 24 0 (by omega)
  refine ⟨f, ?_, F⟩
  have ed' : lm_draw [.list (ns.map PyData.int), .int (k : Int), .list (List.replicate 40 [PyData.int 97]).flatten] = .ok (.list (ds.map PyData.int)) := by
    have : iL (List.replicate 40 97) = .list (List.replicate 40 [PyData.int 97]).flatten := rfl
    rw [← this]
    exact ed
  have e' : LF.m_formula [.list (ds.map PyData.int), .int 0, .int (d : Int)] = .ok (fmD f) := e
  have rp := repF_apc (A := consA (cF (.int 97)) nilA) (F := cF (.int 40)) (ρ := [.d (.list (ns.map PyData.int)), .d (.int (k : Int)), .d (.int (d : Int))]) (ρ1 := [.d (.list (ns.map PyData.int)), .d (.int (k : Int)), .d (.int (d : Int))]) (ρ2 := [.d (.list (ns.map PyData.int)), .d (.int (k : Int)), .d (.int (d : Int))]) (k := 40) (ds := [.int 97]) (by simp) (by simp) (by decide) (by decide)
  show LF.B_some (.list (ns.map PyData.int)) (.int (k : Int)) (.int (d : Int)) = _
  generalize (List.replicate 40 [PyData.int 97]).flatten = RP at *
  generalize ds.map PyData.int = DS at *
  generalize ns.map PyData.int = NS at *
  generalize fmD f = FF at *
  simp [LF.B_some, LF.S_some, ed', e', rp]
end DL
set_option exponentiation.threshold 5000
namespace DL
open PySem PySem.Spec PyProof.Rows L2 RT
theorem lf_number {t b : Int} (hb : 0 < b) (h : b < 1000) : LF.m_number [.int t, .int b] = .ok (N (nrm t b)) := by
  have L := euclid_loop (.d (.int t)) (.d (.int b)) b.natAbs t.natAbs
  have e2 : ((b.natAbs : Nat) : Int) = b := by omega
  rw [e2, Nat.gcd_comm] at L
  have g0 := gcd_pos (t := t) (b := b) (by omega)
  have sg : Sd (Nat.gcd t.natAbs b.natAbs : Int) := (gcd_bt (n := 10) (by omega) (by unfold Bt; show b.natAbs < 1024; omega)).sd (by omega) (by decide) (by decide)
  have f1 : t.fdiv (Nat.gcd t.natAbs b.natAbs : Int) = t / (Nat.gcd t.natAbs b.natAbs : Int) := Int.fdiv_eq_ediv_of_nonneg _ (by omega)
  have f2 : b.fdiv (Nat.gcd t.natAbs b.natAbs : Int) = b / (Nat.gcd t.natAbs b.natAbs : Int) := Int.fdiv_eq_ediv_of_nonneg _ (by omega)
  have ab : bAbs (.int t) = some (.int (t.natAbs : Int)) := by
    show some (PyData.int (if t < 0 then -t else t)) = _
    congr 2
    split <;> omega
  have h1 : ¬ b < 0 := by omega
  have L' : whileS (testF (binF dNe (varF 3) (cF (.int 0)))) LF.L_number_1 [.d (.int t), .d (.int b), .d (.int (t.natAbs : Int)), .d (.int b)] = .nx [.d (.int t), .d (.int b), .d (.int (Nat.gcd t.natAbs b.natAbs : Int)), .d (.int 0)] := L
  show LF.B_number _ _ = _
  unfold nrm
  rw [if_neg h1]
  simp [LF.B_number, LF.S_number, ab, L', dDiv_ok, sg, f1, f2, N]
structure PtD (pt : List Pt) : Prop where
  sz : ∀ p ∈ pt, Sz 5 p.2
  len : pt.length ≤ 3
  ok : ∀ p ∈ pt, PySem.PyData.strOk p.1 = true
theorem lf_point (ns : List Int) (k : Nat) (hk : k < 1000) : ∃ pt, LF.m_point [.list (ns.map PyData.int), .int (k : Int)] = .ok (psD pt) ∧ PtD pt := by
  obtain ⟨ds, ed, gd⟩ := draw_ok ns k hk [13, 13, 13, 3, 9] (by decide) (by decide)
  obtain ⟨d0, d1, d2, d3, d4, rfl, h0, h1, h2, h3, h4⟩ : ∃ d0 d1 d2 d3 d4, ds = [d0, d1, d2, d3, d4] ∧ (0 ≤ d0 ∧ d0 < 13) ∧ (0 ≤ d1 ∧ d1 < 13) ∧ (0 ≤ d2 ∧ d2 < 13) ∧ (0 ≤ d3 ∧ d3 < 3) ∧ (0 ≤ d4 ∧ d4 < 9) := by
    match ds, gd with
    | [d0, d1, d2, d3, d4], h => exact ⟨d0, d1, d2, d3, d4, rfl, h.1, h.2.1, h.2.2.1, h.2.2.2.1, h.2.2.2.2.1⟩
  have ed' : lm_draw [.list (ns.map PyData.int), .int (k : Int), .list [.int 13, .int 13, .int 13, .int 3, .int 9]] = .ok (.list [.int d0, .int d1, .int d2, .int d3, .int d4]) := ed
  have nn : ∀ d : Int, 0 ≤ d ∧ d < 13 → LF.m_number [.int (d - 6), .int (1 + d3)] = .ok (N (nrm (d - 6) (1 + d3))) ∧ Sz 5 (nrm (d - 6) (1 + d3)) := fun d h => ⟨lf_number (by omega) (by omega), .nrm (by omega) (by unfold Bt; omega) (by unfold Bt; omega)⟩
  obtain ⟨n0, z0⟩ := nn d0 h0
  obtain ⟨n1, z1⟩ := nn d1 h1
  obtain ⟨n2, z2⟩ := nn d2 h2
  generalize nrm (d0 - 6) (1 + d3) = q0 at *
  generalize nrm (d1 - 6) (1 + d3) = q1 at *
  generalize nrm (d2 - 6) (1 + d3) = q2 at *
  have r3 : ∀ ρ, rng1 [.int (3 : Int)] ρ = .ok [.int 0, .int 1, .int 2] ρ := fun ρ => rng1_nat (n := 3) (by decide)
  have i0 : dIx (.list [.int d0, .int d1, .int d2, .int d3, .int d4]) (.int 0) = some (.int d0) := dIx_l (i := 0) rfl
  have i1 : dIx (.list [.int d0, .int d1, .int d2, .int d3, .int d4]) (.int 1) = some (.int d1) := dIx_l (i := 1) rfl
  have i2 : dIx (.list [.int d0, .int d1, .int d2, .int d3, .int d4]) (.int 2) = some (.int d2) := dIx_l (i := 2) rfl
  have i3 : dIx (.list [.int d0, .int d1, .int d2, .int d3, .int d4]) (.int 3) = some (.int d3) := dIx_l (i := 3) rfl
  have i4 : dIx (.list [.int d0, .int d1, .int d2, .int d3, .int d4]) (.int 4) = some (.int d4) := dIx_l (i := 4) rfl
  have j0 : dIx (.list [.str "x", .str "y", .str "z2"]) (.int 0) = some (.str "x") := dIx_l (i := 0) rfl
  have j1 : dIx (.list [.str "x", .str "y", .str "z2"]) (.int 1) = some (.str "y") := dIx_l (i := 1) rfl
  have j2 : dIx (.list [.str "x", .str "y", .str "z2"]) (.int 2) = some (.str "z2") := dIx_l (i := 2) rfl
  have okx : PySem.PyData.strOk ("x" : Str) = true := by decide +kernel
  have oky : PySem.PyData.strOk ("y" : Str) = true := by decide +kernel
  have okz : PySem.PyData.strOk ("z2" : Str) = true := by decide +kernel
  simp only [N] at n0 n1 n2
  have mk : ∀ pt : List Pt, (∀ p ∈ pt, p = (("x" : Str), q0) ∨ p = (("y" : Str), q1) ∨ p = (("z2" : Str), q2)) → pt.length ≤ 3 → PtD pt := fun pt h l => ⟨fun p hp => by rcases h p hp with rfl | rfl | rfl <;> assumption, l, fun p hp => by rcases h p hp with rfl | rfl | rfl <;> assumption⟩
  clear ed nn z0 z1 z2
  generalize ns.map PyData.int = NS at *
  by_cases w0 : d4 = 0
  · subst w0
    refine ⟨[("y", q1), ("z2", q2)], ?_, mk _ (by simp) (by simp)⟩
    show LF.B_point _ _ = _
    simp [LF.B_point, LF.S_point, LF.L_point_1, loopS, ed', r3, i0, i1, i2, i3, i4, j0, j1, j2, n0, n1, n2]
  · by_cases w1 : d4 = 1
    · subst w1
      refine ⟨[("x", q0), ("z2", q2)], ?_, mk _ (by simp) (by simp)⟩
      show LF.B_point _ _ = _
      simp [LF.B_point, LF.S_point, LF.L_point_1, loopS, ed', r3, i0, i1, i2, i3, i4, j0, j1, j2, n0, n1, n2]
    · by_cases w2 : d4 = 2
      · subst w2
        refine ⟨[("x", q0), ("y", q1)], ?_, mk _ (by simp) (by simp)⟩
        show LF.B_point _ _ = _
        simp [LF.B_point, LF.S_point, LF.L_point_1, loopS, ed', r3, i0, i1, i2, i3, i4, j0, j1, j2, n0, n1, n2]
      · refine ⟨[("x", q0), ("y", q1), ("z2", q2)], ?_, mk _ (by simp) (by simp)⟩
        show LF.B_point _ _ = _
        simp [LF.B_point, LF.S_point, LF.L_point_1, loopS, ed', r3, i0, i1, i2, i3, i4, j0, j1, j2, n0, n1, n2, w0, w1, w2]
end DL
set_option exponentiation.threshold 5000
namespace DL
open PySem PySem.Spec PyProof.Rows L2 RT
def pts : Fm → List Fm
  | .neg f => [f]
  | .jn _ fs => fs
  | _ => []
theorem fszs_sum : ∀ fs : List Fm, fszs fs = (fs.map fsz).sum
  | [] => rfl
  | f :: fs => by rw [fszs, fszs_sum fs]; rfl
theorem fsz_pts (f : Fm) : fsz f = (( pts f).map fsz).sum + 1 := by
  cases f with
  | row r => rw [fsz]; rfl
  | tt => rw [fsz]; rfl
  | ff => rw [fsz]; rfl
  | neg f => rw [fsz]; simp [pts]
  | jn b fs => rw [fsz, fszs_sum]; rfl
mutual
def rowsF : Fm → List Rw
  | .row r => [r]
  | .tt => []
  | .ff => []
  | .neg f => rowsF f
  | .jn _ fs => rowsFs fs
def rowsFs : List Fm → List Rw
  | [] => []
  | f :: fs => rowsF f ++ rowsFs fs
end
theorem rowsFs_mem {r : Rw} : ∀ {fs : List Fm}, r ∈ rowsFs fs ↔ ∃ f ∈ fs, r ∈ rowsF f
  | [] => by simp [rowsFs]
  | f :: fs => by rw [rowsFs, List.mem_append, rowsFs_mem (fs := fs)]; simp
theorem rowsF_pts {r : Rw} (f : Fm) : r ∈ rowsF f ↔ f = .row r ∨ ∃ g ∈ pts f, r ∈ rowsF g := by
  cases f with
  | row s => rw [rowsF]; simp [pts]; exact eq_comm
  | tt => rw [rowsF]; simp [pts]
  | ff => rw [rowsF]; simp [pts]
  | neg f => rw [rowsF]; simp [pts]
  | jn b fs => rw [rowsF, rowsFs_mem]; simp [pts]
theorem ok_pts {P : Rw → Prop} {f : Fm} (h : FmOk P f) : (∀ g ∈ pts f, FmOk P g) ∧ (pts f).length ≤ 1000 := by
  cases f with
  | row s => exact ⟨fun g hg => (by cases hg), (show 0 ≤ 1000 by decide)⟩
  | tt => exact ⟨fun g hg => (by cases hg), (show 0 ≤ 1000 by decide)⟩
  | ff => exact ⟨fun g hg => (by cases hg), (show 0 ≤ 1000 by decide)⟩
  | neg f =>
    rw [FmOk] at h
    exact ⟨fun g hg => by rw [List.mem_singleton.mp hg]; exact h, (show 1 ≤ 1000 by decide)⟩
  | jn b fs =>
    rw [FmOk] at h
    exact ⟨fun g hg => FmsOk_mem.mp h.2 g hg, h.1⟩
theorem pg_parts (f : Fm) : PG.m__parts [fmD f] = .ok (.tuple ((pts f).map fmD)) := by
  show PG.B__parts _ = _
  cases f with
  | row r =>
    rw [fmD]
    generalize rD r = R at *
    simp [PG.B__parts, PG.S__parts, kw_row_not, inJ_row, pts]
  | tt => rw [fmD]; simp [PG.B__parts, PG.S__parts, kw_true_not, inJ_true, pts]
  | ff => rw [fmD]; simp [PG.B__parts, PG.S__parts, kw_false_not, inJ_false, pts]
  | neg f =>
    rw [fmD]
    show _ = FR.ok (.tuple ([f].map fmD))
    rw [List.map_cons, List.map_nil]
    generalize fmD f = F at *
    simp [PG.B__parts, PG.S__parts, kw_not_not]
  | jn b fs =>
    rw [fmD, fmDs_map]
    show _ = FR.ok (.tuple (fs.map fmD))
    generalize fs.map fmD = FS at *
    simp [PG.B__parts, PG.S__parts, jw_not, inJ_jw]
def enF (p : Fm × Int) : PyData := .tuple [fmD p.1, .int p.2]
def tot (st : List (Fm × Int)) : Nat := (st.map fun p => fsz p.1).sum
theorem fsz_pos (f : Fm) : 1 ≤ fsz f := by rw [fsz_pts]; omega
structure AllIn (st L : List (Fm × Int)) : Prop where
  len : L.length = tot st
  mem : ∀ r, (∃ k, (Fm.row r, k) ∈ L) ↔ ∃ p ∈ st, r ∈ rowsF p.1
theorem all_loop : ∀ (n : Nat) (st : List (Fm × Int)) (found : List PyData) (a0 e3 e4 e5 : Ent), tot st ≤ n → (∀ p ∈ st, FmOk RwT p.1) → found.length + tot st ≤ 1000000 → st.length ≤ 1000000 →
    ∃ L e3' e4' e5', whileS (truO 2) PG.L__all_in_1 [a0, .own found, .own (st.map enF), e3, e4, e5] = .nx [a0, .own (found ++ L.map enF), .own [], e3', e4', e5'] ∧ AllIn st L := by
  intro n
  induction n with
  | zero =>
    intro st found a0 e3 e4 e5 h _ _ _
    have e : st = [] := by
      cases st with
      | nil => rfl
      | cons p st =>
        have := fsz_pos p.1
        simp [tot] at h
        omega
    subst e
    refine ⟨[], e3, e4, e5, ?_, rfl, fun r => by simp⟩
    rw [whileS_eq]
    simp
  | succ n ih =>
    intro st found a0 e3 e4 e5 h ok hl hs
    rcases List.eq_nil_or_concat st with rfl | ⟨st', ⟨f, k⟩, rfl⟩
    · refine ⟨[], e3, e4, e5, ?_, rfl, fun r => by simp⟩
      rw [whileS_eq]
      simp
    · rw [List.concat_eq_append] at *
      have tt : tot (st' ++ [(f, k)]) = tot st' + fsz f := by simp [tot]
      have t2 : tot (st' ++ (pts f).map fun g => (g, k + 1)) = tot st' + ((pts f).map fsz).sum := by
        unfold tot
        rw [List.map_append, List.sum_append, List.map_map]
        rfl
      have fp := fsz_pts f
      have okf := ok (f, k) (by simp)
      obtain ⟨op, lp⟩ := ok_pts okf
      rw [List.length_append, List.length_singleton] at hs
      have sl : st'.length ≤ tot st' := by
        clear ih h ok hl hs tt t2
        induction st' with
        | nil => exact Nat.zero_le _
        | cons p st' ih2 =>
          have := fsz_pos p.1
          have e : tot (p :: st') = fsz p.1 + tot st' := by simp [tot]
          rw [e, List.length_cons]
          omega
      have pl : (pts f).length ≤ ((pts f).map fsz).sum := by
        generalize pts f = gs
        induction gs with
        | nil => exact Nat.zero_le _
        | cons g gs ih2 =>
          have := fsz_pos g
          rw [List.map_cons, List.sum_cons, List.length_cons]
          omega
      obtain ⟨L, f3, f4, f5, lp2, A⟩ := ih (st' ++ (pts f).map fun g => (g, k + 1)) (found ++ [enF (f, k)]) a0 (.d (fmD f)) (.d (.int k)) e5 (by omega) (fun p hp => by
        rcases List.mem_append.mp hp with hp | hp
        · exact ok p (List.mem_append_left _ hp)
        · obtain ⟨g, hg, rfl⟩ := List.mem_map.mp hp
          exact op g hg) (by rw [List.length_append, List.length_singleton]; omega) (by rw [List.length_append, List.length_map]; omega)
      refine ⟨(f, k) :: L, f3, f4, f5, ?_, ?_⟩
      · have ep := pg_parts f
        have c : ∀ (b0 b1 b2 : Ent), compL (nameT 5) yesT (tupF (consA (varF 5) (consA (binF dAdd (varF 4) (cF (.int 1))) nilA))) [b0, b1, b2, .d (fmD f), .d (.int k), .un] ((pts f).map fmD) [] = some (((pts f).map fun g => (g, k + 1)).map enF) := by
          intro b0 b1 b2
          rw [compL_map fmD (fun g => enF (g, k + 1)) (pts f) (fun g _ => ?_) (by omega)]
          · rw [List.map_map]; rfl
          · unfold enF
            dsimp only
            generalize fmD g = G at *
            generalize fmD f = F at *
            simp
        have lens : ((st'.map enF).length + (((pts f).map fun g => (g, k + 1)).map enF).length ≤ 16777216) := by simp; omega
        have fl : found.length < 16777216 := by omega
        rw [List.map_append, List.append_assoc] at lp2
        have en : enF (f, k) = .tuple [fmD f, .int k] := rfl
        rw [whileS_eq, List.map_append, List.map_cons, List.map_nil, en]
        have ne : ((st'.map enF) ++ [PyData.tuple [fmD f, .int k]]).isEmpty = false := by simp
        have pf : popF 2 [a0, .own found, .own ((st'.map enF) ++ [.tuple [fmD f, .int k]]), e3, e4, e5] = .ok (.tuple [fmD f, .int k]) [a0, .own found, .own (st'.map enF), e3, e4, e5] := popF_snoc rfl
        have st1 : PG.L__all_in_1 [a0, .own found, .own ((st'.map enF) ++ [.tuple [fmD f, .int k]]), e3, e4, e5] = .nx [a0, .own (found ++ [.tuple [fmD f, .int k]]), .own ((st'.map enF) ++ ((pts f).map fun g => (g, k + 1)).map enF), .d (fmD f), .d (.int k), e5] := by
          clear lp2 A ih
          generalize ((pts f).map fun g => (g, k + 1)).map enF = PE at *
          generalize (pts f).map fmD = PF at *
          generalize st'.map enF = ST at *
          generalize fmD f = F at *
          unfold PG.L__all_in_1
          rw [seqS_apc, asgS_apc, pf]
          simp [ep, c, fl]
          exact iteC_pos lens
        have tr : truO 2 [a0, .own found, .own ((st'.map enF) ++ [.tuple [fmD f, .int k]]), e3, e4, e5] = .ok true [a0, .own found, .own ((st'.map enF) ++ [.tuple [fmD f, .int k]]), e3, e4, e5] := by
          simp
        rw [tr]
        simp only [Res.out, if_true]
        rw [st1]
        simp only [List.map_append, List.append_assoc, List.map_cons, en] at lp2 ⊢
        exact lp2
      · refine ⟨by rw [List.length_cons, A.len]; omega, fun r => ?_⟩
        constructor
        · rintro ⟨j, hj⟩
          rcases List.mem_cons.mp hj with e | hj
          · have e1 := congrArg Prod.fst e
            exact ⟨(f, k), by simp, (rowsF_pts f).mpr (.inl e1.symm)⟩
          · obtain ⟨p, hp, hr⟩ := (A.mem r).mp ⟨j, hj⟩
            rcases List.mem_append.mp hp with hp | hp
            · exact ⟨p, List.mem_append_left _ hp, hr⟩
            · obtain ⟨g, hg, rfl⟩ := List.mem_map.mp hp
              exact ⟨(f, k), by simp, (rowsF_pts f).mpr (.inr ⟨g, hg, hr⟩)⟩
        · rintro ⟨p, hp, hr⟩
          rcases List.mem_append.mp hp with hp | hp
          · obtain ⟨j, hj⟩ := (A.mem r).mpr ⟨p, List.mem_append_left _ hp, hr⟩
            exact ⟨j, List.mem_cons_of_mem _ hj⟩
          · rw [List.mem_singleton.mp hp] at hr
            rcases (rowsF_pts f).mp hr with e | ⟨g, hg, hr⟩
            · exact ⟨k, by rw [← e]; exact List.mem_cons_self⟩
            · obtain ⟨j, hj⟩ := (A.mem r).mpr ⟨(g, k + 1), List.mem_append_right _ (List.mem_map.mpr ⟨g, hg, rfl⟩), hr⟩
              exact ⟨j, List.mem_cons_of_mem _ hj⟩
theorem pg_all_in {f : Fm} (h : FmOk RwT f) (hs : fsz f ≤ 1000) : ∃ L, PG.m__all_in [fmD f] = .ok (.list (L.map enF)) ∧ AllIn [(f, 0)] L := by
  have tt : tot [(f, 0)] = fsz f := by simp [tot]
  obtain ⟨L, e3, e4, e5, lp, A⟩ := all_loop (fsz f) [(f, 0)] [] (.d (fmD f)) .un .un .un (by omega) (fun p hp => by rw [List.mem_singleton.mp hp]; exact h) (by rw [tt]; simp; omega) (show 1 ≤ 1000000 by decide)
  refine ⟨L, ?_, A⟩
  rw [List.map_cons, List.map_nil, List.nil_append] at lp
  have en : enF (f, 0) = .tuple [fmD f, .int 0] := rfl
  rw [en] at lp
  show PG.B__all_in _ = _
  generalize L.map enF = LL at *
  generalize fmD f = F at *
  simp [PG.B__all_in, PG.S__all_in, lp]
def rowO (q : Fm × Int) : Option Rw := match q.1 with
  | .row r => some r
  | _ => none
theorem rowO_map : ∀ L : List (Fm × Int), (L.filter fun q => (rowO q).isSome).map (fun q => ((rowO q).map rD).getD PyData.none) = (L.filterMap rowO).map rD
  | [] => rfl
  | q :: L => by
    have ih := rowO_map L
    cases h : rowO q with
    | none => rw [List.filter_cons_of_neg (by rw [h]; simp), List.filterMap_cons_none h, ih]
    | some r => rw [List.filter_cons_of_pos (by rw [h]; rfl), List.filterMap_cons_some h, List.map_cons, List.map_cons, ih, h]; rfl
theorem rowO_mem {L : List (Fm × Int)} {r : Rw} : r ∈ L.filterMap rowO ↔ ∃ k, (Fm.row r, k) ∈ L := by
  rw [List.mem_filterMap]
  constructor
  · rintro ⟨⟨f, k⟩, hq, e⟩
    cases f with
    | row s => cases e; exact ⟨k, hq⟩
    | tt => cases e
    | ff => cases e
    | neg f => cases e
    | jn b fs => cases e
  · rintro ⟨k, h⟩
    exact ⟨_, h, rfl⟩
theorem rows_ok {P : Rw → Prop} : ∀ (n : Nat) (f : Fm), fsz f ≤ n → FmOk P f → ∀ r ∈ rowsF f, P r
  | 0, f, h, _ => by have := fsz_pos f; omega
  | n + 1, f, h, ok => fun r hr => by
    rcases (rowsF_pts f).mp hr with e | ⟨g, hg, hr⟩
    · rw [e, FmOk] at ok; exact ok
    · have q := fsz_pts f
      have le : fsz g ≤ ((pts f).map fsz).sum := by
        generalize pts f = gs at *
        clear q h
        induction gs with
        | nil => cases hg
        | cons x gs ih =>
          rw [List.map_cons, List.sum_cons]
          rcases List.mem_cons.mp hg with rfl | hg
          · omega
          · have := ih hg; omega
      exact rows_ok n g (by omega) ((ok_pts ok).1 g hg) r hr
theorem pg_unknowns_of {f : Fm} (h : FmOk RwT f) (hs : fsz f ≤ 1000) : ∃ rows, PG.m_unknowns_of [fmD f] = .ok (.list ((sortS (nmR rows [])).map PyData.str)) ∧ (∀ r, r ∈ rows ↔ r ∈ rowsF f) := by
  obtain ⟨L, e, A⟩ := pg_all_in h hs
  have lL : L.length ≤ 1000 := by rw [A.len]; simp [tot]; omega
  have mem : ∀ r, r ∈ L.filterMap rowO ↔ r ∈ rowsF f := fun r => by rw [rowO_mem, A.mem]; simp
  have cc : ∀ b0 : Ent, compL (tupT 2 (consTs (nameT 1) (consTs (nameT 2) nilTs))) (testF (binF dEq (binF dIx (varF 1) (cF (.int 0))) (cF (.str "row")))) (binF dIx (varF 1) (cF (.int 1))) [b0, .un, .un] (L.map enF) [] = some ((L.filterMap rowO).map rD) := by
    intro b0
    rw [compL_filter (fun q => (rowO q).isSome) enF (fun q => ((rowO q).map rD).getD PyData.none) L [] (fun q hq => ?_) (by simp; omega)]
    · rw [rowO_map, List.nil_append]
    · obtain ⟨g, k⟩ := q
      have en : enF (g, k) = .tuple [fmD g, .int k] := rfl
      rw [en]
      unfold stepC
      cases g with
      | row r =>
        rw [fmD]
        show _ = some (some (rD r))
        generalize rD r = R at *
        simp [kw_row_row]
      | tt => rw [fmD]; show _ = some none; simp [kw_true_row]
      | ff => rw [fmD]; show _ = some none; simp [kw_false_row]
      | neg g =>
        rw [fmD]
        show _ = some none
        generalize fmD g = G at *
        simp [kw_not_row]
      | jn b fs =>
        rw [fmD]
        show _ = some none
        generalize fmDs fs = G at *
        simp [jw_row]
  have un : PG.m_unknowns [.list ((L.filterMap rowO).map rD)] = .ok (.list ((sortS (nmR (L.filterMap rowO) [])).map PyData.str)) := pg_unknowns fun r hr p hp => by
    have R := rows_ok _ f (Nat.le_refl _) h r ((mem r).mp hr)
    exact L3_nam (R.nm p hp)
  refine ⟨L.filterMap rowO, ?_, mem⟩
  show PG.B_unknowns_of _ = _
  generalize (sortS (nmR (L.filterMap rowO) [])).map PyData.str = US at *
  generalize (L.filterMap rowO).map rD = RS at *
  generalize L.map enF = LL at *
  generalize fmD f = F at *
  simp [PG.B_unknowns_of, PG.S_unknowns_of, e, cc, un]
end DL
set_option exponentiation.threshold 5000
namespace DL
open PySem PySem.Spec PyProof.Rows L2 RT
theorem rD_lay {r : Rw} (h : RwT r) : (rD r).canLay0 = true ∧ (rD r).depth ≤ 5 := by
  have ok : ∀ p ∈ r.1, PySem.PyData.strOk p.1 = true := fun p hp => bndA.ok _ (h.nm p hp)
  have h1 : PyData.canLayAll0 (r.1.map pD) = true := canAll fun p hp => pD_can (ok p hp)
  have h2 : PyData.depthAll (r.1.map pD) ≤ 2 := depAll fun p _ => pD_dep
  have hs := h.sgn.ok
  constructor
  · show (PyData.canLayAll0 (r.1.map pD) && (PySem.PyData.strOk r.2.1 && ((true && (true && true)) && true))) = true
    rw [h1, hs]; rfl
  · show max (PyData.depthAll (r.1.map pD) + 1) (max 0 (max (max 0 (max 0 0) + 1) 0)) + 1 ≤ 5
    omega
mutual
theorem fm_lay : ∀ f : Fm, FmOk RwT f → (fmD f).canLay0 = true ∧ (fmD f).depth ≤ 2 * fdep f + 6
  | .row r, h => by
    rw [FmOk] at h
    obtain ⟨a, b⟩ := rD_lay h
    rw [fmD]
    constructor
    · show (PySem.PyData.strOk "row" && ((rD r).canLay0 && true)) = true
      rw [okw_row, a]; rfl
    · show max 0 (max (rD r).depth 0) + 1 ≤ _
      omega
  | .tt, _ => by
    rw [fmD]
    exact ⟨by show (PySem.PyData.strOk "true" && true) = true; rw [okw_true]; rfl, by show max 0 0 + 1 ≤ _; omega⟩
  | .ff, _ => by
    rw [fmD]
    exact ⟨by show (PySem.PyData.strOk "false" && true) = true; rw [okw_false]; rfl, by show max 0 0 + 1 ≤ _; omega⟩
  | .neg f, h => by
    rw [FmOk] at h
    obtain ⟨a, b⟩ := fm_lay f h
    rw [fmD, fdep]
    constructor
    · show (PySem.PyData.strOk "not" && ((fmD f).canLay0 && true)) = true
      rw [okw_not, a]; rfl
    · show max 0 (max (fmD f).depth 0) + 1 ≤ _
      omega
  | .jn b fs, h => by
    rw [FmOk] at h
    obtain ⟨a, c⟩ := fms_lay fs h.2
    have w : PySem.PyData.strOk (jw b) = true := by cases b; exact okw_or; exact okw_and
    rw [fmD, fdep]
    constructor
    · show (PySem.PyData.strOk (jw b) && (PyData.canLayAll0 (fmDs fs) && true)) = true
      rw [w, a]; rfl
    · show max 0 (max (PyData.depthAll (fmDs fs) + 1) 0) + 1 ≤ _
      omega
theorem fms_lay : ∀ fs : List Fm, FmsOk RwT fs → PyData.canLayAll0 (fmDs fs) = true ∧ PyData.depthAll (fmDs fs) ≤ 2 * fdeps fs + 6
  | [], _ => by rw [fmDs]; exact ⟨rfl, Nat.zero_le _⟩
  | f :: fs, h => by
    rw [FmsOk] at h
    obtain ⟨a, b⟩ := fm_lay f h.1
    obtain ⟨c, d⟩ := fms_lay fs h.2
    rw [fmDs, fdeps]
    constructor
    · show ((fmD f).canLay0 && PyData.canLayAll0 (fmDs fs)) = true
      rw [a, c]; rfl
    · show max (fmD f).depth (PyData.depthAll (fmDs fs)) ≤ _
      omega
end
theorem fm_shaped {f : Fm} (h : FmOk RwT f) (hd : fdep f ≤ 25) : SeqAt.shaped (fmD f) = true := by
  obtain ⟨a, b⟩ := fm_lay f h
  simp only [SeqAt.shaped, a, Bool.true_and]
  exact decide_eq_true (by omega)
theorem in_ao {w : Str} (h : PySem.PyData.strOk w = true) : dIn3 (.str w) (.list [.str "and", .str "or"]) = some (.bool (decide (w ∈ (["and", "or"] : List Str)))) :=
  in_strs (ss := ["and", "or"]) h fun x hx => by
    simp at hx
    rcases hx with rfl | rfl
    · exact okw_and
    · exact okw_or
theorem many_step {W : List Fm} {a0 : Ent} {t : Nat} (ok : ∀ g ∈ W, FmOk RwT g) (hl : W.length ≤ 1 + 1000 * t) (ht : t < 1000) {e1 : Ent} (h1 : e1 = .own (W.map fmD) ∨ e1 = .d (.list (W.map fmD))) :
    ∃ W' : List Fm, LF.L_many_1 [a0, e1, .d (.int (t : Int))] = .nx [a0, .d (.list (W'.map fmD)), .d (.int (t : Int))] ∧ (∀ g ∈ W', FmOk RwT g) ∧ W'.length ≤ 1 + 1000 * (t + 1) := by
  have ll : bLen (.list (W.map fmD)) = some (.int (W.length : Int)) := by simp [bLen]
  by_cases hlt : t < W.length
  · have g1 : W[t]? = some W[t] := List.getElem?_eq_getElem hlt
    have okg := ok _ (List.getElem_mem hlt)
    generalize W[t] = g at *
    have ix : dIx (.list (W.map fmD)) (.int (t : Int)) = some (fmD g) := dIx_l (by rw [List.getElem?_map, g1]; rfl)
    have hlt' : decide ((t : Int) < (W.length : Int)) = true := decide_eq_true (by omega)
    have same : (∀ w d, fmD g = .tuple (.str w :: d) → PySem.PyData.strOk w = true ∧ w ∉ (["and", "or"] : List Str)) → (∃ w d, fmD g = .tuple (.str w :: d)) → LF.L_many_1 [a0, e1, .d (.int (t : Int))] = .nx [a0, .d (.list (W.map fmD)), .d (.int (t : Int))] := fun hw hx => by
      obtain ⟨w, d, e⟩ := hx
      obtain ⟨w1, w2⟩ := hw w d e
      have q := in_ao w1
      rw [decide_eq_false w2] at q
      rw [e] at ix
      generalize W.map fmD = WM at *
      rcases h1 with rfl | rfl <;> simp [LF.L_many_1, ll, hlt, ix, q]
    have nm : ∀ w : Str, w = "row" ∨ w = "true" ∨ w = "false" ∨ w = "not" → PySem.PyData.strOk w = true ∧ w ∉ (["and", "or"] : List Str) := fun w h => by
      rcases h with rfl | rfl | rfl | rfl <;> exact ⟨by decide +kernel, by decide⟩
    have inj : ∀ {w w' : Str} {d d' : List PyData}, PyData.tuple (.str w :: d) = .tuple (.str w' :: d') → w = w' := fun h => by injection h with h; injection h with h _; injection h
    cases g with
    | row r => exact ⟨W, same (fun w d e => by rw [fmD] at e; exact nm w (.inl (inj e).symm)) ⟨_, _, by rw [fmD]⟩, ok, by omega⟩
    | tt => exact ⟨W, same (fun w d e => by rw [fmD] at e; exact nm w (.inr (.inl (inj e).symm))) ⟨_, _, by rw [fmD]⟩, ok, by omega⟩
    | ff => exact ⟨W, same (fun w d e => by rw [fmD] at e; exact nm w (.inr (.inr (.inl (inj e).symm)))) ⟨_, _, by rw [fmD]⟩, ok, by omega⟩
    | neg g => exact ⟨W, same (fun w d e => by rw [fmD] at e; exact nm w (.inr (.inr (.inr (inj e).symm)))) ⟨_, _, by rw [fmD]⟩, ok, by omega⟩
    | jn b fs =>
      rw [FmOk] at okg
      rw [fmD, fmDs_map] at ix
      have q : dIn3 (.str (jw b)) (.list [.str "and", .str "or"]) = some (.bool true) := by
        cases b
        · show dIn3 (.str "or") _ = _; rw [in_ao okw_or]; exact congrArg (fun b => some (PyData.bool b)) (by decide)
        · show dIn3 (.str "and") _ = _; rw [in_ao okw_and]; exact congrArg (fun b => some (PyData.bool b)) (by decide)
      have ad : dAdd (.list (W.map fmD)) (.list (fs.map fmD)) = some (.list ((W ++ fs).map fmD)) := by
        rw [dAdd_ll (by simp; omega), List.map_append]
      refine ⟨W ++ fs, ?_, fun g hg => ?_, by rw [List.length_append]; omega⟩
      · generalize (W ++ fs).map fmD = WF at *
        generalize fs.map fmD = FS at *
        generalize W.map fmD = WM at *
        rcases h1 with rfl | rfl <;> simp [LF.L_many_1, ll, hlt, ix, q, ad]
      · rcases List.mem_append.mp hg with hg | hg
        · exact ok g hg
        · exact FmsOk_mem.mp okg.2 g hg
  · have hlt' : decide ((t : Int) < (W.length : Int)) = false := decide_eq_false (by omega)
    refine ⟨W, ?_, ok, by omega⟩
    generalize W.map fmD = WM at *
    rcases h1 with rfl | rfl <;> simp [LF.L_many_1, ll, hlt]
theorem lf_many {f : Fm} (h : FmOk RwT f) : ∃ n : Int, LF.m_many [fmD f] = .ok (.int n) := by
  have r60 : ∀ ρ, rng1 [.int (60 : Int)] ρ = .ok (rangeL 0 60) ρ := fun ρ => rng1_nat (n := 60) (by decide)
  obtain ⟨ρ', lp, W, e1, e2, rfl, h1, ok2, hl2⟩ := loopS_inv (T := nameT 2) (S1 := LF.L_many_1) (fun t ρ => ∃ (W : List Fm) (e1 e2 : Ent), ρ = [.d (fmD f), e1, e2] ∧ (e1 = .own (W.map fmD) ∨ e1 = .d (.list (W.map fmD))) ∧ (∀ g ∈ W, FmOk RwT g) ∧ W.length ≤ 1 + 1000 * t) (rangeL 0 60) (by
    rintro t d ρ hd ⟨W, e1, e2, rfl, h1, ok, hl⟩
    obtain ⟨rfl, ht⟩ := rangeL_get hd
    obtain ⟨W', st, ok', hl'⟩ := many_step (a0 := .d (fmD f)) ok hl (by omega) h1
    exact ⟨[.d (fmD f), e1, .d (.int (t : Int))], _, by simp, st, W', _, _, rfl, .inr rfl, ok', hl'⟩) [.d (fmD f), .own ([f].map fmD), .un] ⟨[f], _, _, rfl, .inl rfl, fun g hg => by rw [List.mem_singleton.mp hg]; exact h, by simp⟩
  rw [List.map_cons, List.map_nil] at lp
  refine ⟨(W.length : Int), ?_⟩
  have ll : bLen (.list (W.map fmD)) = some (.int (W.length : Int)) := by simp [bLen]
  show LF.B_many _ = _
  generalize W.map fmD = WM at *
  generalize fmD f = F at *
  rcases h1 with rfl | rfl <;> simp [LF.B_many, LF.S_many, r60, lp, ll]
end DL
set_option exponentiation.threshold 5000
namespace G_k46
open PySem PySem.Spec PyProof.Rows L2 DL
abbrev nmD (S : List Str) : PyData := .list (S.map PyData.str)
structure Seen (f : Fm) (dn td : List Fm) (S : List Str) : Prop where
  ok : ∀ g ∈ dn ++ td, FmOk RwT g
  sz : dn.length + (td.map fsz).sum = fsz f
  all : ∀ r, r ∈ rowsF f ↔ Fm.row r ∈ dn ∨ ∃ g ∈ td, r ∈ rowsF g
  nd : S.Nodup
  mem : ∀ x, x ∈ S ↔ ∃ r, Fm.row r ∈ dn ∧ ∃ q ∈ r.1, q.1 = x
theorem sum_len (gs : List Fm) : gs.length ≤ (gs.map fsz).sum := by
  induction gs with
  | nil => exact Nat.zero_le _
  | cons g gs ih =>
    have := fsz_pos g
    rw [List.map_cons, List.sum_cons, List.length_cons]
    omega
theorem Seen.sub {f : Fm} {dn td : List Fm} {S : List Str} (H : Seen f dn td S) : ∀ x ∈ S, x ∈ L3 := fun x hx => by
  obtain ⟨r, hr, q, hq, rfl⟩ := (H.mem x).mp hx
  have := H.ok _ (List.mem_append_left _ hr)
  rw [FmOk] at this
  exact this.nm q hq
theorem Seen.len {f : Fm} {dn td : List Fm} {S : List Str} (H : Seen f dn td S) : S.length ≤ 3 := len_of_nd2 L3 S H.nd H.sub
theorem Seen.next {f g : Fm} {dn td : List Fm} {S S' : List Str} (H : Seen f dn (g :: td) S) (nd : S'.Nodup) (hm : ∀ x, x ∈ S' ↔ x ∈ S ∨ ∃ r, g = Fm.row r ∧ ∃ q ∈ r.1, q.1 = x) : Seen f (dn ++ [g]) (td ++ pts g) S' := by
  have fp := fsz_pts g
  have okg := H.ok g (by simp)
  refine ⟨fun h hh => ?_, ?_, fun r => ?_, nd, fun x => ?_⟩
  · rcases List.mem_append.mp hh with hh | hh
    · rcases List.mem_append.mp hh with hh | hh
      · exact H.ok h (List.mem_append_left _ hh)
      · rw [List.mem_singleton.mp hh]; exact okg
    · rcases List.mem_append.mp hh with hh | hh
      · exact H.ok h (List.mem_append_right _ (List.mem_cons_of_mem _ hh))
      · exact (ok_pts okg).1 h hh
  · have := H.sz
    rw [List.map_cons, List.sum_cons] at this
    rw [List.length_append, List.length_singleton, List.map_append, List.sum_append]
    omega
  · rw [H.all]
    constructor
    · rintro (h | ⟨h, hh, hr⟩)
      · exact .inl (List.mem_append_left _ h)
      · rcases List.mem_cons.mp hh with rfl | hh
        · rcases (rowsF_pts h).mp hr with e | ⟨k, hk, hr⟩
          · exact .inl (by rw [e]; simp)
          · exact .inr ⟨k, List.mem_append_right _ hk, hr⟩
        · exact .inr ⟨h, List.mem_append_left _ hh, hr⟩
    · rintro (h | ⟨h, hh, hr⟩)
      · rcases List.mem_append.mp h with h | h
        · exact .inl h
        · rw [List.mem_singleton] at h
          exact .inr ⟨g, List.mem_cons_self, (rowsF_pts g).mpr (.inl h.symm)⟩
      · rcases List.mem_append.mp hh with hh | hh
        · exact .inr ⟨h, List.mem_cons_of_mem _ hh, hr⟩
        · exact .inr ⟨g, List.mem_cons_self, (rowsF_pts g).mpr (.inr ⟨h, hh, hr⟩)⟩
  · rw [hm, H.mem]
    constructor
    · rintro (⟨r, h, q⟩ | ⟨r, rfl, q⟩)
      · exact ⟨r, List.mem_append_left _ h, q⟩
      · exact ⟨r, by simp, q⟩
    · rintro ⟨r, h, q⟩
      rcases List.mem_append.mp h with h | h
      · exact .inl ⟨r, h, q⟩
      · exact .inr ⟨r, (List.mem_singleton.mp h).symm, q⟩
theorem notin_names {S : List Str} {a : Str} (ha : PySem.PyData.strOk a = true) (h : ∀ x ∈ S, PySem.PyData.strOk x = true) : dNotIn3 (.str a) (nmD S) = some (.bool (!decide (a ∈ S))) := by
  have e : ((S.map PyData.str).any fun z => PyData.eqv z (.str a)) = decide (a ∈ S) := by
    rw [Bool.eq_iff_iff]
    simp only [List.any_eq_true, List.mem_map, decide_eq_true_eq]
    constructor
    · rintro ⟨_, ⟨x, hx, rfl⟩, e⟩
      have : x = a := by simpa [PyData.eqv] using e
      rw [← this]; exact hx
    · intro hx
      exact ⟨_, ⟨a, hx, rfl⟩, by simp [PyData.eqv]⟩
  show (if SeqAt.shaped (.str a) = true ∧ SeqAt.shaped (.list (S.map PyData.str)) = true then some (PyData.bool (!(S.map PyData.str).any fun z => PyData.eqv z (.str a))) else none) = _
  rw [if_pos ⟨str_shaped ha, strs_shaped h⟩, e]
section
variable {f : Fm} {b0 b1 b2 b3 b4 b5 b6 b7 b8 b9 b10 b11 b12 b13 : Ent}
theorem names_step {dn td : List Fm} {S : List Str} {t : Nat} (H : Seen f dn td S) (hs : fsz f ≤ 1000) (ht : td ≠ [] → t = dn.length) (hd : dn.length ≤ t) {e7 e11 e12 e13 : Ent} (h7 : e7 = .own (S.map PyData.str) ∨ e7 = .d (nmD S)) (n12 : ∀ xs, e12 ≠ .own xs) (n13 : ∀ xs, e13 ≠ .own xs) :
    ∃ (dn' td' : List Fm) (S' : List Str) (f7 f11 : Ent), L_law_2 [b0, b1, b2, b3, b4, b5, .own ((dn ++ td).map fmD), e7, .d (.int (t : Int)), b9, b10, e11, e12, e13] = .nx [b0, b1, b2, b3, b4, b5, .own ((dn' ++ td').map fmD), f7, .d (.int (t : Int)), b9, b10, f11, e12, e13] ∧
      Seen f dn' td' S' ∧ (td' ≠ [] → t + 1 = dn'.length) ∧ dn'.length ≤ t + 1 ∧ (f7 = .own (S'.map PyData.str) ∨ f7 = .d (nmD S')) := by
  cases td with
  | nil =>
    refine ⟨dn, [], S, e7, e11, ?_, H, fun h => absurd rfl h, by omega, h7⟩
    rw [List.append_nil]
    have hlt : ¬ t < (dn.map fmD).length := by rw [List.length_map]; omega
    generalize dn.map fmD = DM at *
    simp [L_law_2, hlt]
  | cons g td =>
    have et := ht (by simp)
    have okg := H.ok g (by simp)
    have len : ((dn ++ g :: td).map fmD).length = dn.length + (td.length + 1) := by simp
    have hlt : t < ((dn ++ g :: td).map fmD).length := by rw [len]; omega
    have ix : dIx (.list ((dn ++ g :: td).map fmD)) (.int (t : Int)) = some (fmD g) := dIx_l (by
      rw [List.getElem?_map, et, List.getElem?_append_right (Nat.le_refl _), Nat.sub_self]
      rfl)
    have tl := sum_len (g :: td)
    have sz := H.sz
    have l1000 : dn.length + (td.length + 1) ≤ 1000 := by rw [List.length_cons] at tl; omega
    have app : ∀ gs : List Fm, (dn ++ g :: td) ++ gs = (dn ++ [g]) ++ (td ++ gs) := fun gs => by simp
    have dl : (dn ++ [g]).length = t + 1 := by simp; omega
    have keep : (∀ r, g ≠ .row r) → ∀ x, x ∈ S ↔ x ∈ S ∨ ∃ r, g = Fm.row r ∧ ∃ q ∈ r.1, q.1 = x := fun h x => ⟨.inl, fun z => by
      rcases z with z | ⟨r, e, _⟩
      · exact z
      · exact absurd e (h r)⟩
    cases g with
    | row r =>
      rw [FmOk] at okg
      have ok1 : ∀ p ∈ r.1, PySem.PyData.strOk p.1 = true := fun p hp => bndA.ok _ (okg.nm p hp)
      have okS : ∀ x ∈ S, PySem.PyData.strOk x = true := fun x hx => bndA.ok _ (H.sub x hx)
      have l3 := RwT.len3 okg
      have S3 := H.len
      have cc : ∀ (a0 a1 a2 a3 a4 a5 a6 a8 a9 a10 a11 : Ent), compL (tupT 2 (consTs (nameT 12) (consTs (nameT 13) nilTs))) (testF (binF dNotIn3 (varF 12) (varF 7))) (varF 12) [a0, a1, a2, a3, a4, a5, a6, .d (nmD S), a8, a9, a10, a11, .un, .un] (r.1.map pD) [] = some (((r.1.filter fun p => !decide (p.1 ∈ S)).map (·.1)).map PyData.str) := by
        intro a0 a1 a2 a3 a4 a5 a6 a8 a9 a10 a11
        rw [compL_filter (fun p : Pt => !decide (p.1 ∈ S)) pD (fun p => .str p.1) r.1 [] (fun p hp => ?_) (by simp; omega)]
        · rw [List.nil_append, List.map_map]; rfl
        · have q := notin_names (ok1 p hp) okS
          unfold stepC
          by_cases e : p.1 ∈ S
          · simp [q, e]
          · simp [q, e]
      have ad : dAdd (nmD S) (.list (((r.1.filter fun p => !decide (p.1 ∈ S)).map (·.1)).map PyData.str)) = some (nmD (S ++ (r.1.filter fun p => !decide (p.1 ∈ S)).map (·.1))) := by
        have := List.length_filter_le (fun p : Pt => !decide (p.1 ∈ S)) r.1
        rw [dAdd_ll (by simp; omega)]
        show _ = some (PyData.list ((S ++ _).map PyData.str))
        rw [List.map_append]
      have nd' : (S ++ (r.1.filter fun p => !decide (p.1 ∈ S)).map (·.1)).Nodup := by
        rw [List.nodup_append]
        refine ⟨H.nd, List.Nodup.sublist (List.Sublist.map _ List.filter_sublist) okg.can.nd, fun a ha b hb e => ?_⟩
        obtain ⟨p, hp, rfl⟩ := List.mem_map.mp hb
        have := (List.mem_filter.mp hp).2
        rw [e] at ha
        simp [ha] at this
      have H' := H.next nd' fun x => by
        rw [List.mem_append]
        constructor
        · rintro (h | h)
          · exact .inl h
          · obtain ⟨p, hp, rfl⟩ := List.mem_map.mp h
            exact .inr ⟨r, rfl, p, (List.mem_filter.mp hp).1, rfl⟩
        · rintro (h | ⟨r', e, q, hq, rfl⟩)
          · exact .inl h
          · cases e
            by_cases z : q.1 ∈ S
            · exact .inl z
            · exact .inr (List.mem_map.mpr ⟨q, List.mem_filter.mpr ⟨hq, by simpa using z⟩, rfl⟩)
      refine ⟨dn ++ [.row r], td ++ pts (.row r), _, .d (nmD (S ++ (r.1.filter fun p => !decide (p.1 ∈ S)).map (·.1))), .d (fmD (.row r)), ?_, H', fun _ => dl.symm, by omega, .inr rfl⟩
      have e0 : (dn ++ [Fm.row r]) ++ (td ++ pts (.row r)) = dn ++ .row r :: td := by simp [pts]
      rw [e0]
      rw [fmD] at ix ⊢
      have rd : rD r = .tuple [.tuple (r.1.map pD), .str r.2.1, N r.2.2] := rfl
      rw [rd] at ix ⊢
      clear H' nd' H e0 rd tl sz app keep
      generalize (dn ++ Fm.row r :: td).map fmD = WM at *
      generalize ((r.1.filter fun p => !decide (p.1 ∈ S)).map (·.1)).map PyData.str = NS at *
      generalize hSS : nmD (S ++ (r.1.filter fun p => !decide (p.1 ∈ S)).map (·.1)) = SS at *
      generalize r.1.map pD = PP at *
      generalize N r.2.2 = BB at *
      have hk : ∀ xs : List PyData, ¬ (e12 = .own xs) := n12
      rcases h7 with rfl | rfl
      · simp [L_law_2, hlt, ix, kw_row_row, kw_row_not, kw_row_and, kw_row_or, cc, ad]
      · simp [L_law_2, hlt, ix, kw_row_row, kw_row_not, kw_row_and, kw_row_or, cc, ad]
    | tt =>
      refine ⟨dn ++ [.tt], td ++ pts .tt, S, e7, .d (fmD .tt), ?_, H.next H.nd (keep fun r h => by cases h), fun _ => dl.symm, by omega, h7⟩
      have e0 : (dn ++ [Fm.tt]) ++ (td ++ pts .tt) = dn ++ .tt :: td := by simp [pts]
      rw [e0]
      rw [fmD] at ix ⊢
      generalize (dn ++ Fm.tt :: td).map fmD = WM at *
      simp [L_law_2, hlt, ix, kw_true_row, kw_true_not, kw_true_and, kw_true_or]
    | ff =>
      refine ⟨dn ++ [.ff], td ++ pts .ff, S, e7, .d (fmD .ff), ?_, H.next H.nd (keep fun r h => by cases h), fun _ => dl.symm, by omega, h7⟩
      have e0 : (dn ++ [Fm.ff]) ++ (td ++ pts .ff) = dn ++ .ff :: td := by simp [pts]
      rw [e0]
      rw [fmD] at ix ⊢
      generalize (dn ++ Fm.ff :: td).map fmD = WM at *
      simp [L_law_2, hlt, ix, kw_false_row, kw_false_not, kw_false_and, kw_false_or]
    | neg g =>
      refine ⟨dn ++ [.neg g], td ++ pts (.neg g), S, e7, .d (fmD (.neg g)), ?_, H.next H.nd (keep fun r h => by cases h), fun _ => dl.symm, by omega, h7⟩
      have e0 : ((dn ++ [Fm.neg g]) ++ (td ++ pts (.neg g))).map fmD = (dn ++ .neg g :: td).map fmD ++ [fmD g] := by simp [pts]
      have hl2 : ((dn ++ Fm.neg g :: td).map fmD).length < 16777216 := by rw [len]; omega
      rw [e0]
      rw [fmD] at ix ⊢
      clear H keep e0 tl sz app
      generalize (dn ++ Fm.neg g :: td).map fmD = WM at *
      generalize fmD g = G at *
      simp [L_law_2, hlt, ix, kw_not_row, kw_not_not, kw_not_and, kw_not_or, hl2]
    | jn b fs =>
      rw [FmOk] at okg
      refine ⟨dn ++ [.jn b fs], td ++ pts (.jn b fs), S, e7, .d (fmD (.jn b fs)), ?_, H.next H.nd (keep fun r h => by cases h), fun _ => dl.symm, by omega, h7⟩
      have e0 : ((dn ++ [Fm.jn b fs]) ++ (td ++ pts (.jn b fs))).map fmD = (dn ++ .jn b fs :: td).map fmD ++ fs.map fmD := by simp [pts]
      have hl2 : ((dn ++ Fm.jn b fs :: td).map fmD).length + (fs.map fmD).length ≤ 16777216 := by rw [len, List.length_map]; omega
      rw [e0]
      rw [fmD, fmDs_map] at ix ⊢
      clear H keep e0 tl sz app
      generalize (dn ++ Fm.jn b fs :: td).map fmD = WM at *
      generalize fs.map fmD = FS at *
      cases b
      · have w : jw false = "or" := rfl
        rw [w] at ix ⊢
        simp [L_law_2, hlt, ix, kw_or_row, kw_or_not, kw_or_and, kw_or_or, hl2]
      · have w : jw true = "and" := rfl
        rw [w] at ix ⊢
        simp [L_law_2, hlt, ix, kw_and_row, kw_and_not, kw_and_and, hl2]
theorem names_loop {f : Fm} (h : FmOk RwT f) (hs : fsz f < 60) (e11 e12 e13 e8 : Ent) (n12 : ∀ xs, e12 ≠ .own xs) (n13 : ∀ xs, e13 ≠ .own xs) :
    ∃ (W : List PyData) (S : List Str) (f7 f8 f11 : Ent), loopS (nameT 8) L_law_2 (rangeL 0 60) [b0, b1, b2, b3, b4, b5, .own [fmD f], .own [], e8, b9, b10, e11, e12, e13] = .nx [b0, b1, b2, b3, b4, b5, .own W, f7, f8, b9, b10, f11, e12, e13] ∧
      S.Nodup ∧ (∀ x, x ∈ S ↔ ∃ r ∈ rowsF f, ∃ q ∈ r.1, q.1 = x) ∧ S.length ≤ 3 ∧ (∀ x ∈ S, x ∈ L3) ∧ (f7 = .own (S.map PyData.str) ∨ f7 = .d (nmD S)) := by
  obtain ⟨ρ', lp, dn, td, S, e7, f8, f11, rfl, H, ht, hd, h7⟩ := loopS_inv (T := nameT 8) (S1 := L_law_2) (fun t ρ => ∃ (dn td : List Fm) (S : List Str) (e7 e8 e11 : Ent), ρ = [b0, b1, b2, b3, b4, b5, .own ((dn ++ td).map fmD), e7, e8, b9, b10, e11, e12, e13] ∧ Seen f dn td S ∧ (td ≠ [] → t = dn.length) ∧ dn.length ≤ t ∧ (e7 = .own (S.map PyData.str) ∨ e7 = .d (nmD S))) (rangeL 0 60) (by
    rintro t d ρ hd ⟨dn, td, S, e7, e8, e11, rfl, H, ht, hl, h7⟩
    obtain ⟨rfl, _⟩ := rangeL_get hd
    obtain ⟨dn', td', S', f7, f11, st, H', ht', hl', h7'⟩ := names_step (b0 := b0) (b1 := b1) (b2 := b2) (b3 := b3) (b4 := b4) (b5 := b5) (b9 := b9) (b10 := b10) H (by omega) ht hl h7 n12 n13 (e11 := e11)
    exact ⟨[b0, b1, b2, b3, b4, b5, .own ((dn ++ td).map fmD), e7, .d (.int (t : Int)), b9, b10, e11, e12, e13], _, by simp, st, dn', td', S', _, _, _, rfl, H', ht', hl', h7'⟩) [b0, b1, b2, b3, b4, b5, .own (([] ++ [f]).map fmD), .own [], e8, b9, b10, e11, e12, e13]
    ⟨[], [f], [], _, _, _, rfl, ⟨fun g hg => by rw [List.nil_append, List.mem_singleton] at hg; rw [hg]; exact h, by simp, fun r => by simp, .nil, fun x => by simp⟩, fun _ => rfl, Nat.le_refl _, .inl rfl⟩
  have e : td = [] := by
    cases td with
    | nil => rfl
    | cons g td =>
      have := ht (by simp)
      have l60 : (rangeL 0 60).length = 60 := by decide
      have := H.sz
      have := sum_len (g :: td)
      omega
  subst e
  refine ⟨_, S, e7, f8, f11, lp, H.nd, fun x => ?_, H.len, H.sub, h7⟩
  rw [H.mem]
  constructor
  · rintro ⟨r, hr, q⟩
    exact ⟨r, (H.all r).mpr (.inl hr), q⟩
  · rintro ⟨r, hr, q⟩
    rcases (H.all r).mp hr with h | ⟨g, hg, _⟩
    · exact ⟨r, h, q⟩
    · cases hg
theorem point_step {f : Fm} (h : FmOk RwT f) (hd : fdep f ≤ 3) (ns : List Int) (w j : Nat) (hw : w ≤ 6) (hj : j < 3) (e9 e10 : Ent) :
    ∃ f9 f10, L_law_1 [.d (.list (ns.map PyData.int)), .d (.int (w : Int)), .d (fmD f), .d (fmD (plF f false)), .d (.int (j : Int)), b5, b6, b7, b8, e9, e10, b11, b12, b13] = .nx [.d (.list (ns.map PyData.int)), .d (.int (w : Int)), .d (fmD f), .d (fmD (plF f false)), .d (.int (j : Int)), b5, b6, b7, b8, .d f9, .d f10, b11, b12, b13] := by
  obtain ⟨pt, ep, P⟩ := lf_point ns (4 * w + 1 + j) (by omega)
  have c0 : ((4 * w + 1 + j : Nat) : Int) = 4 * (w : Int) + 1 + (j : Int) := by omega
  rw [c0] at ep
  have ep' : m__law_point [.list (ns.map PyData.int), .int (4 * (w : Int) + 1 + (j : Int))] = .ok (psD pt) := ep
  have lpt := P.len
  have e1 : m_is_true [fmD f, psD pt] = .ok (.bool (ev (ptF pt) f)) := it_ok P.sz (by decide) f 24 h (by omega)
  have e2 : m__law_true [fmD f, psD pt] = .ok (.bool (ev (ptF pt) f)) := lt_ok P.sz (by decide) (by omega) f 24 h (by omega)
  have h2 := plF_ok f false h
  have d2 := plF_dep f false
  have e3 : m_is_true [fmD (plF f false), psD pt] = .ok (.bool (ev (ptF pt) f)) := by
    have := it_ok P.sz (by decide) (plF f false) 24 h2 (by omega)
    rw [plF_ev _ f false h] at this
    have q : (ev (ptF pt) f != false) = ev (ptF pt) f := by simp
    rw [q] at this
    exact this
  have h4 := plF_ok f true h
  have d4 := plF_dep f true
  have e4 : m__law_plain [fmD f, .bool true] = .ok (fmD (plF f true)) := lf_plain f 24 true h (by omega)
  obtain ⟨n, e5⟩ := lf_many h4
  have e5' : m__law_many [fmD (plF f true)] = .ok (.int n) := e5
  have e6 : m_plain [.tuple [.str "not", fmD f]] = .ok (fmD (plF f true)) := by
    have := (pl_ok (.neg f) 24 (by rw [FmOk]; exact h) (by rw [fdep]; omega)).1
    rw [fmD, plF] at this
    exact this
  have e7 : m_is_true [fmD (plF f true), psD pt] = .ok (.bool (!ev (ptF pt) f)) := by
    have := it_ok P.sz (by decide) (plF f true) 24 h4 (by omega)
    rw [plF_ev _ f true h] at this
    have q : (ev (ptF pt) f != true) = !ev (ptF pt) f := by simp
    rw [q] at this
    exact this
  have s4 : Sm 4 := Bt.sm (n := 31) (by unfold Bt; decide) (by decide)
  have sw : Sm (w : Int) := Bt.sm (n := 31) (by unfold Bt; omega) (by decide)
  refine ⟨psD pt, .bool (ev (ptF pt) f), ?_⟩
  generalize ev (ptF pt) f = B at *
  have n1 : dNe (.bool B) (.bool B) = some (.bool false) := dNe_self rfl
  have n2 : dEq (.bool (!B)) (.bool B) = some (.bool false) := by cases B <;> rfl
  clear ep h h2 h4 d2 d4 e5 P hd
  generalize psD pt = PT at *
  generalize fmD (plF f false) = F1 at *
  generalize fmD (plF f true) = F2 at *
  generalize fmD f = F at *
  generalize ns.map PyData.int = NS at *
  by_cases z : n < 41
  · simp [L_law_1, ep', dMul_ok, s4, sw, e1, e2, e3, e4, e5', e6, e7, n1, n2, z, isaD]
  · simp [L_law_1, ep', dMul_ok, s4, sw, e1, e2, e3, e4, e5', e6, e7, n1, n2, z, isaD]
theorem rng_46 (n : Nat) (hn : n ≤ 63) (xs : List PyData) (hx : xs.length = n) (ρ : Rho) : ∃ m : Nat, m ≤ 6 ∧ (range1F (consA (appF (app2 bMin) (consA (cF (.int 6)) (consA (binF dAdd (cF (.int 1)) (binF dDiv (appF (app1 bLen) (consA (varF 0) nilA)) (cF (.int 4)))) nilA))) nilA)) (.d (.list xs) :: ρ) = .ok (rangeL 0 m) (.d (.list xs) :: ρ) := by
  have sd : Sd 4 := Bt.sd (n := 31) (by unfold Bt; omega) (by omega) (by decide) (by decide)
  have f : ((xs.length : Nat) : Int).fdiv 4 = (xs.length : Int) / 4 := Int.fdiv_eq_ediv_of_nonneg _ (by omega)
  have f0 : 0 ≤ (xs.length : Int) / 4 := Int.ediv_nonneg (by omega) (by omega)
  have f1 : (xs.length : Int) / 4 ≤ 63 := Int.le_trans (Int.ediv_le_self _ (by omega)) (by omega)
  generalize (xs.length : Int) / 4 = z at f f0 f1
  refine ⟨(if 1 + z < 6 then 1 + z else 6).toNat, by split <;> omega, ?_⟩
  simp [dDiv_ok, sd, f]
  exact rng1_ok (by split <;> omega) (by split <;> omega)
end
theorem law_true (ns : List Int) (hn : ns.length ≤ 63) : B_law (.list (ns.map PyData.int)) = .ok (.bool true) := by
  obtain ⟨m, hm, e1⟩ := rng_46 ns.length hn (ns.map PyData.int) (by simp) [.un, .un, .un, .un, .un, .un, .un, .un, .un, .un, .un, .un, .un]
  unfold B_law S_law
  rw [seqS_apc, forS_apc, e1]
  refine loop_then (fun k ρ => ∃ x1 x2 x3 x4 x5 x6 x7 x8 x9 x10 x11, ρ = [.d (iL ns), x1, x2, x3, x4, x5, x6, x7, x8, x9, x10, x11, .un, .un]) _ ?_ ⟨_, _, _, _, _, _, _, _, _, _, _, rfl⟩ ?_
  rotate_left 1
  · rintro ρ ⟨x1, x2, x3, x4, x5, x6, x7, x8, x9, x10, x11, rfl⟩
    simp
  rintro w d ρ hd ⟨x1, x2, x3, x4, x5, x6, x7, x8, x9, x10, x11, rfl⟩
  obtain ⟨rfl, hk⟩ := rangeL_get hd
  obtain ⟨f, ef, F⟩ := lf_some ns (4 * w) (by omega) 3 (by decide)
  have h : FmOk RwT f := FmOk.imp (fun r h => h.1) f F.ok
  have hdp := F.dep
  have hsz : fsz f ≤ 22 := F.sz
  have c0 : ((4 * w : Nat) : Int) = 4 * (w : Int) := by omega
  rw [c0] at ef
  have ef' : m__law_some [.list (ns.map PyData.int), .int (4 * (w : Int)), .int 3] = .ok (fmD f) := ef
  have p1 : m__law_plain [fmD f, .bool false] = .ok (fmD (plF f false)) := lf_plain f 24 false h (by omega)
  have p2 : m__law_plain [fmD f, .bool true] = .ok (fmD (plF f true)) := lf_plain f 24 true h (by omega)
  have q1 : m_plain [fmD f] = .ok (fmD (plF f false)) := (pl_ok f 24 h (by omega)).1
  have d2 := plF_dep f false
  have d3 := plF_dep f true
  have h2 := plF_ok f false h
  have h3 := plF_ok f true h
  have q2 : m_plain [fmD (plF f false)] = .ok (fmD (plF f false)) := by
    have := (pl_ok (plF f false) 24 h2 (by omega)).1
    rw [plF_plain] at this
    exact this
  have q3 : m_plain [.tuple [.str "not", fmD f]] = .ok (fmD (plF f true)) := by
    have := (pl_ok (.neg f) 24 (by rw [FmOk]; exact h) (by rw [fdep]; omega)).1
    rw [fmD, plF] at this
    exact this
  have n1 := dNe_self (fm_shaped h2 (by omega))
  have n2 := dNe_self (fm_shaped h3 (by omega))
  obtain ⟨rows, u1, u2⟩ := pg_unknowns_of h (by omega)
  have u1' : m_unknowns_of [fmD f] = .ok (nmD (sortS (nmR rows []))) := u1
  have s4 : Sm 4 := Bt.sm (n := 31) (by unfold Bt; decide) (by decide)
  have sw : Sm (w : Int) := Bt.sm (n := 31) (by unfold Bt; omega) (by decide)
  have r3 : ∀ ρ, rng1 [.int (3 : Int)] ρ = .ok [.int 0, .int 1, .int 2] ρ := fun ρ => rng1_nat (n := 3) (by decide)
  have r60 : ∀ ρ, rng1 [.int (60 : Int)] ρ = .ok (rangeL 0 60) ρ := fun ρ => rng1_nat (n := 60) (by decide)
  obtain ⟨y9, y10, st0⟩ := point_step h hdp ns w 0 (by omega) (by decide) x9 x10 (b5 := x5) (b6 := x6) (b7 := x7) (b8 := x8) (b11 := x11) (b12 := .un) (b13 := .un)
  obtain ⟨z9, z10, st1⟩ := point_step h hdp ns w 1 (by omega) (by decide) (.d y9) (.d y10) (b5 := x5) (b6 := x6) (b7 := x7) (b8 := x8) (b11 := x11) (b12 := .un) (b13 := .un)
  obtain ⟨v9, v10, st2⟩ := point_step h hdp ns w 2 (by omega) (by decide) (.d z9) (.d z10) (b5 := x5) (b6 := x6) (b7 := x7) (b8 := x8) (b11 := x11) (b12 := .un) (b13 := .un)
  have lp : loopS (nameT 4) L_law_1 [.int 0, .int 1, .int 2] [.d (.list (ns.map PyData.int)), .d (.int (w : Int)), .d (fmD f), .d (fmD (plF f false)), x4, x5, x6, x7, x8, x9, x10, x11, .un, .un] = .nx [.d (.list (ns.map PyData.int)), .d (.int (w : Int)), .d (fmD f), .d (fmD (plF f false)), .d (.int 2), x5, x6, x7, x8, .d v9, .d v10, x11, .un, .un] := by
    rw [loopS_cons_nx (ρ1 := [.d (.list (ns.map PyData.int)), .d (.int (w : Int)), .d (fmD f), .d (fmD (plF f false)), .d (.int 0), x5, x6, x7, x8, x9, x10, x11, .un, .un]) (by simp) st0]
    rw [loopS_cons_nx (ρ1 := [.d (.list (ns.map PyData.int)), .d (.int (w : Int)), .d (fmD f), .d (fmD (plF f false)), .d (.int 1), x5, x6, x7, x8, .d y9, .d y10, x11, .un, .un]) (by simp) st1]
    rw [loopS_cons_nx (ρ1 := [.d (.list (ns.map PyData.int)), .d (.int (w : Int)), .d (fmD f), .d (fmD (plF f false)), .d (.int 2), x5, x6, x7, x8, .d z9, .d z10, x11, .un, .un]) (by simp) st2]
    rfl
  obtain ⟨W, S, f7, f8, f11, lp2, nd, mem, S3, sub, h7⟩ := names_loop (b0 := .d (.list (ns.map PyData.int))) (b1 := .d (.int (w : Int))) (b2 := .d (fmD f)) (b3 := .d (fmD (plF f false))) (b4 := .d (.int 2)) (b5 := .d (nmD (sortS (nmR rows [])))) (b9 := .d v9) (b10 := .d v10) h (by omega) x11 .un .un x8 (fun _ z => by cases z) (fun _ z => by cases z)
  have okS : ∀ x ∈ S, PySem.PyData.strOk x = true := fun x hx => bndA.ok _ (sub x hx)
  have na : NA (nmR rows []) := na_nmR rows ⟨.nil, fun x hx => by cases hx⟩ fun r hr p hp => L3_nam ((rows_ok _ f (Nat.le_refl _) h r ((u2 r).mp hr)).nm p hp)
  have pm : (nmR rows []).Perm S := (List.perm_ext_iff_of_nodup na.1 nd).mpr fun x => by
    rw [nmR_mem, mem]
    constructor
    · rintro (⟨r, hr, q⟩ | z)
      · exact ⟨r, (u2 r).mp hr, q⟩
      · cases z
    · rintro ⟨r, hr, q⟩
      exact .inl ⟨r, (u2 r).mpr hr, q⟩
  have es : sortS (nmR rows []) = sortS S := sortS_perm_eq pm
  have bs : bSorted (nmD S) = some (nmD (sortS S)) := bSorted_strs (by omega)
  have n3 : dNe (nmD (sortS S)) (nmD (sortS S)) = some (.bool false) := dNe_self (strs_shaped fun x hx => okS x ((sortS_perm S).mem_iff.mp hx))
  rw [es] at u1' lp2
  refine ⟨[.d (iL ns), .d (.int (w : Int)), x2, x3, x4, x5, x6, x7, x8, x9, x10, x11, .un, .un], [.d (.list (ns.map PyData.int)), .d (.int (w : Int)), .d (fmD f), .d (fmD (plF f false)), .d (.int 2), .d (nmD (sortS S)), .own W, .d (nmD S), f8, .d v9, .d v10, f11, .un, .un], by simp, ?_, _, _, _, _, _, _, _, _, _, _, _, rfl⟩
  clear st0 st1 st2 ef h h2 h3 F u1 u2 na pm es mem sub okS nd
  show L_law_3 [.d (.list (ns.map PyData.int)), .d (.int (w : Int)), x2, x3, x4, x5, x6, x7, x8, x9, x10, x11, .un, .un] = _
  have b7 : S.map PyData.str = S.map PyData.str := rfl
  generalize hS : nmD S = NS2 at *
  generalize nmD (sortS S) = NS3 at *
  generalize fmD (plF f false) = F1 at *
  generalize fmD (plF f true) = F2 at *
  generalize fmD f = FF at *
  generalize ns.map PyData.int = NS at *
  rcases h7 with rfl | rfl
  · have fz : nmD S = NS2 := hS
    subst fz
    simp [L_law_3, ef', dMul_ok, s4, sw, p1, p2, q1, q2, q3, n1, n2, r3, r60, lp, lp2, u1', bs, n3]
  · simp [L_law_3, ef', dMul_ok, s4, sw, p1, p2, q1, q2, q3, n1, n2, r3, r60, lp, lp2, u1', bs, n3]
end G_k46

open PySem PySem.W PyProof.Rows
set_option maxRecDepth 100000 in
set_option maxHeartbeats 0 in
theorem PySem.Challenge.cw_linpapers_k46_truth_of_formulas_holds : PySem.Challenge.rw_linpapers_k46_truth_of_formulas.Holds := by
  w_on; o_law; k_head; (case hw => w_witness2)
  k_fill
  refine L2.walk_of (l := PySem.Challenge.rw_linpapers_k46_truth_of_formulas) (n := 63) (k := 33) (x := "script") (CX := fun w => L2.CX PySem.Challenge.rw_linpapers_k46_truth_of_formulas.prog w) (sp := fun w => G_k46.spLaw _) rfl (by decide) rfl ⟨rfl, by decide, by decide⟩ (fun w h Y => PySem.W.kIn_of Y) ?F (fun _ _ a ns hl _ hS => ⟨a, ns, rfl, hS, hl, fun _ => rfl⟩) (fun _ _ _ _ _ h => by obtain ⟨_, _, _, _, _, _, _, _, _, _, _, _, z⟩ := h; exact z)
  case F =>
    intro w mg fa h KX G hmg
    refine' G_k46.all_mk KX G hmg G_k46.law_true ?a_number ?l_number ?c_number ?k_number ?a_plus ?l_plus ?c_plus ?k_plus ?a_minus ?l_minus ?c_minus ?k_minus ?a_times ?l_times ?c_times ?k_times ?a_compare ?l_compare ?c_compare ?k_compare ?a_whole_factor ?l_whole_factor ?c_whole_factor ?k_whole_factor ?a_added_up ?l_added_up ?c_added_up ?k_added_up ?a_multiplied ?l_multiplied ?c_multiplied ?k_multiplied ?a_normal_factor ?l_normal_factor ?c_normal_factor ?k_normal_factor ?a_normal ?l_normal ?c_normal ?k_normal ?a_row ?l_row ?c_row ?k_row ?a_unknowns ?l_unknowns ?c_unknowns ?k_unknowns ?a_value ?l_value ?c_value ?k_value ?a_holds ?l_holds ?c_holds ?k_holds ?a_opposites ?l_opposites ?c_opposites ?k_opposites ?a_is_true ?l_is_true ?c_is_true ?k_is_true ?a__joined ?l__joined ?c__joined ?k__joined ?a_plain ?l_plain ?c_plain ?k_plain ?a__plain_not ?l__plain_not ?c__plain_not ?k__plain_not ?a__parts ?l__parts ?c__parts ?k__parts ?a__all_in ?l__all_in ?c__all_in ?k__all_in ?a_unknowns_of ?l_unknowns_of ?c_unknowns_of ?k_unknowns_of ?a__law_cell ?l__law_cell ?c__law_cell ?k__law_cell ?a__law_draw ?l__law_draw ?c__law_draw ?k__law_draw ?a__law_row ?l__law_row ?c__law_row ?k__law_row ?a__law_formula ?l__law_formula ?c__law_formula ?k__law_formula ?a__law_some ?l__law_some ?c__law_some ?k__law_some ?a__law_number ?l__law_number ?c__law_number ?k__law_number ?a__law_holds ?l__law_holds ?c__law_holds ?k__law_holds ?a__law_true ?l__law_true ?c__law_true ?k__law_true ?a__law_point ?l__law_point ?c__law_point ?k__law_point ?a__law_opposite ?l__law_opposite ?c__law_opposite ?k__law_opposite ?a__law_plain ?l__law_plain ?c__law_plain ?k__law_plain ?a__law_many ?l__law_many ?c__law_many ?k__law_many ?a_law ?l_law ?c_law ?k_law ?z_abs ?z_all ?z_any ?z_bool ?z_dict ?z_int ?z_isinstance ?z_len ?z_list ?z_min ?z_range ?z_sorted ?z_tuple ?z_gcd ?z_lcm ?a_NumberError ?e_NumberError ?k_NumberError ?b_NumberError ?t_NumberError ?i_NumberError ?s_NumberError ?a_TURNED_formulas ?l_TURNED_formulas ?q_TURNED_formulas ?r_TURNED_formulas ?g0_TURNED_formulas ?g1_TURNED_formulas ?g2_TURNED_formulas ?g3_TURNED_formulas ?m0_TURNED_formulas ?m1_TURNED_formulas ?m2_TURNED_formulas ?m3_TURNED_formulas ?m4_TURNED_formulas ?a_TURNED_rows ?l_TURNED_rows ?q_TURNED_rows ?r_TURNED_rows ?g0_TURNED_rows ?g1_TURNED_rows ?m0_TURNED_rows ?m1_TURNED_rows ?m2_TURNED_rows ?a_MINUS_ONE ?l_MINUS_ONE ?a_ONE ?l_ONE ?a_ZERO ?l_ZERO ?a__JOINING ?l__JOINING
    (case a_number => k_is)
    (case l_number => k_is)
    (case c_number => k_is)
    (case k_number => k_is)
    (case a_plus => k_is)
    (case l_plus => k_is)
    (case c_plus => k_is)
    (case k_plus => k_is)
    (case a_minus => k_is)
    (case l_minus => k_is)
    (case c_minus => k_is)
    (case k_minus => k_is)
    (case a_times => k_is)
    (case l_times => k_is)
    (case c_times => k_is)
    (case k_times => k_is)
    (case a_compare => k_is)
    (case l_compare => k_is)
    (case c_compare => k_is)
    (case k_compare => k_is)
    (case a_whole_factor => k_is)
    (case l_whole_factor => k_is)
    (case c_whole_factor => k_is)
    (case k_whole_factor => k_is)
    (case a_added_up => k_is)
    (case l_added_up => k_is)
    (case c_added_up => k_is)
    (case k_added_up => k_is)
    (case a_multiplied => k_is)
    (case l_multiplied => k_is)
    (case c_multiplied => k_is)
    (case k_multiplied => k_is)
    (case a_normal_factor => k_is)
    (case l_normal_factor => k_is)
    (case c_normal_factor => k_is)
    (case k_normal_factor => k_is)
    (case a_normal => k_is)
    (case l_normal => k_is)
    (case c_normal => k_is)
    (case k_normal => k_is)
    (case a_row => k_is)
    (case l_row => k_is)
    (case c_row => k_is)
    (case k_row => k_is)
    (case a_unknowns => k_is)
    (case l_unknowns => k_is)
    (case c_unknowns => k_is)
    (case k_unknowns => k_is)
    (case a_value => k_is)
    (case l_value => k_is)
    (case c_value => k_is)
    (case k_value => k_is)
    (case a_holds => k_is)
    (case l_holds => k_is)
    (case c_holds => k_is)
    (case k_holds => k_is)
    (case a_opposites => k_is)
    (case l_opposites => k_is)
    (case c_opposites => k_is)
    (case k_opposites => k_is)
    (case a_is_true => k_is)
    (case l_is_true => k_is)
    (case c_is_true => k_is)
    (case k_is_true => k_is)
    (case a__joined => k_is)
    (case l__joined => k_is)
    (case c__joined => k_is)
    (case k__joined => k_is)
    (case a_plain => k_is)
    (case l_plain => k_is)
    (case c_plain => k_is)
    (case k_plain => k_is)
    (case a__plain_not => k_is)
    (case l__plain_not => k_is)
    (case c__plain_not => k_is)
    (case k__plain_not => k_is)
    (case a__parts => k_is)
    (case l__parts => k_is)
    (case c__parts => k_is)
    (case k__parts => k_is)
    (case a__all_in => k_is)
    (case l__all_in => k_is)
    (case c__all_in => k_is)
    (case k__all_in => k_is)
    (case a_unknowns_of => k_is)
    (case l_unknowns_of => k_is)
    (case c_unknowns_of => k_is)
    (case k_unknowns_of => k_is)
    (case a__law_cell => k_is)
    (case l__law_cell => k_is)
    (case c__law_cell => k_is)
    (case k__law_cell => k_is)
    (case a__law_draw => k_is)
    (case l__law_draw => k_is)
    (case c__law_draw => k_is)
    (case k__law_draw => k_is)
    (case a__law_row => k_is)
    (case l__law_row => k_is)
    (case c__law_row => k_is)
    (case k__law_row => k_is)
    (case a__law_formula => k_is)
    (case l__law_formula => k_is)
    (case c__law_formula => k_is)
    (case k__law_formula => k_is)
    (case a__law_some => k_is)
    (case l__law_some => k_is)
    (case c__law_some => k_is)
    (case k__law_some => k_is)
    (case a__law_number => k_is)
    (case l__law_number => k_is)
    (case c__law_number => k_is)
    (case k__law_number => k_is)
    (case a__law_holds => k_is)
    (case l__law_holds => k_is)
    (case c__law_holds => k_is)
    (case k__law_holds => k_is)
    (case a__law_true => k_is)
    (case l__law_true => k_is)
    (case c__law_true => k_is)
    (case k__law_true => k_is)
    (case a__law_point => k_is)
    (case l__law_point => k_is)
    (case c__law_point => k_is)
    (case k__law_point => k_is)
    (case a__law_opposite => k_is)
    (case l__law_opposite => k_is)
    (case c__law_opposite => k_is)
    (case k__law_opposite => k_is)
    (case a__law_plain => k_is)
    (case l__law_plain => k_is)
    (case c__law_plain => k_is)
    (case k__law_plain => k_is)
    (case a__law_many => k_is)
    (case l__law_many => k_is)
    (case c__law_many => k_is)
    (case k__law_many => k_is)
    (case a_law => k_is)
    (case l_law => k_is)
    (case c_law => k_is)
    (case k_law => k_is)
    (case z_abs => k_is)
    (case z_all => k_is)
    (case z_any => k_is)
    (case z_bool => k_is)
    (case z_dict => k_is)
    (case z_int => k_is)
    (case z_isinstance => k_is)
    (case z_len => k_is)
    (case z_list => k_is)
    (case z_min => k_is)
    (case z_range => k_is)
    (case z_sorted => k_is)
    (case z_tuple => k_is)
    (case z_gcd => k_is)
    (case z_lcm => k_is)
    (case a_NumberError => k_is)
    (case e_NumberError => first | k_is | k_exc)
    (case k_NumberError => k_is)
    (case b_NumberError => k_is)
    (case t_NumberError => k_is)
    (case i_NumberError => k_is)
    (case s_NumberError => first | rfl | k_is)
    (case a_TURNED_formulas => k_is)
    (case l_TURNED_formulas => k_is)
    (case q_TURNED_formulas => repeat first | exact trivial | refine ⟨⟨_, _, rfl, rfl⟩, ?_⟩)
    (case r_TURNED_formulas => first | rfl | k_is)
    (case g0_TURNED_formulas => k_is)
    (case g1_TURNED_formulas => k_is)
    (case g2_TURNED_formulas => k_is)
    (case g3_TURNED_formulas => k_is)
    (case m0_TURNED_formulas => k_is)
    (case m1_TURNED_formulas => k_is)
    (case m2_TURNED_formulas => k_is)
    (case m3_TURNED_formulas => k_is)
    (case m4_TURNED_formulas => k_is)
    (case a_TURNED_rows => k_is)
    (case l_TURNED_rows => k_is)
    (case q_TURNED_rows => repeat first | exact trivial | refine ⟨⟨_, _, rfl, rfl⟩, ?_⟩)
    (case r_TURNED_rows => first | rfl | k_is)
    (case g0_TURNED_rows => k_is)
    (case g1_TURNED_rows => k_is)
    (case m0_TURNED_rows => k_is)
    (case m1_TURNED_rows => k_is)
    (case m2_TURNED_rows => k_is)
    (case a_MINUS_ONE => k_is)
    (case l_MINUS_ONE => k_is)
    (case a_ONE => k_is)
    (case l_ONE => k_is)
    (case a_ZERO => k_is)
    (case l_ZERO => k_is)
    (case a__JOINING => k_is)
    (case l__JOINING => k_is)

