import PyProof.Rows.All
import Wide.All
import OpenK.AllK
import Wide.FinOn
import HandS.ForMost
import HandS.ForExc
import HandS.Wide
import HandS.Gcd
import HandS.Deep
import HandS.Rev
import KE.KeyNested
import HandS.Text
import HandS.Style
import HandS.TupAny
import HandS.Iter
import HandS.More
import HandS.IsInst
import KE.KDictPairs
import HandS.Flow
import HandS.FStr
import HandS.StrMore
import HandS.SetTxt0
import HandS.SetBool
import KE.KDictCopyH
import HandS.Zip
import HandS.ExcInit
import HandS.ExcField
import KE.IntTextLaws
import PyProof.Rows.StrFromFirst
import HandS.RevRange
import KE.SortCalls
import PyProof.TupleOfSeq
import PySem.Challenge.RW_linpapers_k09_faults_of_comparisons
set_option Elab.async false
set_option linter.all false
set_option maxRecDepth 100000
set_option maxHeartbeats 4000000
namespace L2
open PySem PySem.Spec PyProof.Rows
def SqN (K : PySem.W.Frag) (H : Hp) (a : Addr) (xs : List V) : Prop :=
  (∃ o : Obj, o.dict = none ∧ H a = some (.frz o (.tup xs))) ∨
    ∃ (o : Obj) (its : Array Value) (n : Nat), o.dict = none ∧ K.lookup a = some o ∧ o.cls = .type "tuple" ∧ o.data = .seq its n ∧ its.size ≤ sizeLine ∧ Vals xs its.toList
theorem SqN.t {K : PySem.W.Frag} {H : Hp} {a : Addr} {xs : List V} (h : SqN K H a xs) : SqT K H a xs := by
  rcases h with ⟨o, _, h⟩ | ⟨o, its, n, _, h⟩
  · exact .inl (.inr ⟨o, h⟩)
  · exact .inr ⟨o, its, n, h⟩
theorem SqN.of {K : PySem.W.Frag} {H : Hp} {a : Addr} {xs : List V} {o : Obj} (hd : o.dict = none) (h : H a = some (.frz o (.tup xs))) : SqN K H a xs := .inl ⟨o, hd, h⟩
theorem SqN.same {K : PySem.W.Frag} {H H' : Hp} {a : Addr} {xs : List V} (e : Same H H') (h : SqN K H a xs) : SqN K H' a xs := by
  rcases h with ⟨o, hd, h⟩ | h
  · exact .inl ⟨o, hd, e _ _ h⟩
  · exact .inr h
mutual
inductive Dq (K : PySem.W.Frag) (H : Hp) : V → PyData → Prop
  | non : Dq K H .non .none
  | bl (b : Bool) : Dq K H (.bl b) (.bool b)
  | int (i : Int) : Dq K H (.int i) (.int i)
  | str (x : Str) : Dq K H (.str x) (.str x)
  | lst {a : Addr} {xs : List V} {ds : List PyData} : SqL K H a xs → DqAll K H xs ds → Dq K H (.ref a) (.list ds)
  | tup {a : Addr} {xs : List V} {ds : List PyData} : SqN K H a xs → DqAll K H xs ds → Dq K H (.ref a) (.tuple ds)
inductive DqAll (K : PySem.W.Frag) (H : Hp) : List V → List PyData → Prop
  | nil : DqAll K H [] []
  | cons {v : V} {vs : List V} {d : PyData} {ds : List PyData} : Dq K H v d → DqAll K H vs ds → DqAll K H (v :: vs) (d :: ds)
end
mutual
theorem Dq.p {K : PySem.W.Frag} {H : Hp} : ∀ {d : PyData} {v : V}, Dq K H v d → Dp K H v d
  | .none, _, h => by cases h; exact .non
  | .bool b, _, h => by cases h; exact .bl b
  | .int i, _, h => by cases h; exact .int i
  | .str x, _, h => by cases h; exact .str x
  | .list ds, _, h => by
    cases h with
    | lst hs ha => exact .lst hs ha.p
  | .tuple ds, _, h => by
    cases h with
    | tup hs ha => exact .tup hs.t ha.p
  | .dict _, _, h => by cases h
theorem DqAll.p {K : PySem.W.Frag} {H : Hp} : ∀ {ds : List PyData} {vs : List V}, DqAll K H vs ds → DpAll K H vs ds
  | [], _, h => by cases h; exact .nil
  | d :: ds, _, h => by
    cases h with
    | cons h1 h2 => exact .cons h1.p h2.p
end
end L2
namespace DL
open PySem PySem.Spec PyProof.Rows L2
inductive Ent where
  | un
  | d (x : PyData)
  | own (xs : List PyData)
    | dct (kvs : List (Key × PyData))
  | rdd (kvs : List (Key × PyData))
    | ndc (kvs : List (NestedKey × Int))
    | exv
abbrev Rho := List Ent
structure Exn where
  nm : Str
  fs : List (Str × PyData)
inductive Res (α : Type) where
  | ok (a : α) (ρ : Rho)
  | ex (e : Exn) (ρ : Rho)
  | bad
def Res.bind {α β : Type} : Res α → (α → Rho → Res β) → Res β
  | .ok a ρ, f => f a ρ
  | .ex e ρ, _ => .ex e ρ
  | .bad, _ => .bad
inductive Out where
  | nx (ρ : Rho)
  | rt (d : PyData)
  | bk (ρ : Rho)
  | ct (ρ : Rho)
  | ex (e : Exn) (ρ : Rho)
  | bad
def Out.bind : Out → (Rho → Out) → Out
  | .nx ρ, f => f ρ
  | o, _ => o
def Res.out {α : Type} : Res α → (α → Rho → Out) → Out
  | .ok a ρ, f => f a ρ
  | .ex e ρ, _ => .ex e ρ
  | .bad, _ => .bad
inductive FR where
  | ok (d : PyData)
  | ex (e : Exn)
  | bad
abbrev Fn := List PyData → FR
structure KM where
  K : PySem.W.Frag
  mg : Str → Option Value
  w : World
abbrev km (X : L2.Cx) : KM := ⟨X.K, X.mg, X.w⟩
theorem seqT_same {K : PySem.W.Frag} {H H' : Hp} {a : Addr} {xs : List V} (e : Same H H') (h : SqN K H a xs) : SqT K H' a xs := (h.same e).t
mutual
theorem dp_same {K : PySem.W.Frag} {H H' : Hp} (e : Same H H') : ∀ (d : PyData) (v : V), Dq K H v d → Dq K H' v d
  | .none, _, h => by cases h; exact .non
  | .bool b, _, h => by cases h; exact .bl b
  | .int i, _, h => by cases h; exact .int i
  | .str x, _, h => by cases h; exact .str x
  | .list ds, _, h => by
    cases h with
    | lst hs ha => exact .lst (e.seq hs) (dpAll_same e ds _ ha)
  | .tuple ds, _, h => by
    cases h with
    | tup hs ha => exact .tup (hs.same e) (dpAll_same e ds _ ha)
  | .dict _, _, h => by cases h
theorem dpAll_same {K : PySem.W.Frag} {H H' : Hp} (e : Same H H') : ∀ (ds : List PyData) (vs : List V), DqAll K H vs ds → DqAll K H' vs ds
  | [], _, h => by cases h; exact .nil
  | d :: ds, _, h => by
    cases h with
    | cons h1 h2 => exact .cons (dp_same e d _ h1) (dpAll_same e ds _ h2)
end
end DL
namespace L2
open PySem PySem.Spec PyProof.Rows
theorem DqAll.len {K : PySem.W.Frag} {H : Hp} : ∀ {ds : List PyData} {vs : List V}, DqAll K H vs ds → vs.length = ds.length
  | [], _, h => by cases h; rfl
  | d :: ds, _, h => by
    cases h with
    | cons h1 h2 => simp [DqAll.len h2]
theorem DqAll.get {K : PySem.W.Frag} {H : Hp} : ∀ {ds : List PyData} {vs : List V} {i : Nat} {d : PyData}, DqAll K H vs ds → ds[i]? = some d → ∃ v, vs[i]? = some v ∧ Dq K H v d
  | [], _, _, _, _, e => by simp at e
  | d :: ds, _, 0, _, h, e => by
    cases h with
    | cons h1 h2 => simp at e; subst e; exact ⟨_, rfl, h1⟩
  | d :: ds, _, i + 1, _, h, e => by
    cases h with
    | cons h1 h2 => exact DqAll.get (i := i) h2 (by simpa using e)
theorem DqAll.append {K : PySem.W.Frag} {H : Hp} : ∀ {ds es : List PyData} {vs us : List V}, DqAll K H vs ds → DqAll K H us es → DqAll K H (vs ++ us) (ds ++ es)
  | [], _, _, _, h, q => by cases h; exact q
  | d :: ds, _, _, _, h, q => by
    cases h with
    | cons h1 h2 => exact .cons h1 (DqAll.append h2 q)
theorem DqAll.drop {K : PySem.W.Frag} {H : Hp} : ∀ {ds : List PyData} {vs : List V} (n : Nat), DqAll K H vs ds → DqAll K H (vs.drop n) (ds.drop n)
  | _, _, 0, h => h
  | [], _, _ + 1, h => by cases h; exact .nil
  | d :: ds, _, n + 1, h => by
    cases h with
    | cons h1 h2 => exact DqAll.drop n h2
theorem DqAll.take {K : PySem.W.Frag} {H : Hp} : ∀ {ds : List PyData} {vs : List V} (n : Nat), DqAll K H vs ds → DqAll K H (vs.take n) (ds.take n)
  | _, _, 0, h => .nil
  | [], _, _ + 1, h => by cases h; exact .nil
  | d :: ds, _, n + 1, h => by
    cases h with
    | cons h1 h2 => exact .cons h1 (DqAll.take n h2)
theorem DqAll.set {K : PySem.W.Frag} {H : Hp} {v : V} {d : PyData} (q : Dq K H v d) : ∀ {ds : List PyData} {vs : List V} (n : Nat), DqAll K H vs ds → DqAll K H (vs.set n v) (ds.set n d)
  | [], _, _, h => by cases h; exact .nil
  | _ :: ds, _, 0, h => by
    cases h with
    | cons h1 h2 => exact .cons q h2
  | _ :: ds, _, n + 1, h => by
    cases h with
    | cons h1 h2 => exact .cons h1 (DqAll.set q n h2)
abbrev DK (K : PySem.W.Frag) (H : Hp) : List (Key × V) → List (Key × PyData) → Prop := Paired fun p q => p.1 = q.1 ∧ Dq K H p.2 q.2
theorem DqAll.ints {K : PySem.W.Frag} {H : Hp} : ∀ ns : List Int, DqAll K H (ns.map V.int) (ns.map PyData.int)
  | [] => .nil
  | n :: ns => .cons (.int n) (DqAll.ints ns)
end L2
namespace DL
open PySem PySem.Spec PyProof.Rows L2
structure Ext (G H G' H' : Hp) : Prop where
  g : Same G G'
  h : Same H H'
  gh : Same G' H'
  cap : ∀ b, H b ≠ none → G b = none → G' b = none
theorem Ext.refl {G H : Hp} (gh : Same G H) : Ext G H G H := ⟨Same.refl _, Same.refl _, gh, fun _ _ h => h⟩
theorem Ext.trans {G H G1 H1 G2 H2 : Hp} (a : Ext G H G1 H1) (b : Ext G1 H1 G2 H2) : Ext G H G2 H2 :=
  ⟨a.g.trans b.g, a.h.trans b.h, b.gh, fun x h1 h2 => b.cap x (fun z => h1 (a.h.free z)) (a.cap x h1 h2)⟩
theorem dk_same {K : PySem.W.Frag} {H H' : Hp} (e : Same H H') : ∀ {vs : List (Key × V)} {kvs : List (Key × PyData)}, DK K H vs kvs → DK K H' vs kvs
  | _, _, .nil => .nil
  | _, _, .cons h t => .cons ⟨h.1, dp_same e _ _ h.2⟩ (dk_same e t)
theorem upd_same_of {H : Hp} {p : Addr} {o : HO} (h : H p = none) : Same H (upd H p o) := fun b x e => by
  rw [upd_ne (ne_of_none e h)]
  exact e
theorem Ext.new {G H : Hp} {p : Addr} {o : HO} (gh : Same G H) (hp : H p = none) : Ext G H (upd G p o) (upd H p o) := by
  refine ⟨upd_same_of (gh.free hp), upd_same_of hp, fun b x e => ?_, fun b h1 h2 => ?_⟩
  · by_cases hb : b = p
    · subst hb; rw [upd_same] at e ⊢; exact e
    · rw [upd_ne hb] at e ⊢; exact gh _ _ e
  · rw [upd_ne (fun z => h1 (by rw [z]; exact hp))]; exact h2
theorem Ext.newOwn {G H : Hp} {p : Addr} {o : HO} (gh : Same G H) (hp : H p = none) : Ext G H G (upd H p o) :=
  ⟨Same.refl _, upd_same_of hp, gh.trans (upd_same_of hp), fun _ _ h => h⟩
structure Bx where
  G : Hp
  H : Hp
  ex : Addr := 0
def NdO (w : World) (a : Addr) (xs : List (NestedKey × Addr × Value)) : HO := .ext fun h => (a == sysModules) = false ∧ ∃ o es ep, h.get? a = some o ∧ o.ExactDict ∧ o.data = .dict es ep ∧ es.toList = xs.map fun x => (⟨x.1.hash w, .ref x.2.1, x.2.2⟩ : DictEntry)
structure NdE (K : PySem.W.Frag) (G : Hp) (x : NestedKey × Addr × Value) (p : NestedKey × Int) : Prop where
  key : x.1 = p.1
  dat : Dq K G (.ref x.2.1) x.1.data
  dep : x.1.depth ≤ 8
  int : ∃ t, x.2.2 = .int p.2 t
structure NDK (K : PySem.W.Frag) (G : Hp) (xs : List (NestedKey × Addr × Value)) (kvs : List (NestedKey × Int)) : Prop where
  all : Paired (NdE K G) xs kvs
  nd : (kvs.map (·.1)).Nodup
  len : kvs.length ≤ 1000000
theorem ndk_same {K : PySem.W.Frag} {G G' : Hp} (e : Same G G') {xs : List (NestedKey × Addr × Value)} {kvs : List (NestedKey × Int)} (h : NDK K G xs kvs) : NDK K G' xs kvs := by
  refine ⟨?_, h.nd, h.len⟩
  have q := h.all
  clear h
  induction q with
  | nil => exact .nil
  | cons h t ih => exact .cons ⟨h.key, dp_same e _ _ h.dat, h.dep, h.int⟩ ih
inductive EntOk (m : KM) (B : Bx) (G H : Hp) : Option (Option V) → Ent → Prop
  | un {o : Option (Option V)} : EntOk m B G H o .un
  | d {v : V} {x : PyData} : Dq m.K G v x → EntOk m B G H (some (some v)) (.d x)
  | own {a : Addr} {vs : List V} {xs : List PyData} : H a = some (.lst vs) → G a = none → B.H a = none → DqAll m.K G vs xs → EntOk m B G H (some (some (.ref a))) (.own xs)
  | dct {a : Addr} {vs : List (Key × V)} {kvs : List (Key × PyData)} : H a = some (.dK vs) → G a = none → B.H a = none → DK m.K G vs kvs → EntOk m B G H (some (some (.ref a))) (.dct kvs)
  | rdd {a : Addr} {vs : List (Key × V)} {kvs : List (Key × PyData)} : H a = some (.dK vs) → DK m.K G vs kvs → EntOk m B G H (some (some (.ref a))) (.rdd kvs)
  | ndc {a : Addr} {xs : List (NestedKey × Addr × Value)} {kvs : List (NestedKey × Int)} : H a = some (NdO m.w a xs) → G a = none → B.H a = none → NDK m.K G xs kvs → EntOk m B G H (some (some (.ref a))) (.ndc kvs)
  | exv : EntOk m B G H (some (some (.ref B.ex))) .exv
def dE : Ent → Bool
  | .dct _ => true
  | .rdd _ => true
  | _ => false
def DisD (σ : L2.St) (ρ : Rho) : Prop := ∀ (i j : Nat) (a : Addr) (kvs : List (Key × PyData)) (f : Ent), ρ[i]? = some (.dct kvs) → ρ[j]? = some f → dE f = true → σ[i]? = some (some (.ref a)) → σ[j]? = some (some (.ref a)) → i = j
theorem DisD.set0 {σ σ' : L2.St} {ρ : Rho} {i : Nat} {e0 : Ent} (h : DisD σ ρ) (h0 : dE e0 = false) (hs : ∀ j, j ≠ i → σ'[j]? = σ[j]?) : DisD σ' (ρ.set i e0) := by
  have ne : ∀ (j : Nat) (f : Ent), (ρ.set i e0)[j]? = some f → dE f = true → j ≠ i := fun j f hj hf z => by
    subst z
    rw [List.getElem?_set] at hj
    split at hj
    · split at hj
      · cases hj; rw [h0] at hf; cases hf
      · cases hj
    · rename_i z; exact z rfl
  intro j k a kvs f hj hk hf s1 s2
  have n1 := ne j _ hj rfl
  have n2 := ne k f hk hf
  rw [List.getElem?_set_ne (fun z => n1 z.symm)] at hj
  rw [List.getElem?_set_ne (fun z => n2 z.symm)] at hk
  rw [hs j n1] at s1
  rw [hs k n2] at s2
  exact h j k a kvs f hj hk hf s1 s2
structure DEnv (m : KM) (B : Bx) (G H : Hp) (σ : L2.St) (ρ : Rho) : Prop where
  base : Ext B.G B.H G H
  len : ρ.length = σ.length
  ent : ∀ (i : Nat) (e : Ent), ρ[i]? = some e → EntOk m B G H σ[i]? e
  dis : ∀ (i j : Nat) (a : Addr) (xs ys : List PyData), ρ[i]? = some (.own xs) → ρ[j]? = some (.own ys) → σ[i]? = some (some (.ref a)) → σ[j]? = some (some (.ref a)) → i = j
  disD : DisD σ ρ
section
variable {m : KM} {B : Bx} {G H G' H' : Hp} {σ : L2.St} {ρ : Rho}
theorem EntOk.ext {o : Option (Option V)} {e : Ent} (q : EntOk m B G H o e) (x : Ext G H G' H') : EntOk m B G' H' o e := by
  cases q with
  | un => exact .un
  | d h => exact .d (dp_same x.g _ _ h)
  | own h1 h2 h3 h4 => exact .own (x.h _ _ h1) (x.cap _ (by rw [h1]; exact fun z => nomatch z) h2) h3 (dpAll_same x.g _ _ h4)
  | dct h1 h2 h3 h4 => exact .dct (x.h _ _ h1) (x.cap _ (by rw [h1]; exact fun z => nomatch z) h2) h3 (dk_same x.g h4)
  | rdd h1 h4 => exact .rdd (x.h _ _ h1) (dk_same x.g h4)
  | exv => exact .exv
  | ndc h1 h2 h3 h4 => exact .ndc (x.h _ _ h1) (x.cap _ (by rw [h1]; exact fun z => nomatch z) h2) h3 (ndk_same x.g h4)
theorem DEnv.ext (E : DEnv m B G H σ ρ) (x : Ext G H G' H') : DEnv m B G' H' σ ρ :=
  ⟨E.base.trans x, E.len, fun i e h => (E.ent i e h).ext x, E.dis, E.disD⟩
theorem DEnv.freeze (E : DEnv m B G H σ ρ) {i : Nat} {xs : List PyData} (h : ρ[i]? = some (.own xs)) :
    ∃ a vs, σ[i]? = some (some (.ref a)) ∧ H a = some (.lst vs) ∧ G a = none ∧ DqAll m.K G vs xs ∧ Same G (upd G a (.lst vs)) ∧ Dq m.K (upd G a (.lst vs)) (.ref a) (.list xs) ∧ DEnv m B (upd G a (.lst vs)) H σ (ρ.set i (.d (.list xs))) := by
  have q := E.ent i _ h
  generalize hs : σ[i]? = o at q
  cases q with
  | own h1 h2 h3 h4 =>
    rename_i a vs
    have sg : Same G (upd G a (.lst vs)) := upd_same_of h2
    have dp : Dq m.K (upd G a (.lst vs)) (.ref a) (.list xs) := .lst (SqL.of upd_same) (dpAll_same sg _ _ h4)
    have hi : i < ρ.length := (List.getElem?_eq_some_iff.mp h).1
    refine ⟨a, vs, rfl, h1, h2, h4, sg, dp, ⟨⟨E.base.g.trans sg, E.base.h, fun b x e => ?_, fun b n1 n2 => ?_⟩, by simpa using E.len, fun j e hj => ?_, fun j k b ys zs hj hk s1 s2 => ?_, E.disD.set0 rfl fun _ _ => rfl⟩⟩
    · by_cases hb : b = a
      · subst hb; rw [upd_same] at e; cases e; exact h1
      · rw [upd_ne hb] at e; exact E.base.gh _ _ e
    · rw [upd_ne (fun z => n1 (by rw [z]; exact h3))]; exact E.base.cap b n1 n2
    · by_cases hji : j = i
      · subst hji
        rw [List.getElem?_set_self hi] at hj
        cases hj
        rw [hs]
        exact .d dp
      · rw [List.getElem?_set_ne (fun z => hji z.symm)] at hj
        have q := E.ent j e hj
        generalize hs2 : σ[j]? = o2 at q
        cases q with
        | un => exact .un
        | d z => exact .d (dp_same sg _ _ z)
        | own z1 z2 z3 z4 =>
          rename_i b us ys
          refine .own z1 ?_ z3 (dpAll_same sg _ _ z4)
          rw [upd_ne (fun (z : b = a) => hji (E.dis j i a ys xs hj h (by rw [hs2, z]) hs))]
          exact z2
        | dct z1 z2 z3 z4 =>
          rename_i b us ys
          refine .dct z1 ?_ z3 (dk_same sg z4)
          rw [upd_ne (fun (z : b = a) => by rw [z, h1] at z1; cases z1)]
          exact z2
        | rdd z1 z4 => exact .rdd z1 (dk_same sg z4)
        | exv => exact .exv
        | ndc z1 z2 z3 z4 =>
          refine .ndc z1 ?_ z3 (ndk_same sg z4)
          rw [upd_ne (fun z => by rw [z, h1] at z1; cases z1)]
          exact z2
    · have hji : j ≠ i := fun z => by subst z; rw [List.getElem?_set_self hi] at hj; cases hj
      have hki : k ≠ i := fun z => by subst z; rw [List.getElem?_set_self hi] at hk; cases hk
      rw [List.getElem?_set_ne (fun z => hji z.symm)] at hj
      rw [List.getElem?_set_ne (fun z => hki z.symm)] at hk
      exact E.dis j k b ys zs hj hk s1 s2
theorem DEnv.put (E : DEnv m B G H σ ρ) {i : Nat} {v : V} {x : PyData} (hi : i < ρ.length) (dp : Dq m.K G v x) : DEnv m B G H (σ.set i (some v)) (ρ.set i (.d x)) := by
  have his : i < σ.length := by rw [← E.len]; exact hi
  refine ⟨E.base, by simpa using E.len, fun j e hj => ?_, fun j k b ys zs hj hk s1 s2 => ?_, E.disD.set0 rfl fun j hj => List.getElem?_set_ne fun z => hj z.symm⟩
  · by_cases hji : j = i
    · subst hji
      rw [List.getElem?_set_self hi] at hj
      cases hj
      rw [List.getElem?_set_self his]
      exact .d dp
    · rw [List.getElem?_set_ne (fun z => hji z.symm)] at hj ⊢
      exact E.ent j e hj
  · have hji : j ≠ i := fun z => by subst z; rw [List.getElem?_set_self hi] at hj; cases hj
    have hki : k ≠ i := fun z => by subst z; rw [List.getElem?_set_self hi] at hk; cases hk
    rw [List.getElem?_set_ne (fun z => hji z.symm)] at hj s1
    rw [List.getElem?_set_ne (fun z => hki z.symm)] at hk s2
    exact E.dis j k b ys zs hj hk s1 s2
theorem DEnv.putOwn (E : DEnv m B G H σ ρ) {i : Nat} {p : Addr} {vs : List V} {xs : List PyData} (hi : i < ρ.length) (hp : H p = none) (dp : DqAll m.K G vs xs) :
    DEnv m B G (upd H p (.lst vs)) (σ.set i (some (.ref p))) (ρ.set i (.own xs)) := by
  have his : i < σ.length := by rw [← E.len]; exact hi
  have x : Ext G H G (upd H p (.lst vs)) := Ext.newOwn E.base.gh hp
  refine ⟨E.base.trans x, by simpa using E.len, fun j e hj => ?_, fun j k b ys zs hj hk s1 s2 => ?_, E.disD.set0 rfl fun j hj => List.getElem?_set_ne fun z => hj z.symm⟩
  · by_cases hji : j = i
    · subst hji
      rw [List.getElem?_set_self hi] at hj
      cases hj
      rw [List.getElem?_set_self his]
      exact .own upd_same (E.base.gh.free hp) (E.base.h.free hp) dp
    · rw [List.getElem?_set_ne (fun z => hji z.symm)] at hj ⊢
      exact (E.ent j e hj).ext x
  · have ne : ∀ (j : Nat) (ys : List PyData), ρ[j]? = some (.own ys) → ∀ b : Addr, σ[j]? = some (some (.ref b)) → b ≠ p := fun j ys hj b hb z => by
      have q := E.ent j _ hj
      rw [hb] at q
      cases q with
      | own h1 _ _ _ => rw [z, hp] at h1; cases h1
    by_cases hji : j = i
    · subst hji
      by_cases hki : k = j
      · exact hki.symm
      · rw [List.getElem?_set_self his] at s1
        cases s1
        rw [List.getElem?_set_ne (fun z => hki z.symm)] at hk s2
        exact absurd rfl (ne k zs hk _ s2)
    · rw [List.getElem?_set_ne (fun z => hji z.symm)] at hj s1
      by_cases hki : k = i
      · subst hki
        rw [List.getElem?_set_self his] at s2
        cases s2
        exact absurd rfl (ne j ys hj _ s1)
      · rw [List.getElem?_set_ne (fun z => hki z.symm)] at hk s2
        exact E.dis j k b ys zs hj hk s1 s2
theorem DEnv.change (E : DEnv m B G H σ ρ) {i : Nat} {a : Addr} {vs : List V} {xs ys : List PyData} (h : ρ[i]? = some (.own xs)) (hs : σ[i]? = some (some (.ref a))) (dp : DqAll m.K G vs ys) :
    DEnv m B G (upd H a (.lst vs)) σ (ρ.set i (.own ys)) := by
  have q := E.ent i _ h
  rw [hs] at q
  have hi : i < ρ.length := (List.getElem?_eq_some_iff.mp h).1
  cases q with
  | own h1 h2 h3 h4 =>
    refine ⟨⟨E.base.g, fun b x e => ?_, fun b x e => ?_, E.base.cap⟩, by simpa using E.len, fun j e hj => ?_, fun j k b us zs hj hk s1 s2 => ?_, E.disD.set0 rfl fun _ _ => rfl⟩
    · rw [upd_ne (ne_of_none e h3)]; exact E.base.h _ _ e
    · rw [upd_ne (ne_of_none e h2)]; exact E.base.gh _ _ e
    · by_cases hji : j = i
      · subst hji
        rw [List.getElem?_set_self hi] at hj
        cases hj
        rw [hs]
        exact .own upd_same h2 h3 dp
      · rw [List.getElem?_set_ne (fun z => hji z.symm)] at hj
        have q := E.ent j e hj
        generalize hs2 : σ[j]? = o2 at q
        cases q with
        | un => exact .un
        | d z => exact .d z
        | own z1 z2 z3 z4 =>
          rename_i b us zs
          refine .own ?_ z2 z3 z4
          rw [upd_ne (fun (z : b = a) => hji (E.dis j i a zs xs hj h (by rw [hs2, z]) hs))]
          exact z1
        | dct z1 z2 z3 z4 =>
          refine .dct ?_ z2 z3 z4
          rw [upd_ne (ne_of z1 h1 fun z => nomatch z)]
          exact z1
        | rdd z1 z4 =>
          refine .rdd ?_ z4
          rw [upd_ne (ne_of z1 h1 fun z => nomatch z)]
          exact z1
        | exv => exact .exv
        | ndc z1 z2 z3 z4 =>
          refine .ndc ?_ z2 z3 z4
          rw [upd_ne (ne_of z1 h1 fun z => nomatch z)]
          exact z1
    · have cv : ∀ (k : Nat) (zs : List PyData), (ρ.set i (.own ys))[k]? = some (.own zs) → ∃ zs', ρ[k]? = some (.own zs') := fun k zs hk => by
        by_cases hki : k = i
        · subst hki; exact ⟨xs, h⟩
        · rw [List.getElem?_set_ne (fun z => hki z.symm)] at hk; exact ⟨zs, hk⟩
      obtain ⟨_, h1'⟩ := cv j us hj
      obtain ⟨_, h2'⟩ := cv k zs hk
      exact E.dis j k b _ _ h1' h2' s1 s2
theorem DEnv.putDct (E : DEnv m B G H σ ρ) {i : Nat} {p : Addr} {vs : List (Key × V)} {kvs : List (Key × PyData)} (hi : i < ρ.length) (hp : H p = none) (dp : DK m.K G vs kvs) :
    DEnv m B G (upd H p (.dK vs)) (σ.set i (some (.ref p))) (ρ.set i (.dct kvs)) := by
  have his : i < σ.length := by rw [← E.len]; exact hi
  have x : Ext G H G (upd H p (.dK vs)) := Ext.newOwn E.base.gh hp
  have ne : ∀ (j : Nat) (f : Ent), ρ[j]? = some f → dE f = true → ∀ b : Addr, σ[j]? = some (some (.ref b)) → b ≠ p := fun j f hj hf b hb z => by
    have q := E.ent j _ hj
    rw [hb] at q
    cases q with
    | dct h1 _ _ _ => rw [z, hp] at h1; cases h1
    | rdd h1 _ => rw [z, hp] at h1; cases h1
    | _ => cases hf
  refine ⟨E.base.trans x, by simpa using E.len, fun j e hj => ?_, fun j k b ys zs hj hk s1 s2 => ?_, fun j k b ks f hj hk hf s1 s2 => ?_⟩
  · by_cases hji : j = i
    · subst hji
      rw [List.getElem?_set_self hi] at hj
      cases hj
      rw [List.getElem?_set_self his]
      exact .dct upd_same (E.base.gh.free hp) (E.base.h.free hp) dp
    · rw [List.getElem?_set_ne (fun z => hji z.symm)] at hj ⊢
      exact (E.ent j e hj).ext x
  · have hji : j ≠ i := fun z => by subst z; rw [List.getElem?_set_self hi] at hj; cases hj
    have hki : k ≠ i := fun z => by subst z; rw [List.getElem?_set_self hi] at hk; cases hk
    rw [List.getElem?_set_ne (fun z => hji z.symm)] at hj s1
    rw [List.getElem?_set_ne (fun z => hki z.symm)] at hk s2
    exact E.dis j k b ys zs hj hk s1 s2
  · by_cases hji : j = i
    · by_cases hki : k = i
      · rw [hji, hki]
      · rw [hji, List.getElem?_set_self his] at s1
        cases s1
        rw [List.getElem?_set_ne (fun z => hki z.symm)] at hk s2
        exact absurd rfl (ne k f hk hf _ s2)
    · rw [List.getElem?_set_ne (fun z => hji z.symm)] at hj s1
      by_cases hki : k = i
      · rw [hki, List.getElem?_set_self his] at s2
        cases s2
        exact absurd rfl (ne j _ hj rfl _ s1)
      · rw [List.getElem?_set_ne (fun z => hki z.symm)] at hk s2
        exact E.disD j k b ks f hj hk hf s1 s2
theorem DEnv.changeD (E : DEnv m B G H σ ρ) {i : Nat} {a : Addr} {vs : List (Key × V)} {xs ys : List (Key × PyData)} (h : ρ[i]? = some (.dct xs)) (hs : σ[i]? = some (some (.ref a))) (dp : DK m.K G vs ys) :
    DEnv m B G (upd H a (.dK vs)) σ (ρ.set i (.dct ys)) := by
  have q := E.ent i _ h
  rw [hs] at q
  have hi : i < ρ.length := (List.getElem?_eq_some_iff.mp h).1
  cases q with
  | dct h1 h2 h3 h4 =>
    have cv : ∀ (k : Nat) (f : Ent), (ρ.set i (.dct ys))[k]? = some f → dE f = true → ∃ f', ρ[k]? = some f' ∧ dE f' = true := fun k f hk hf => by
      by_cases hki : k = i
      · subst hki; exact ⟨_, h, rfl⟩
      · rw [List.getElem?_set_ne (fun z => hki z.symm)] at hk; exact ⟨f, hk, hf⟩
    refine ⟨⟨E.base.g, fun b x e => ?_, fun b x e => ?_, E.base.cap⟩, by simpa using E.len, fun j e hj => ?_, fun j k b us zs hj hk s1 s2 => ?_, fun j k b ks f hj hk hf s1 s2 => ?_⟩
    · rw [upd_ne (ne_of_none e h3)]; exact E.base.h _ _ e
    · rw [upd_ne (ne_of_none e h2)]; exact E.base.gh _ _ e
    · by_cases hji : j = i
      · subst hji
        rw [List.getElem?_set_self hi] at hj
        cases hj
        rw [hs]
        exact .dct upd_same h2 h3 dp
      · rw [List.getElem?_set_ne (fun z => hji z.symm)] at hj
        have q := E.ent j e hj
        generalize hs2 : σ[j]? = o2 at q
        cases q with
        | un => exact .un
        | d z => exact .d z
        | own z1 z2 z3 z4 =>
          refine .own ?_ z2 z3 z4
          rw [upd_ne (ne_of z1 h1 fun z => nomatch z)]
          exact z1
        | dct z1 z2 z3 z4 =>
          rename_i b us zs
          refine .dct ?_ z2 z3 z4
          rw [upd_ne (fun (z : b = a) => hji (E.disD i j a xs _ h hj rfl hs (by rw [hs2, z])).symm)]
          exact z1
        | rdd z1 z4 =>
          rename_i b us zs
          refine .rdd ?_ z4
          rw [upd_ne (fun (z : b = a) => hji (E.disD i j a xs _ h hj rfl hs (by rw [hs2, z])).symm)]
          exact z1
        | exv => exact .exv
        | ndc z1 z2 z3 z4 =>
          refine .ndc ?_ z2 z3 z4
          rw [upd_ne (ne_of z1 h1 fun z => nomatch z)]
          exact z1
    · have hji : j ≠ i := fun z => by subst z; rw [List.getElem?_set_self hi] at hj; cases hj
      have hki : k ≠ i := fun z => by subst z; rw [List.getElem?_set_self hi] at hk; cases hk
      rw [List.getElem?_set_ne (fun z => hji z.symm)] at hj
      rw [List.getElem?_set_ne (fun z => hki z.symm)] at hk
      exact E.dis j k b us zs hj hk s1 s2
    · obtain ⟨f1, hk', hf'⟩ := cv k f hk hf
      by_cases hji : j = i
      · subst hji
        exact E.disD j k b xs f1 h hk' hf' s1 s2
      · rw [List.getElem?_set_ne (fun z => hji z.symm)] at hj
        exact E.disD j k b ks f1 hj hk' hf' s1 s2
theorem DEnv.drop (E : DEnv m B G H σ ρ) {i : Nat} {o : Option V} (hi : i < ρ.length) : DEnv m B G H (σ.set i o) (ρ.set i .un) := by
  have his : i < σ.length := by rw [← E.len]; exact hi
  refine ⟨E.base, by simpa using E.len, fun j e hj => ?_, fun j k b ys zs hj hk s1 s2 => ?_, E.disD.set0 rfl fun j hj => List.getElem?_set_ne fun z => hj z.symm⟩
  · by_cases hji : j = i
    · subst hji
      rw [List.getElem?_set_self hi] at hj
      cases hj
      exact .un
    · rw [List.getElem?_set_ne (fun z => hji z.symm)] at hj ⊢
      exact E.ent j e hj
  · have hji : j ≠ i := fun z => by subst z; rw [List.getElem?_set_self hi] at hj; cases hj
    have hki : k ≠ i := fun z => by subst z; rw [List.getElem?_set_self hi] at hk; cases hk
    rw [List.getElem?_set_ne (fun z => hji z.symm)] at hj s1
    rw [List.getElem?_set_ne (fun z => hki z.symm)] at hk s2
    exact E.dis j k b ys zs hj hk s1 s2
end
def ExOk (m : KM) (B : Bx) (G' H' : Hp) (e : Exn) (cls : Value) (d : Option Addr) : Prop :=
  (∃ C, m.mg e.nm = some (.ref C) ∧ cls = .ref C) ∧ ((e.fs = [] ∧ d = none) ∨ ∃ a fs, d = some a ∧ H' a = some (.xd fs) ∧ G' a = none ∧ B.H a = none ∧ ∀ f x, e.fs.lookup f = some x → ∃ v, fs.lookup f = some v ∧ Dq m.K G' v x)
theorem ExOk.up {m : KM} {B : Bx} {G H G' H' : Hp} {e : Exn} {cls : Value} {d : Option Addr} (x : Ext B.G B.H G H) (h : ExOk m ⟨G, H, 0⟩ G' H' e cls d) : ExOk m B G' H' e cls d := by
  obtain ⟨h1, h2⟩ := h
  refine ⟨h1, h2.imp id ?_⟩
  rintro ⟨a, fs, e1, e2, e3, e4, e5⟩
  refine ⟨a, fs, e1, e2, e3, ?_, e5⟩
  cases hb : B.H a with
  | none => rfl
  | some o =>
    have := x.h _ _ hb
    have e4' : H a = none := e4
    rw [e4'] at this
    cases this
def Sat {α : Type} (m : KM) (B : Bx) (W : WX) (G0 : Hp) (σ : L2.St) : Res α → (α → Rho → Prop) → Prop
  | .ok a ρ, P => P a ρ
  | .ex e ρ, _ => ∀ cls dd G' H', DEnv m B G' H' σ ρ → Same G0 G' → ExOk m B G' H' e cls dd → W cls dd σ H'
  | .bad, _ => False
theorem Sat.imp {α : Type} {m : KM} {B : Bx} {W : WX} {G0 : Hp} {σ : L2.St} {r : Res α} {P Q : α → Rho → Prop} (h : Sat m B W G0 σ r P) (i : ∀ a ρ, P a ρ → Q a ρ) : Sat m B W G0 σ r Q := by
  cases r with
  | ok a ρ => exact i _ _ h
  | ex e ρ => exact h
  | bad => exact h
theorem Sat.up {α : Type} {m : KM} {B : Bx} {W : WX} {G0 G1 : Hp} {σ : L2.St} {r : Res α} {P : α → Rho → Prop} (h : Sat m B W G0 σ r P) (g : Same G0 G1) : Sat m B W G1 σ r P := by
  cases r with
  | ok a ρ => exact h
  | ex e ρ => exact fun cls dd G H E s => h cls dd G H E (g.trans s)
  | bad => exact h
theorem Sat.bind {α β : Type} {m : KM} {B : Bx} {W : WX} {G0 : Hp} {σ : L2.St} {r : Res α} {f : α → Rho → Res β} {P : β → Rho → Prop} (h : Sat m B W G0 σ (r.bind f) P) : Sat m B W G0 σ r fun a ρ => Sat m B W G0 σ (f a ρ) P := by
  cases r with
  | ok a ρ => exact h
  | ex e ρ => exact h
  | bad => exact h
def tD (m : KM) (B : Bx) (W : WX) (F : Rho → Res PyData) : TE := fun σ H Q => ∃ G ρ, DEnv m B G H σ ρ ∧ Sat m B W G σ (F ρ) fun d ρ' => ∀ v G' H', DEnv m B G' H' σ ρ' → Same G G' → Dq m.K G' v d → Q v H'
def tDT (m : KM) (B : Bx) (W : WX) (F : Rho → Res Bool) : TT := fun σ H Q => ∃ G ρ, DEnv m B G H σ ρ ∧ Sat m B W G σ (F ρ) fun b ρ' => ∀ G' H', DEnv m B G' H' σ ρ' → Same G G' → Q b H'
def tDA (m : KM) (B : Bx) (W : WX) (F : Rho → Res (List PyData)) : TA := fun σ H Q => ∃ G ρ, DEnv m B G H σ ρ ∧ Sat m B W G σ (F ρ) fun ds ρ' => ∀ vs G' H', DEnv m B G' H' σ ρ' → Same G G' → DqAll m.K G' vs ds → Q vs H'
def SatS (m : KM) (B : Bx) (W : WX) (G0 : Hp) (D : Ends) : Out → Prop
  | .nx ρ => ∀ σ G H, DEnv m B G H σ ρ → Same G0 G → D.nx σ H
  | .rt d => ∀ v G H, Ext B.G B.H G H → Dq m.K G v d → D.rt v H
  | .bk ρ => ∀ σ G H, DEnv m B G H σ ρ → Same G0 G → D.bk σ H
  | .ct ρ => ∀ σ G H, DEnv m B G H σ ρ → Same G0 G → D.ct σ H
  | .ex e ρ => ∀ cls dd σ G H, DEnv m B G H σ ρ → Same G0 G → ExOk m B G H e cls dd → W cls dd σ H
  | .bad => False
def tDS (m : KM) (B : Bx) (W : WX) (S : Rho → Out) : TS := fun D σ H => ∃ G ρ, DEnv m B G H σ ρ ∧ SatS m B W G D (S ρ)
theorem SatS.up {m : KM} {B : Bx} {W : WX} {G0 G1 : Hp} {D : Ends} {o : Out} (h : SatS m B W G0 D o) (g : Same G0 G1) : SatS m B W G1 D o := by
  cases o with
  | nx ρ => exact fun σ G H E s => h σ G H E (g.trans s)
  | rt d => exact h
  | bk ρ => exact fun σ G H E s => h σ G H E (g.trans s)
  | ct ρ => exact fun σ G H E s => h σ G H E (g.trans s)
  | ex e ρ => exact fun cls dd σ G H E s => h cls dd σ G H E (g.trans s)
  | bad => exact h
theorem _root_.L2.PE.of {X : L2.Cx} {e : Expr} {t t' : TE} (h : PE X e t) (i : ∀ σ H Q, t' σ H Q → t σ H Q) : PE X e t' := ⟨fun pins s σ H Q I q => h.run pins s σ H Q I (i _ _ _ q)⟩
theorem _root_.L2.PT.of {X : L2.Cx} {e : Expr} {t t' : TT} (h : PT X e t) (i : ∀ σ H Q, t' σ H Q → t σ H Q) : PT X e t' := ⟨fun pins s σ H Q I q => h.run pins s σ H Q I (i _ _ _ q)⟩
theorem _root_.L2.PA.of {X : L2.Cx} {e : List Expr} {t t' : TA} (h : PA X e t) (i : ∀ σ H Q, t' σ H Q → t σ H Q) : PA X e t' := ⟨fun pos pins s σ H Q I q => h.run pos pins s σ H Q I (i _ _ _ q)⟩
theorem _root_.L2.PS.of {X : L2.Cx} {e : Stmt} {t t' : TS} (h : PS X e t) (i : ∀ D σ H, t' D σ H → t D σ H) : PS X e t' := ⟨fun pins s σ H D I q => h.run pins s σ H D I (i _ _ _ q)⟩
theorem _root_.L2.PSs.of {X : L2.Cx} {e : List Stmt} {t t' : TS} (h : PSs X e t) (i : ∀ D σ H, t' D σ H → t D σ H) : PSs X e t' := ⟨fun pins s σ H D I q => h.run pins s σ H D I (i _ _ _ q)⟩
end DL
namespace DL
open PySem PySem.Spec PyProof.Rows L2
def optR {α : Type} : Option α → Rho → Res α
  | some a, ρ => .ok a ρ
  | none, _ => .bad
def varF (i : Nat) : Rho → Res PyData := fun ρ => match ρ[i]? with
  | some (.d x) => .ok x ρ
  | some (.own xs) => .ok (.list xs) (ρ.set i (.d (.list xs)))
  | _ => .bad
def cF (d : PyData) : Rho → Res PyData := fun ρ => .ok d ρ
def binF (g : PyData → PyData → Option PyData) (F1 F2 : Rho → Res PyData) : Rho → Res PyData := fun ρ => (F1 ρ).bind fun d ρ => (F2 ρ).bind fun e ρ => optR (g d e) ρ
def unF (g : PyData → Option PyData) (F : Rho → Res PyData) : Rho → Res PyData := fun ρ => (F ρ).bind fun d ρ => optR (g d) ρ
def isB : PyData → Option Bool
  | .bool b => some b
  | _ => none
def testF (F : Rho → Res PyData) : Rho → Res Bool := fun ρ => (F ρ).bind fun d ρ => optR (isB d) ρ
def andT (F1 F2 : Rho → Res Bool) : Rho → Res Bool := fun ρ => (F1 ρ).bind fun b ρ => if b = true then F2 ρ else .ok false ρ
def orT (F1 F2 : Rho → Res Bool) : Rho → Res Bool := fun ρ => (F1 ρ).bind fun b ρ => if b = true then .ok true ρ else F2 ρ
def notT (F : Rho → Res Bool) : Rho → Res Bool := fun ρ => (F ρ).bind fun b ρ => .ok (!b) ρ
def andV (F1 F2 : Rho → Res PyData) : Rho → Res PyData := fun ρ => (testF F1 ρ).bind fun b ρ => if b = true then F2 ρ else .ok (.bool false) ρ
def orV (F1 F2 : Rho → Res PyData) : Rho → Res PyData := fun ρ => (testF F1 ρ).bind fun b ρ => if b = true then .ok (.bool true) ρ else F2 ρ
def notV (F : Rho → Res PyData) : Rho → Res PyData := fun ρ => (testF F ρ).bind fun b ρ => .ok (.bool (!b)) ρ
def ifF {α : Type} (T : Rho → Res Bool) (F1 F2 : Rho → Res α) : Rho → Res α := fun ρ => (T ρ).bind fun b ρ => if b = true then F1 ρ else F2 ρ
def nilA : Rho → Res (List PyData) := fun ρ => .ok [] ρ
def consA (F : Rho → Res PyData) (A : Rho → Res (List PyData)) : Rho → Res (List PyData) := fun ρ => (F ρ).bind fun d ρ => (A ρ).bind fun ds ρ => .ok (d :: ds) ρ
def tupF (A : Rho → Res (List PyData)) : Rho → Res PyData := fun ρ => (A ρ).bind fun ds ρ => if ds.length ≤ sizeLine then .ok (.tuple ds) ρ else .bad
def lstF (A : Rho → Res (List PyData)) : Rho → Res PyData := fun ρ => (A ρ).bind fun ds ρ => if ds.length ≤ sizeLine then .ok (.list ds) ρ else .bad
def appF (f : List PyData → Option PyData) (A : Rho → Res (List PyData)) : Rho → Res PyData := fun ρ => (A ρ).bind fun ds ρ => optR (f ds) ρ
def callF (f : Fn) (A : Rho → Res (List PyData)) : Rho → Res PyData := fun ρ => (A ρ).bind fun ds ρ => match f ds with
  | .ok d => .ok d ρ
  | .ex e => .ex e ρ
  | .bad => .bad
def dAdd : PyData → PyData → Option PyData
  | .int i, .int j => some (.int (i + j))
  | .str x, .str y => if x.length + y.length ≤ sizeLine then some (.str (x ++ y)) else none
  | .tuple xs, .tuple ys => if xs.length + ys.length ≤ sizeLine then some (.tuple (xs ++ ys)) else none
  | .list xs, .list ys => if xs.length + ys.length ≤ sizeLine then some (.list (xs ++ ys)) else none
  | _, _ => none
def dSub : PyData → PyData → Option PyData
  | .int i, .int j => some (.int (i - j))
  | _, _ => none
noncomputable def iteC {α : Type} (c : Prop) (a b : α) : α := @ite α c (Classical.propDecidable c) a b
theorem iteC_pos {α : Type} {c : Prop} {a b : α} (h : c) : iteC c a b = a := by unfold iteC; exact if_pos h
theorem iteC_neg {α : Type} {c : Prop} {a b : α} (h : ¬ c) : iteC c a b = b := by unfold iteC; exact if_neg h
theorem of_iteC {α : Type} {c : Prop} {a z : α} (h : iteC c (some a) none = some z) : c ∧ a = z := by
  by_cases hc : c
  · rw [iteC_pos hc] at h; exact ⟨hc, Option.some.inj h⟩
  · rw [iteC_neg hc] at h; cases h
noncomputable def dMul : PyData → PyData → Option PyData
  | .int i, .int j => iteC (i.natAbs.log2 + j.natAbs.log2 < 1000000) (some (.int (i * j))) none
  | _, _ => none
noncomputable def dDiv : PyData → PyData → Option PyData
  | .int i, .int j => iteC (j ≠ 0 ∧ j.natAbs.log2 < 9000) (some (.int (i.fdiv j))) none
  | _, _ => none
def dMod : PyData → PyData → Option PyData
  | .int i, .int j => if j ≠ 0 then some (.int (i.fmod j)) else none
  | _, _ => none
noncomputable def dPow : PyData → PyData → Option PyData
  | .int i, .int j => iteC (0 ≤ j ∧ j ≤ 1000000 ∧ i.natAbs < 2 ^ 64) (some (.int (i ^ j.toNat))) none
  | _, _ => none
def dNeg : PyData → Option PyData
  | .int i => some (.int (-i))
  | _ => none
def dLt : PyData → PyData → Option PyData
  | .int i, .int j => some (.bool (decide (i < j)))
  | .str i, .str j => some (.bool (decide (i.cps.toList < j.cps.toList)))
  | _, _ => none
def dLe : PyData → PyData → Option PyData
  | .int i, .int j => some (.bool (decide (i ≤ j)))
  | _, _ => none
def dGt : PyData → PyData → Option PyData
  | .int i, .int j => some (.bool (decide (j < i)))
  | _, _ => none
def dGe : PyData → PyData → Option PyData
  | .int i, .int j => some (.bool (decide (j ≤ i)))
  | _, _ => none
def dEq (d e : PyData) : Option PyData := if SeqAt.shaped d = true ∧ SeqAt.shaped e = true then some (.bool (PyData.eqv d e)) else none
def dNe (d e : PyData) : Option PyData := if SeqAt.shaped d = true ∧ SeqAt.shaped e = true then some (.bool (!PyData.eqv d e)) else none
def isNone : PyData → Bool
  | .none => true
  | _ => false
def dIsN (d : PyData) : Option PyData := some (.bool (isNone d))
def dNotN (d : PyData) : Option PyData := some (.bool (!isNone d))
def dIx : PyData → PyData → Option PyData
  | .list xs, .int i => atI xs i
  | .tuple xs, .int i => atI xs i
  | .str z, .int i => if z.length ≤ sizeLine then (atI z.cps.toList i).map fun c => .str ⟨#[c]⟩ else none
  | _, _ => none
def dRev : PyData → Option PyData
  | .list xs => some (.list xs.reverse)
  | _ => none
section
variable {X : L2.Cx} {B : Bx} {W : WX}
def RD (K : PySem.W.Frag) (r : R2) (g : PyData → PyData → Option PyData) : Prop :=
  ∀ (G H : Hp) (x y : V) (d e z : PyData) (Q : VK), Same G H → Dq K G x d → Dq K G y e → g d e = some z → (∀ v G' H', Ext G H G' H' → Dq K G' v z → Q v H') → r x y H Q
def RD1 (K : PySem.W.Frag) (r : V → Hp → VK → Prop) (g : PyData → Option PyData) : Prop :=
  ∀ (G H : Hp) (x : V) (d z : PyData) (Q : VK), Same G H → Dq K G x d → g d = some z → (∀ v G' H', Ext G H G' H' → Dq K G' v z → Q v H') → r x H Q
def RDs (K : PySem.W.Frag) (r : List V → Hp → VK → Prop) (g : List PyData → Option PyData) : Prop :=
  ∀ (G H : Hp) (xs : List V) (ds : List PyData) (z : PyData) (Q : VK), Same G H → DqAll K G xs ds → g ds = some z → (∀ v G' H', Ext G H G' H' → Dq K G' v z → Q v H') → r xs H Q
theorem sat_opt {α : Type} {m : KM} {G0 : Hp} {σ : L2.St} {o : Option α} {ρ : Rho} {P : α → Rho → Prop} (h : Sat m B W G0 σ (optR o ρ) P) : ∃ a, o = some a ∧ P a ρ := by
  cases o with
  | none => exact h.elim
  | some a => exact ⟨a, rfl, h⟩
theorem t_bin {r : R2} {g : PyData → PyData → Option PyData} (hr : RD X.K r g) {F1 F2 : Rho → Res PyData} : ∀ σ H Q, tD (km X) B W (binF g F1 F2) σ H Q → tOp r (tD (km X) B W F1) (tD (km X) B W F2) σ H Q := by
  rintro σ H Q ⟨G, ρ, E, S⟩
  refine ⟨G, ρ, E, (Sat.bind S).imp fun d ρ1 s1 v G1 H1 E1 g1 dp1 => ⟨G1, ρ1, E1, ((Sat.bind s1).up g1).imp fun e ρ2 s2 u G2 H2 E2 g2 dp2 => ?_⟩⟩
  obtain ⟨z, hz, q⟩ := sat_opt s2
  exact hr G2 H2 v u d e z Q E2.base.gh (dp_same g2 _ _ dp1) dp2 hz fun x G3 H3 ext dp3 => q x G3 H3 (E2.ext ext) (g1.trans (g2.trans ext.g)) dp3
theorem t_un {r : V → Hp → VK → Prop} {g : PyData → Option PyData} (hr : RD1 X.K r g) {F : Rho → Res PyData} : ∀ σ H Q, tD (km X) B W (unF g F) σ H Q → tUn r (tD (km X) B W F) σ H Q := by
  rintro σ H Q ⟨G, ρ, E, S⟩
  refine ⟨G, ρ, E, (Sat.bind S).imp fun d ρ1 s1 v G1 H1 E1 g1 dp1 => ?_⟩
  obtain ⟨z, hz, q⟩ := sat_opt s1
  exact hr G1 H1 v d z Q E1.base.gh dp1 hz fun x G3 H3 ext dp3 => q x G3 H3 (E1.ext ext) (g1.trans ext.g) dp3
theorem t_app {r : List V → Hp → VK → Prop} {g : List PyData → Option PyData} (hr : RDs X.K r g) {A : Rho → Res (List PyData)} : ∀ σ H Q, tD (km X) B W (appF g A) σ H Q → tCB r (tDA (km X) B W A) σ H Q := by
  rintro σ H Q ⟨G, ρ, E, S⟩
  refine ⟨G, ρ, E, (Sat.bind S).imp fun ds ρ1 s1 vs G1 H1 E1 g1 dp1 => ?_⟩
  obtain ⟨z, hz, q⟩ := sat_opt s1
  exact hr G1 H1 vs ds z Q E1.base.gh dp1 hz fun x G3 H3 ext dp3 => q x G3 H3 (E1.ext ext) (g1.trans ext.g) dp3
theorem t_test {F : Rho → Res PyData} : ∀ σ H Q, tDT (km X) B W (testF F) σ H Q → tD (km X) B W F σ H fun x H' => ∃ k, x = .bl k ∧ Q k H' := by
  rintro σ H Q ⟨G, ρ, E, S⟩
  refine ⟨G, ρ, E, (Sat.bind S).imp fun d ρ1 s1 v G1 H1 E1 g1 dp1 => ?_⟩
  obtain ⟨b, hb, q⟩ := sat_opt s1
  cases d <;> first | (cases hb; done) | skip
  cases hb
  cases dp1
  exact ⟨_, rfl, q _ _ E1 g1⟩
variable {a b : Expr} {pos : Pos} {F1 F2 : Rho → Res PyData}
theorem pd_var (i : Nat) {x : Str} {pos : Pos} (hN : X.N[i]? = some x := by rfl) (hv : Vis X.env.scope x := by first | exact Or.inl rfl | exact Or.inr (Or.inl rfl) | exact Or.inr (Or.inr rfl)) (hd : (x == ("__debug__" : Str)) = false := by decide)
    (hcd : (x == ("__classdict__" : Str)) = false := by decide) : PE X (.Name x pos) (tD (km X) B W (varF i)) := by
  refine (pe_var hN hv hd hcd).of ?_
  rintro σ H Q ⟨G, ρ, E, S⟩
  unfold varF at S
  cases e : ρ[i]? with
  | none => rw [e] at S; exact S.elim
  | some z =>
    rw [e] at S
    cases z with
    | un => exact S.elim
    | d x =>
      have q := E.ent i _ e
      generalize hs : σ[i]? = o at q
      cases q with
      | d dp => exact ⟨_, hs, S _ G H E (Same.refl _) dp⟩
    | dct _ => exact S.elim
    | rdd _ => exact S.elim
    | exv => exact S.elim
    | ndc _ => exact S.elim
    | own xs =>
      obtain ⟨p, vs, h1, h2, h3, h4, h5, h6, h7⟩ := E.freeze e
      exact ⟨_, h1, S _ _ H h7 h5 h6⟩
theorem t_c {v : V} {d : PyData} (h : ∀ G : Hp, Dq X.K G v d) : ∀ σ H Q, tD (km X) B W (cF d) σ H Q → tC v σ H Q := by
  rintro σ H Q ⟨G, ρ, E, S⟩
  exact S v G H E (Same.refl _) (h G)
theorem pd_int {i j pos} : PE X (.Constant (.int i) j pos) (tD (km X) B W (cF (.int i))) := pe_int.of (t_c fun _ => .int i)
theorem pd_bl {b j pos} : PE X (.Constant (.bool b) j pos) (tD (km X) B W (cF (.bool b))) := pe_bl.of (t_c fun _ => .bl b)
theorem pd_non {j pos} : PE X (.Constant .none j pos) (tD (km X) B W (cF .none)) := pe_non.of (t_c fun _ => .non)
theorem pd_str {x j pos} : PE X (.Constant (.str x) j pos) (tD (km X) B W (cF (.str x))) := pe_str.of (t_c fun _ => .str x)
theorem pd_op {op : Operator} {r : R2} {g : PyData → PyData → Option PyData} (ho : OpR X (binaryOp op) r) (hr : RD X.K r g) (ha : PE X a (tD (km X) B W F1)) (hb : PE X b (tD (km X) B W F2)) : PE X (.BinOp a op b pos) (tD (km X) B W (binF g F1 F2)) :=
  (pe_op ho ha hb).of (t_bin hr)
theorem of_if {α : Type} {c : Prop} [Decidable c] {a z : α} (h : (if c then some a else none) = some z) : c ∧ a = z := by
  by_cases hc : c
  · rw [if_pos hc] at h; exact ⟨hc, Option.some.inj h⟩
  · rw [if_neg hc] at h; cases h
def rCatS (K : PySem.W.Frag) : R2 := fun x y H Q => ∃ l b xs zs, x = .ref l ∧ y = .ref b ∧ SqL K H l xs ∧ SqL K H b zs ∧ xs.length + zs.length ≤ sizeLine ∧ ∀ p, H p = none → Q (.ref p) (upd H p (.lst (xs ++ zs)))
theorem op_catS : OpR X (binaryOp .Add) (rCatS X.K) := by
  intro pins s σ H x y v u Q I rx ry h
  obtain ⟨l, b, xs, zs, rfl, rfl, hH, hB, hz, q⟩ := h
  cases rx
  cases ry
  obtain ⟨its, r, ⟨⟨cls, dd, data, sl⟩, n, ho, hc, hd, hs⟩, z1⟩ := I.list hH
  obtain ⟨its2, r2, ⟨⟨cls2, dd2, data2, sl2⟩, n2, ho2, hc2, hd2, hs2⟩, z2⟩ := I.list hB
  simp only at hc hd hs hc2 hd2 hs2
  subst hc hd hs hc2 hd2 hs2
  have l1 := r.length
  have l2 := r2.length
  refine concat_meets ⟨_, ho, rfl⟩ ⟨_, ho2, rfl⟩ noFill_list_add seq_list_add PySem.F.slot_list_add PySem.F.entry_list_add (PySem.F.args_list_add_2 _ _) (list_addW l b its.toArray its2.toArray n n2 none none sl sl2 (by simp only [List.size_toArray]; omega)) ⟨ho, ho2, ?_⟩
  have ea : its.toArray ++ its2.toArray = (its ++ its2).toArray := by simp
  rw [ea]
  exact ⟨.ref _, _, I.lnew (t' := s.toks) (r.append r2) (by rw [List.length_append]; omega), rfl, q _ I.fresh⟩
def rCatN (K : PySem.W.Frag) : R2 := fun x y H Q => ∃ a b xs ys, x = .ref a ∧ y = .ref b ∧ SqT K H a xs ∧ SqT K H b ys ∧ xs.length + ys.length ≤ sizeLine ∧
  (xs = [] → Q (.ref b) H) ∧ (xs ≠ [] → ys = [] → Q (.ref a) H) ∧ (xs ≠ [] → ys ≠ [] → ∀ (p : Addr) (o : Obj), H p = none → o.dict = none → Q (.ref p) (upd H p (.frz o (.tup (xs ++ ys)))))
theorem op_catN : OpR X (binaryOp .Add) (rCatN X.K) := by
  intro pins s σ H x y v u Q I rx ry h
  obtain ⟨a, b, xs, ys, rfl, rfl, ha, hb, hz, q0, q1, q2⟩ := h
  by_cases hx : xs = []
  · exact op_catA pins s σ H _ _ v u Q I rx ry ⟨a, b, xs, ys, rfl, rfl, ha, hb, hz, q0, q1, fun z => absurd hx z⟩
  · by_cases hy : ys = []
    · exact op_catA pins s σ H _ _ v u Q I rx ry ⟨a, b, xs, ys, rfl, rfl, ha, hb, hz, q0, q1, fun _ z => absurd hy z⟩
    · cases rx
      cases ry
      obtain ⟨its, r1, p1, _⟩ := I.tuple ha
      obtain ⟨its2, r2, p2, _⟩ := I.tuple hb
      refine HT.cat_tup p1 p2 (fun z => hx (r1.nil_iff.mp z)) (fun z => absurd (r2.nil_iff.mp z) hy) (fun z => ?_) (by rw [← r1.length, ← r2.length]; exact hz)
      exact ⟨.ref s.heap.objs.size, _, I.laid (t' := s.toks) (o := .frz _ (.tup (xs ++ ys))) (fun b ob q => Heap.get?_push_of_some _ q) (Nat.le_refl _) ⟨Heap.get?_push_size _ rfl, by rw [List.length_append]; exact hz, _, r1.append r2, IsTup.new _ _⟩, rfl, q2 hx hy _ _ (I.hok.fresh (Nat.le_refl _)) rfl⟩
theorem pd_add (ha : PE X a (tD (km X) B W F1)) (hb : PE X b (tD (km X) B W F2)) : PE X (.BinOp a .Add b pos) (tD (km X) B W (binF dAdd F1 F2)) := by
  refine pd_op (op_add.or (op_add_str.or (op_catN.or op_catS))) ?_ ha hb
  intro G H x y d e z Q gh hx hy hz q
  cases d <;> cases e <;> first | (cases hz; done) | skip
  · cases hx; cases hy; cases hz
    exact .inl ⟨_, _, rfl, rfl, q _ _ _ (Ext.refl gh) (.int _)⟩
  · cases hx; cases hy
    obtain ⟨hl, rfl⟩ := of_if hz
    exact .inr (.inl ⟨_, _, rfl, rfl, hl, q _ _ _ (Ext.refl gh) (.str _)⟩)
  · rename_i xs ys
    obtain ⟨hl, rfl⟩ := of_if hz
    cases hx with
    | lst h1 h2 =>
      cases hy with
      | lst h3 h4 =>
        have l1 := h2.len
        have l2 := h4.len
        exact .inr (.inr (.inr ⟨_, _, _, _, rfl, rfl, gh.seq h1, gh.seq h3, by omega, fun p hp => q _ _ _ (Ext.new gh hp) (.lst (SqL.of upd_same) (dpAll_same (Ext.new gh hp).g _ _ (h2.append h4)))⟩))
  · rename_i xs ys
    obtain ⟨hl, rfl⟩ := of_if hz
    cases hx with
    | tup h1 h2 =>
      cases hy with
      | tup h3 h4 =>
        have l1 := h2.len
        have l2 := h4.len
        refine .inr (.inr (.inl ⟨_, _, _, _, rfl, rfl, seqT_same gh h1, seqT_same gh h3, by omega, fun e => ?_, fun _ e => ?_, fun _ _ p o hp ho => ?_⟩))
        · subst e
          cases h2
          exact q _ _ _ (Ext.refl gh) (.tup h3 h4)
        · subst e
          cases h4
          rw [List.append_nil] at q
          exact q _ _ _ (Ext.refl gh) (.tup h1 h2)
        · exact q _ _ _ (Ext.new gh hp) (.tup (SqN.of ho upd_same) (dpAll_same (Ext.new gh hp).g _ _ (h2.append h4)))
theorem pd_sub (ha : PE X a (tD (km X) B W F1)) (hb : PE X b (tD (km X) B W F2)) : PE X (.BinOp a .Sub b pos) (tD (km X) B W (binF dSub F1 F2)) := by
  refine pd_op op_sub ?_ ha hb
  intro G H x y d e z Q gh hx hy hz q
  cases d <;> cases e <;> first | (cases hz; done) | skip
  cases hx; cases hy; cases hz
  exact ⟨_, _, rfl, rfl, q _ _ _ (Ext.refl gh) (.int _)⟩
theorem pd_mul (ha : PE X a (tD (km X) B W F1)) (hb : PE X b (tD (km X) B W F2)) : PE X (.BinOp a .Mult b pos) (tD (km X) B W (binF dMul F1 F2)) := by
  refine pd_op op_mulW ?_ ha hb
  intro G H x y d e z Q gh hx hy hz q
  cases d <;> cases e <;> first | (cases hz; done) | skip
  cases hx; cases hy
  obtain ⟨hl, rfl⟩ := of_iteC hz
  exact ⟨_, _, rfl, rfl, hl, q _ _ _ (Ext.refl gh) (.int _)⟩
def CDivD (_ j : Int) : Prop := j ≠ 0 ∧ j.natAbs.log2 < 9000
theorem op_fdivD : OpR X (binaryOp .FloorDiv) (rI CDivD fun i j => .int (i.fdiv j)) := opI fun i j _ _ _ _ _ hc q => floordiv_int hc.1 q (.inl (PyProof.noPylong_of_log2 hc.2))
theorem pd_div (ha : PE X a (tD (km X) B W F1)) (hb : PE X b (tD (km X) B W F2)) : PE X (.BinOp a .FloorDiv b pos) (tD (km X) B W (binF dDiv F1 F2)) := by
  refine pd_op op_fdivD ?_ ha hb
  intro G H x y d e z Q gh hx hy hz q
  cases d <;> cases e <;> first | (cases hz; done) | skip
  cases hx; cases hy
  obtain ⟨hl, rfl⟩ := of_iteC hz
  exact ⟨_, _, rfl, rfl, hl, q _ _ _ (Ext.refl gh) (.int _)⟩
theorem pd_mod (ha : PE X a (tD (km X) B W F1)) (hb : PE X b (tD (km X) B W F2)) : PE X (.BinOp a .Mod b pos) (tD (km X) B W (binF dMod F1 F2)) := by
  refine pd_op op_modN ?_ ha hb
  intro G H x y d e z Q gh hx hy hz q
  cases d <;> cases e <;> first | (cases hz; done) | skip
  cases hx; cases hy
  obtain ⟨hl, rfl⟩ := of_if hz
  exact ⟨_, _, rfl, rfl, hl, q _ _ _ (Ext.refl gh) (.int _)⟩
theorem pd_pow (ha : PE X a (tD (km X) B W F1)) (hb : PE X b (tD (km X) B W F2)) : PE X (.BinOp a .Pow b pos) (tD (km X) B W (binF dPow F1 F2)) := by
  refine pd_op op_pow ?_ ha hb
  intro G H x y d e z Q gh hx hy hz q
  cases d <;> cases e <;> first | (cases hz; done) | skip
  cases hx; cases hy
  obtain ⟨hl, rfl⟩ := of_iteC hz
  exact ⟨_, _, rfl, rfl, hl, q _ _ _ (Ext.refl gh) (.int _)⟩
theorem pd_neg (ha : PE X a (tD (km X) B W F1)) : PE X (.UnaryOp .USub a pos) (tD (km X) B W (unF dNeg F1)) := by
  refine (pe_un un_neg ha).of (t_un ?_)
  intro G H x d z Q gh hx hz q
  cases d <;> first | (cases hz; done) | skip
  cases hx; cases hz
  exact ⟨_, rfl, q _ _ _ (Ext.refl gh) (.int _)⟩
theorem pd_cmp {op : CmpOp} {r : R2} {g : PyData → PyData → Option PyData} (ho : OpR X (compareOp op) r) (hr : RD X.K r g) (hm : behindInMarks op b = false) (ha : PE X a (tD (km X) B W F1)) (hb : PE X b (tD (km X) B W F2)) : PE X (.Compare a [op] [b] pos) (tD (km X) B W (binF g F1 F2)) :=
  (pe_cmpR ho ha hb hm).of (t_bin hr)
theorem pt_cmp' {op : CmpOp} {r : R2} {g : PyData → PyData → Option PyData} (ho : OpR X (compareOp op) r) (hr : RD X.K r g) (hm : behindInMarks op b = false) (ha : PE X a (tD (km X) B W F1)) (hb : PE X b (tD (km X) B W F2)) : PT X (.Compare a [op] [b] pos) (tDT (km X) B W (testF (binF g F1 F2))) :=
  (pt_cmpR ho ha hb hm).of fun σ H Q h => t_bin hr σ H _ (t_test σ H Q h)
theorem rd_lt : RD X.K (fun x y H Q => rI0 (fun i j => .bl (decide (i < j))) x y H Q ∨ ∃ i j, x = .str i ∧ y = .str j ∧ Q (.bl (decide (i.cps.toList < j.cps.toList))) H) dLt := by
  intro G H x y d e z Q gh hx hy hz q
  cases d <;> cases e <;> first | (cases hz; done) | skip
  · cases hx; cases hy; cases hz
    exact .inl ⟨_, _, rfl, rfl, q _ _ _ (Ext.refl gh) (.bl _)⟩
  · cases hx; cases hy; cases hz
    exact .inr ⟨_, _, rfl, rfl, q _ _ _ (Ext.refl gh) (.bl _)⟩
theorem rd_gt : RD X.K (rI0 fun i j => .bl (decide (j < i))) dGt := by
  intro G H x y d e z Q gh hx hy hz q
  cases d <;> cases e <;> first | (cases hz; done) | skip
  cases hx; cases hy; cases hz
  exact ⟨_, _, rfl, rfl, q _ _ _ (Ext.refl gh) (.bl _)⟩
theorem rd_ge : RD X.K (rI0 fun i j => .bl (decide (j ≤ i))) dGe := by
  intro G H x y d e z Q gh hx hy hz q
  cases d <;> cases e <;> first | (cases hz; done) | skip
  cases hx; cases hy; cases hz
  exact ⟨_, _, rfl, rfl, q _ _ _ (Ext.refl gh) (.bl _)⟩
theorem rd_eq : RD X.K (rEqD X.K) dEq := by
  intro G H x y d e z Q gh hx hy hz q
  obtain ⟨⟨h1, h2⟩, rfl⟩ := of_if hz
  exact ⟨d, e, (dp_same gh _ _ hx).p, (dp_same gh _ _ hy).p, h1, h2, q _ _ _ (Ext.refl gh) (.bl _)⟩
theorem rd_ne : RD X.K (rNeD X.K) dNe := by
  intro G H x y d e z Q gh hx hy hz q
  obtain ⟨⟨h1, h2⟩, rfl⟩ := of_if hz
  exact ⟨d, e, (dp_same gh _ _ hx).p, (dp_same gh _ _ hy).p, h1, h2, q _ _ _ (Ext.refl gh) (.bl _)⟩
theorem dp_none {K : PySem.W.Frag} {G : Hp} {x : V} {d : PyData} (h : Dq K G x d) : decide (x = .non) = isNone d := by
  cases h <;> rfl
def dIsN2 (d e : PyData) : Option PyData := match e with
  | .none => dIsN d
  | _ => none
def dNotN2 (d e : PyData) : Option PyData := match e with
  | .none => dNotN d
  | _ => none
theorem rd_isN : RD X.K (fun x y H Q => y = .non ∧ Q (.bl (decide (x = .non))) H) dIsN2 := by
  intro G H x y d e z Q gh hx hy hz q
  cases e <;> first | (cases hz; done) | skip
  cases hy; cases hz
  rw [dp_none hx]
  exact ⟨rfl, q _ _ _ (Ext.refl gh) (.bl _)⟩
theorem rd_notN : RD X.K (fun x y H Q => y = .non ∧ Q (.bl (!decide (x = .non))) H) dNotN2 := by
  intro G H x y d e z Q gh hx hy hz q
  cases e <;> first | (cases hz; done) | skip
  cases hy; cases hz
  rw [dp_none hx]
  exact ⟨rfl, q _ _ _ (Ext.refl gh) (.bl _)⟩
variable {T1 T2 : Rho → Res Bool} {rest : List Expr}
theorem t_and : ∀ σ H Q, tDT (km X) B W (andT T1 T2) σ H Q → tAnd (tDT (km X) B W T1) (tDT (km X) B W T2) σ H Q := by
  rintro σ H Q ⟨G, ρ, E, S⟩
  refine ⟨G, ρ, E, (Sat.bind S).imp fun c ρ1 s1 G1 H1 E1 g1 => ?_⟩
  cases c with
  | true =>
    rw [if_pos rfl] at s1 ⊢
    exact ⟨G1, ρ1, E1, (s1.up g1).imp fun c2 ρ2 s2 G2 H2 E2 g2 => s2 G2 H2 E2 (g1.trans g2)⟩
  | false =>
    rw [if_neg (by decide)] at s1 ⊢
    exact s1 G1 H1 E1 g1
theorem t_or : ∀ σ H Q, tDT (km X) B W (orT T1 T2) σ H Q → tOr (tDT (km X) B W T1) (tDT (km X) B W T2) σ H Q := by
  rintro σ H Q ⟨G, ρ, E, S⟩
  refine ⟨G, ρ, E, (Sat.bind S).imp fun c ρ1 s1 G1 H1 E1 g1 => ?_⟩
  cases c with
  | true =>
    rw [if_pos rfl] at s1 ⊢
    exact s1 G1 H1 E1 g1
  | false =>
    rw [if_neg (by decide)] at s1 ⊢
    exact ⟨G1, ρ1, E1, (s1.up g1).imp fun c2 ρ2 s2 G2 H2 E2 g2 => s2 G2 H2 E2 (g1.trans g2)⟩
theorem pw_andD (ha : PT X a (tDT (km X) B W T1)) (hb : PW X (.BoolOp .And (b :: rest) pos) (tDT (km X) B W T2)) : PW X (.BoolOp .And (a :: b :: rest) pos) (tDT (km X) B W (andT T1 T2)) :=
  ⟨fun wh pins s σ H Q I h => (pw_and ha hb).run wh pins s σ H Q I (t_and σ H Q h)⟩
theorem pw_orD (ha : PT X a (tDT (km X) B W T1)) (hb : PW X (.BoolOp .Or (b :: rest) pos) (tDT (km X) B W T2)) : PW X (.BoolOp .Or (a :: b :: rest) pos) (tDT (km X) B W (orT T1 T2)) :=
  ⟨fun wh pins s σ H Q I h => (pw_or ha hb).run wh pins s σ H Q I (t_or σ H Q h)⟩
theorem pt_notD (ha : PT X a (tDT (km X) B W T1)) : PT X (.UnaryOp .Not a pos) (tDT (km X) B W (notT T1)) := by
  refine (pt_not ha).of ?_
  rintro σ H Q ⟨G, ρ, E, S⟩
  exact ⟨G, ρ, E, (Sat.bind S).imp fun c ρ1 s1 G1 H1 E1 g1 => s1 G1 H1 E1 g1⟩
theorem t_boolv {F : Rho → Res PyData} {R : Bool → Rho → Prop} {G0 : Hp} {σ : L2.St} {ρ : Rho} (S : Sat (km X) B W G0 σ (testF F ρ) R) : Sat (km X) B W G0 σ (F ρ) fun d ρ1 => ∃ b, d = .bool b ∧ R b ρ1 := (Sat.bind S).imp fun d ρ1 s1 => by
  obtain ⟨b, hb, q⟩ := sat_opt s1
  cases d <;> first | (cases hb; done) | skip
  cases hb
  exact ⟨_, rfl, q⟩
theorem pd_and (ha : PE X a (tD (km X) B W F1)) (hb : PE X (.BoolOp .And (b :: rest) pos) (tD (km X) B W F2)) : PE X (.BoolOp .And (a :: b :: rest) pos) (tD (km X) B W (andV F1 F2)) := by
  refine (pe_and ha hb).of ?_
  rintro σ H Q ⟨G, ρ, E, S⟩
  refine ⟨G, ρ, E, (t_boolv (Sat.bind S)).imp fun d ρ1 s1 v G1 H1 E1 g1 dp1 => ?_⟩
  obtain ⟨c, rfl, s1⟩ := s1
  cases dp1
  refine ⟨c, rfl, ?_⟩
  cases c with
  | true =>
    rw [if_pos rfl] at s1 ⊢
    exact ⟨G1, ρ1, E1, (s1.up g1).imp fun c2 ρ2 s2 v G2 H2 E2 g2 => s2 v G2 H2 E2 (g1.trans g2)⟩
  | false =>
    rw [if_neg (by decide)] at s1 ⊢
    exact s1 _ G1 H1 E1 g1 (.bl _)
theorem pd_or (ha : PE X a (tD (km X) B W F1)) (hb : PE X (.BoolOp .Or (b :: rest) pos) (tD (km X) B W F2)) : PE X (.BoolOp .Or (a :: b :: rest) pos) (tD (km X) B W (orV F1 F2)) := by
  refine (pe_or ha hb).of ?_
  rintro σ H Q ⟨G, ρ, E, S⟩
  refine ⟨G, ρ, E, (t_boolv (Sat.bind S)).imp fun d ρ1 s1 v G1 H1 E1 g1 dp1 => ?_⟩
  obtain ⟨c, rfl, s1⟩ := s1
  cases dp1
  refine ⟨c, rfl, ?_⟩
  cases c with
  | true =>
    rw [if_pos rfl] at s1 ⊢
    exact s1 _ G1 H1 E1 g1 (.bl _)
  | false =>
    rw [if_neg (by decide)] at s1 ⊢
    exact ⟨G1, ρ1, E1, (s1.up g1).imp fun c2 ρ2 s2 v G2 H2 E2 g2 => s2 v G2 H2 E2 (g1.trans g2)⟩
theorem pd_ifExp {c : Expr} (hc : PT X c (tDT (km X) B W T1)) (ha : PE X a (tD (km X) B W F1)) (hb : PE X b (tD (km X) B W F2)) : PE X (.IfExp c a b pos) (tD (km X) B W (ifF T1 F1 F2)) := by
  refine (pe_ifExp hc ha hb).of ?_
  rintro σ H Q ⟨G, ρ, E, S⟩
  refine ⟨G, ρ, E, (Sat.bind S).imp fun c ρ1 s1 G1 H1 E1 g1 => ?_⟩
  cases c with
  | true =>
    rw [if_pos rfl] at s1 ⊢
    exact ⟨G1, ρ1, E1, (s1.up g1).imp fun c2 ρ2 s2 v G2 H2 E2 g2 => s2 v G2 H2 E2 (g1.trans g2)⟩
  | false =>
    rw [if_neg (by decide)] at s1 ⊢
    exact ⟨G1, ρ1, E1, (s1.up g1).imp fun c2 ρ2 s2 v G2 H2 E2 g2 => s2 v G2 H2 E2 (g1.trans g2)⟩
variable {e : Expr} {es : List Expr} {A : Rho → Res (List PyData)}
theorem pda_nil : PA X [] (tDA (km X) B W nilA) := by
  refine pa_nil.of ?_
  rintro σ H Q ⟨G, ρ, E, S⟩
  exact S [] G H E (Same.refl _) .nil
theorem pda_cons (ha : PE X e (tD (km X) B W F1)) (hr : PA X es (tDA (km X) B W A)) (hs : starEach (e :: es) X.env = (false, eval e X.env) :: starEach es X.env := by rfl) : PA X (e :: es) (tDA (km X) B W (consA F1 A)) := by
  refine (pa_cons ha hr hs).of ?_
  rintro σ H Q ⟨G, ρ, E, S⟩
  refine ⟨G, ρ, E, (Sat.bind S).imp fun d ρ1 s1 v G1 H1 E1 g1 dp1 => ⟨G1, ρ1, E1, ((Sat.bind s1).up g1).imp fun ds ρ2 s2 vs G2 H2 E2 g2 dp2 => ?_⟩⟩
  exact s2 (v :: vs) G2 H2 E2 (g1.trans g2) (.cons (dp_same g2 _ _ dp1) dp2)
def tTupN (t : TA) : TE := fun σ H Q => t σ H fun xs H1 => xs.length ≤ sizeLine ∧ ∀ (p : Addr) (o : Obj), H1 p = none → o.dict = none → Q (.ref p) (upd H1 p (.frz o (.tup xs)))
theorem pe_tupN {k : Nat} {t : TA} (h : PA X es t) : PE X (.Tuple es k pos) (tTupN t) := by
  refine ⟨fun pins s σ H Q I hq => ?_⟩
  refine wpAny_Tuple_spliced (thn (h.run pos pins s σ H _ I hq) fun us s1 ⟨xs, H1, I1, r, z, q⟩ => ⟨by rw [← r.length]; exact z, ?_⟩)
  have hf : H1 s1.heap.objs.size = none := I1.hok.fresh (Nat.le_refl _)
  exact ⟨.ref s1.heap.objs.size, _, I1.laid (t' := s1.toks) (o := .frz _ (.tup xs)) (fun b u e => Heap.get?_push_of_some _ e) (Nat.le_refl _) ⟨Heap.get?_push_size _ rfl, z, us, r, ⟨_, Heap.get?_push_size _ rfl, rfl, _, rfl⟩⟩, rfl, q _ _ hf rfl⟩
theorem pd_tup {k : Nat} (h : PA X es (tDA (km X) B W A)) : PE X (.Tuple es k pos) (tD (km X) B W (tupF A)) := by
  refine (pe_tupN h).of ?_
  rintro σ H Q ⟨G, ρ, E, S⟩
  refine ⟨G, ρ, E, (Sat.bind S).imp fun ds ρ1 s1 vs G1 H1 E1 g1 dp1 => ?_⟩
  by_cases hl : ds.length ≤ sizeLine
  · rw [if_pos hl] at s1
    refine ⟨by rw [dp1.len]; exact hl, fun p o hp ho => ?_⟩
    have ex := Ext.new (o := .frz o (.tup vs)) E1.base.gh hp
    exact s1 _ _ _ (E1.ext ex) (g1.trans ex.g) (.tup (SqN.of ho upd_same) (dpAll_same ex.g _ _ dp1))
  · rw [if_neg hl] at s1
    exact s1.elim
theorem pd_lst (h : PA X es (tDA (km X) B W A)) : PE X (.List es pos) (tD (km X) B W (lstF A)) := by
  refine (pe_lst h).of ?_
  rintro σ H Q ⟨G, ρ, E, S⟩
  refine ⟨G, ρ, E, (Sat.bind S).imp fun ds ρ1 s1 vs G1 H1 E1 g1 dp1 => ?_⟩
  by_cases hl : ds.length ≤ sizeLine
  · rw [if_pos hl] at s1
    refine ⟨by rw [dp1.len]; exact hl, fun p hp => ?_⟩
    have ex := Ext.new (o := .lst vs) E1.base.gh hp
    exact s1 _ _ _ (E1.ext ex) (g1.trans ex.g) (.lst (SqL.of upd_same) (dpAll_same ex.g _ _ dp1))
  · rw [if_neg hl] at s1
    exact s1.elim
theorem of_ifo {α : Type} {c : Prop} [Decidable c] {o : Option α} {z : α} (h : (if c then o else none) = some z) : c ∧ o = some z := by
  by_cases hc : c
  · rw [if_pos hc] at h; exact ⟨hc, h⟩
  · rw [if_neg hc] at h; cases h
theorem dpAll_ix {K : PySem.W.Frag} {G : Hp} {vs : List V} {ds : List PyData} {i : Int} {z : PyData} (h : DqAll K G vs ds) (e : atI ds i = some z) : ∃ v, atI vs i = some v ∧ Dq K G v z := by
  unfold atI at e ⊢
  rw [h.len]
  cases q : ixN ds.length i with
  | none => rw [q] at e; cases e
  | some j =>
    rw [q] at e
    exact h.get e
theorem rd_ix : RD X.K (rIx X.K) dIx := by
  intro G H x y d e z Q gh hx hy hz q
  cases e <;> first | (cases d <;> cases hz; done) | skip
  cases hy
  cases d <;> first | (cases hz; done) | skip
  · cases hx
    rename_i i zs
    obtain ⟨hl, hz⟩ := of_ifo hz
    cases he : atI zs.cps.toList i with
    | none => rw [he] at hz; cases hz
    | some c =>
      rw [he] at hz
      cases hz
      exact .inr (.inr ⟨_, _, c, rfl, rfl, hl, he, q _ _ _ (Ext.refl gh) (.str _)⟩)
  · cases hx with
    | lst h1 h2 =>
      obtain ⟨v, hv, dp⟩ := dpAll_ix h2 (show atI _ _ = some z from hz)
      exact .inl ⟨_, _, _, v, rfl, rfl, gh.seq h1, hv, q _ _ _ (Ext.refl gh) dp⟩
  · cases hx with
    | tup h1 h2 =>
      obtain ⟨v, hv, dp⟩ := dpAll_ix h2 (show atI _ _ = some z from hz)
      exact .inr (.inl ⟨_, _, _, v, rfl, rfl, seqT_same gh h1, hv, q _ _ _ (Ext.refl gh) dp⟩)
theorem pd_ix (ha : PE X a (tD (km X) B W F1)) (hb : PE X b (tD (km X) B W F2)) (hs : PlainIx b := by exact fun _ _ => rfl) : PE X (.Subscript a b pos) (tD (km X) B W (binF dIx F1 F2)) :=
  (pe_ix ix_seq ha hb hs).of (t_bin rd_ix)
def app1 (g : PyData → Option PyData) : List PyData → Option PyData
  | [d] => g d
  | _ => none
def app2 (g : PyData → PyData → Option PyData) : List PyData → Option PyData
  | [d, e] => g d e
  | _ => none
theorem rds1 {r : List V → Hp → VK → Prop} {g : PyData → Option PyData} (h : ∀ (G H : Hp) (x : V) (d z : PyData) (Q : VK), Same G H → Dq X.K G x d → g d = some z → (∀ v G' H', Ext G H G' H' → Dq X.K G' v z → Q v H') → r [x] H Q) : RDs X.K r (app1 g) := by
  intro G H xs ds z Q gh hx hz q
  match ds, hz with
  | [d], hz =>
    cases hx with
    | cons h1 h2 =>
      cases h2
      exact h G H _ d z Q gh h1 hz q
theorem rds2 {r : List V → Hp → VK → Prop} {g : PyData → PyData → Option PyData} (h : ∀ (G H : Hp) (x y : V) (d e z : PyData) (Q : VK), Same G H → Dq X.K G x d → Dq X.K G y e → g d e = some z → (∀ v G' H', Ext G H G' H' → Dq X.K G' v z → Q v H') → r [x, y] H Q) : RDs X.K r (app2 g) := by
  intro G H xs ds z Q gh hx hz q
  match ds, hz with
  | [d, e], hz =>
    cases hx with
    | cons h1 h2 =>
      cases h2 with
      | cons h2 h3 =>
        cases h3
        exact h G H _ _ d e z Q gh h1 h2 hz q
def bLen : PyData → Option PyData
  | .list xs => some (.int xs.length)
  | .tuple xs => some (.int xs.length)
  | .str x => if x.length ≤ sizeLine then some (.int x.length) else none
  | _ => none
def bMax : PyData → PyData → Option PyData
  | .int i, .int j => some (.int (if j > i then j else i))
  | _, _ => none
def bMin : PyData → PyData → Option PyData
  | .int i, .int j => some (.int (if j < i then j else i))
  | _, _ => none
def bInt : PyData → Option PyData
  | .int i => some (.int i)
  | .bool k => some (.int (if k then 1 else 0))
  | .str a => if a.length ≤ 640 then (PySem.intText? a).map PyData.int else none
  | _ => none
def bGcd : PyData → PyData → Option PyData
  | .int a, .int b => some (.int ((Nat.gcd a.natAbs b.natAbs : Nat) : Int))
  | _, _ => none
theorem rd_len : RDs X.K (fun xs H Q => ∃ x n, xs = [x] ∧ LenV X.K x H n ∧ Q (.int n) H) (app1 bLen) := by
  refine rds1 fun G H x d z Q gh h1 hz q => ?_
  cases d <;> first | (cases hz; done) | skip
  · cases h1
    obtain ⟨hl, rfl⟩ := of_if hz
    exact ⟨_, _, rfl, ⟨hl, rfl⟩, q _ _ _ (Ext.refl gh) (.int _)⟩
  · cases hz
    cases h1 with
    | lst a1 a2 => exact ⟨_, _, rfl, .inl ⟨_, gh.seq a1, rfl⟩, by rw [a2.len]; exact q _ _ _ (Ext.refl gh) (.int _)⟩
  · cases hz
    cases h1 with
    | tup a1 a2 => exact ⟨_, _, rfl, .inr ⟨_, seqT_same gh a1, rfl⟩, by rw [a2.len]; exact q _ _ _ (Ext.refl gh) (.int _)⟩
theorem rd_max : RDs X.K (fun xs H Q => ∃ i j, xs = [.int i, .int j] ∧ Q (.int (if j > i then j else i)) H) (app2 bMax) := by
  refine rds2 fun G H x y d e z Q gh h1 h2 hz q => ?_
  cases d <;> cases e <;> first | (cases hz; done) | skip
  cases h1; cases h2; cases hz
  exact ⟨_, _, rfl, q _ _ _ (Ext.refl gh) (.int _)⟩
theorem rd_min : RDs X.K (fun xs H Q => ∃ i j, xs = [.int i, .int j] ∧ Q (.int (if j < i then j else i)) H) (app2 bMin) := by
  refine rds2 fun G H x y d e z Q gh h1 h2 hz q => ?_
  cases d <;> cases e <;> first | (cases hz; done) | skip
  cases h1; cases h2; cases hz
  exact ⟨_, _, rfl, q _ _ _ (Ext.refl gh) (.int _)⟩
theorem callR_or {v : Value} {r r' : List V → Hp → VK → Prop} (h : CallR X v r) (h' : CallR X v r') : CallR X v (fun xs H Q => r xs H Q ∨ r' xs H Q) := by
  intro pins s σ H xs us Q I rx q
  rcases q with q | q
  · exact h pins s σ H xs us Q I rx q
  · exact h' pins s σ H xs us Q I rx q
theorem rd_int : RDs X.K (fun xs H Q => ((∃ i, xs = [.int i] ∧ Q (.int i) H) ∨ ∃ k, xs = [.bl k] ∧ Q (.int (if k then 1 else 0)) H) ∨ ∃ a n, xs = [.str a] ∧ PySem.intText? a = some n ∧ a.length ≤ 640 ∧ Q (.int n) H) (app1 bInt) := by
  refine rds1 fun G H x d z Q gh h1 hz q => ?_
  cases d <;> first | (cases hz; done) | skip
  · cases h1; cases hz
    exact .inl (.inr ⟨_, rfl, q _ _ _ (Ext.refl gh) (.int _)⟩)
  · cases h1; cases hz
    exact .inl (.inl ⟨_, rfl, q _ _ _ (Ext.refl gh) (.int _)⟩)
  · rename_i a
    obtain ⟨hl, hz⟩ := of_ifo hz
    cases e : PySem.intText? a with
    | none => rw [e] at hz; cases hz
    | some n =>
      rw [e] at hz
      cases hz
      cases h1
      exact .inr ⟨_, n, rfl, e, hl, q _ _ _ (Ext.refl gh) (.int _)⟩
theorem rd_gcd : RDs X.K rGcd (app2 bGcd) := by
  refine rds2 fun G H x y d e z Q gh h1 h2 hz q => ?_
  cases d <;> cases e <;> first | (cases hz; done) | skip
  cases h1; cases h2; cases hz
  exact ⟨_, _, rfl, q _ _ _ (Ext.refl gh) (.int _)⟩
theorem pd_callB {x : Str} {p : Pos} {id : String} {r : List V → Hp → VK → Prop} {g : List PyData → Option PyData} (hc : CallR X (.builtin id) r) (hr : RDs X.K r g) (hm : X.mg x = none) (hv : bootBuiltins x = some (.builtin id)) (ha : PA X (e :: es) (tDA (km X) B W A))
    (hg : Gl X x := by rfl) (hn : x ≠ "__name__" := by decide) (hdb : (x == ("__debug__" : Str)) = false := by decide) (he : starEach (e :: es) X.env = (false, eval e X.env) :: starEach es X.env := by rfl) (hpl : (backTo pos (starEach es X.env)).any (·.1) = false := by rfl) :
    PE X (.Call (.Name x p) (e :: es) [] pos) (tD (km X) B W (appF g A)) := (pe_callB hc hg hm hv ha hn hdb he hpl).of (t_app hr)
theorem pd_callTy {x : Str} {p : Pos} {T : String} {r : List V → Hp → VK → Prop} {g : List PyData → Option PyData} (hc : CallR X (.type T) r) (hr : RDs X.K r g) (hm : X.mg x = none) (hv : bootBuiltins x = some (.type T)) (ha : PA X (e :: es) (tDA (km X) B W A))
    (hg : Gl X x := by rfl) (hn : x ≠ "__name__" := by decide) (hdb : (x == ("__debug__" : Str)) = false := by decide) (he : starEach (e :: es) X.env = (false, eval e X.env) :: starEach es X.env := by rfl) (hpl : (backTo pos (starEach es X.env)).any (·.1) = false := by rfl) :
    PE X (.Call (.Name x p) (e :: es) [] pos) (tD (km X) B W (appF g A)) := (pe_callTy hc hg hm hv ha hn hdb he hpl).of (t_app hr)
theorem pd_callM {x : Str} {p : Pos} {id : String} {r : List V → Hp → VK → Prop} {g : List PyData → Option PyData} (hc : CallR X (.builtin id) r) (hr : RDs X.K r g) (hm : X.mg x = some (.builtin id)) (ha : PA X (e :: es) (tDA (km X) B W A))
    (hg : Gl X x := by rfl) (hdb : (x == ("__debug__" : Str)) = false := by decide) (he : starEach (e :: es) X.env = (false, eval e X.env) :: starEach es X.env := by rfl) (hpl : (backTo pos (starEach es X.env)).any (·.1) = false := by rfl) :
    PE X (.Call (.Name x p) (e :: es) [] pos) (tD (km X) B W (appF g A)) := (pe_callBfun hc hg hm ha hdb he hpl).of (t_app hr)
theorem pd_glob {x : Str} {v : V} {u : Value} {d : PyData} {pos : Pos} (hm : X.mg x = some u) (r : RelV v u) (h : ∀ G : Hp, Dq X.K G v d) (hg : Gl X x := by rfl) (hd : (x == ("__debug__" : Str)) = false := by decide) : PE X (.Name x pos) (tD (km X) B W (cF d)) :=
  (pe_glob hg hm r hd).of (t_c h)
def spD (m : KM) (f : Fn) : Sp := fun vs H Q E => ∃ G ds, Same G H ∧ DqAll m.K G vs ds ∧ match f ds with
  | .ok d => ∀ v G' H', Ext G H G' H' → Dq m.K G' v d → Q v H'
  | .ex e => ∀ cls dd G' H', Ext G H G' H' → ExOk m ⟨G, H, 0⟩ G' H' e cls dd → E cls dd H'
  | .bad => False
theorem pd_call1 {CX : CXT} {k : Nat} {f : Addr} {fd : FuncData} {ps : List Str} {fn : Fn} {x : Str} {p : Pos} (F : FnOk X.prog X.w X.K X.mg X.base CX k f fd ps (spD (km X) fn)) (hr : Room k X.A) (hm : X.mg x = some (.ref f)) (hk : PySem.W.keepIn X.K (.ref f) = true) (hb : Binds X.K fd ps []) (hx : ∀ σ, PassesAt CX X σ (WE W σ))
    (ha : PA X (e :: es) (tDA (km X) B W A)) (hg : Gl X x := by rfl) (hdb : (x == ("__debug__" : Str)) = false := by decide) (he : starEach (e :: es) X.env = (false, eval e X.env) :: starEach es X.env := by rfl) (hpl : (backTo pos (starEach es X.env)).any (·.1) = false := by rfl) : PE X (.Call (.Name x p) (e :: es) [] pos) (tD (km X) B W (callF fn A)) := by
  refine (pe_callS F hr hg hm hk hb hx ha hdb he hpl).of ?_
  rintro σ H Q ⟨G, ρ, E, S⟩
  refine ⟨G, ρ, E, (Sat.bind S).imp fun ds ρ1 s1 vs G1 H1 E1 g1 dp1 => ?_⟩
  refine ⟨G1, ds, E1.base.gh, dp1, ?_⟩
  cases q : fn ds with
  | ok d =>
    rw [q] at s1
    exact fun v G' H' ext dp => s1 v G' H' (E1.ext ext) (g1.trans ext.g) dp
  | ex x =>
    rw [q] at s1
    exact fun cls dd G' H' ext ok => s1 cls dd G' H' (E1.ext ext) (g1.trans ext.g) (ok.up E1.base)
  | bad =>
    rw [q] at s1
    exact s1
end
end DL
namespace DL
open PySem PySem.Spec PyProof.Rows L2
abbrev Tg := PyData → Rho → Option Rho
abbrev Tgs := List PyData → Rho → Option Rho
def nameT (i : Nat) : Tg := fun d ρ => if i < ρ.length then some (ρ.set i (.d d)) else none
def nilTs : Tgs := fun ds ρ => match ds with
  | [] => some ρ
  | _ => none
def consTs (T : Tg) (U : Tgs) : Tgs := fun ds ρ => match ds with
  | d :: r => (T d ρ).bind fun ρ => U r ρ
  | _ => none
def tupT (n : Nat) (U : Tgs) : Tg := fun d ρ => match d with
  | .tuple ds => if ds.length = n then U ds ρ else none
  | _ => none
def gD (m : KM) (B : Bx) (T : Tg) : TG := fun v σ H Q => ∃ G ρ d ρ', DEnv m B G H σ ρ ∧ Dq m.K G v d ∧ T d ρ = some ρ' ∧ ∀ σ', DEnv m B G H σ' ρ' → Q σ' H
def gDs (m : KM) (B : Bx) (U : Tgs) : TGs := fun vs σ H Q => ∃ G ρ ds ρ', DEnv m B G H σ ρ ∧ DqAll m.K G vs ds ∧ U ds ρ = some ρ' ∧ ∀ σ', DEnv m B G H σ' ρ' → Q σ' H
theorem _root_.L2.PG.of {X : L2.Cx} {e : Expr} {t t' : TG} (h : PG X e t) (i : ∀ v σ H Q, t' v σ H Q → t v σ H Q) : PG X e t' := ⟨fun pins s σ H v u Q I r q => h.run pins s σ H v u Q I r (i _ _ _ _ q)⟩
theorem _root_.L2.PGs.of {X : L2.Cx} {e : List Expr} {t t' : TGs} (h : PGs X e t) (i : ∀ v σ H Q, t' v σ H Q → t v σ H Q) : PGs X e t' := ⟨fun pins s σ H v u Q I r q => h.run pins s σ H v u Q I r (i _ _ _ _ q)⟩
section
variable {X : L2.Cx} {B : Bx} {W : WX} {pos : Pos}
theorem pgd_name (i : Nat) {x : Str} (hN : X.N.Nodup) (hi : X.N[i]? = some x := by rfl) (hx : Loc X.env.scope x := by first | exact Or.inl rfl | exact Or.inr rfl) (hf : X.fn x = true ∨ X.env.scope.names.lookup x = some .local := by first | exact .inl rfl | exact .inr rfl | assumption) : PG X (.Name x pos) (gD (km X) B (nameT i)) := by
  refine (pg_name hN hi hx hf).of ?_
  rintro v σ H Q ⟨G, ρ, d, ρ', E, dp, hT, q⟩
  obtain ⟨hl, rfl⟩ := of_if hT
  exact q _ (E.put hl dp)
theorem pgds_nil : PGs X [] (gDs (km X) B nilTs) := by
  refine pgs_nil.of ?_
  rintro vs σ H Q ⟨G, ρ, ds, ρ', E, dp, hT, q⟩
  cases dp with
  | nil => cases hT; exact ⟨rfl, q _ E⟩
  | cons _ _ => cases hT
theorem pgds_cons {e : Expr} {es : List Expr} {T : Tg} {U : Tgs} (h1 : PG X e (gD (km X) B T)) (h2 : PGs X es (gDs (km X) B U))
    (hs : (assignEach (e :: es) X.env).map (·.2) = assign e X.env :: (assignEach es X.env).map (·.2) := by rfl) : PGs X (e :: es) (gDs (km X) B (consTs T U)) := by
  refine (pgs_cons h1 h2 hs).of ?_
  rintro vs σ H Q ⟨G, ρ, ds, ρ', E, dp, hT, q⟩
  cases dp with
  | nil => cases hT
  | cons d1 d2 =>
    rename_i v vs d ds
    cases e1 : T d ρ with
    | none => unfold consTs at hT; dsimp only at hT; rw [e1] at hT; cases hT
    | some ρ1 =>
      unfold consTs at hT; dsimp only at hT; rw [e1] at hT
      exact ⟨v, vs, rfl, G, ρ, d, ρ1, E, d1, e1, fun σ1 E1 => ⟨G, ρ1, ds, ρ', E1, d2, hT, q⟩⟩
theorem pgd_tup {es : List Expr} {k n : Nat} {U : Tgs} (hc : X.calm = true) (h : PGs X es (gDs (km X) B U))
    (hn : (assignEach es X.env).length = n := by rfl) (hst : (assignEach es X.env).findIdx? (·.1) = none := by rfl) : PG X (.Tuple es k pos) (gD (km X) B (tupT n U)) := by
  refine (pg_tup hc h hn hst).of ?_
  rintro v σ H Q ⟨G, ρ, d, ρ', E, dp, hT, q⟩
  cases d <;> first | (cases hT; done) | skip
  obtain ⟨hl, hT⟩ := of_ifo hT
  cases dp with
  | tup h1 h2 => exact ⟨_, _, rfl, seqT_same E.base.gh h1, by rw [h2.len]; exact hl, G, ρ, _, ρ', E, h2, hT, q⟩
def seqS (S1 S2 : Rho → Out) : Rho → Out := fun ρ => (S1 ρ).bind S2
def nxS : Rho → Out := .nx
def optS : Option Rho → Out
  | some ρ => .nx ρ
  | none => .bad
def asgS (F : Rho → Res PyData) (T : Tg) : Rho → Out := fun ρ => (F ρ).out fun d ρ => optS (T d ρ)
def ownS (A : Rho → Res (List PyData)) (i : Nat) : Rho → Out := fun ρ => (A ρ).out fun ds ρ => if ds.length ≤ sizeLine ∧ i < ρ.length then .nx (ρ.set i (.own ds)) else .bad
def parS (A : Rho → Res (List PyData)) (i j : Nat) : Rho → Out := fun ρ => (A ρ).out fun ds ρ => match ds with
  | [d, e] => if i < ρ.length ∧ j < ρ.length then .nx ((ρ.set i (.d d)).set j (.d e)) else .bad
  | _ => .bad
def retS (F : Rho → Res PyData) : Rho → Out := fun ρ => (F ρ).out fun d _ => .rt d
def dropS (F : Rho → Res PyData) : Rho → Out := fun ρ => (F ρ).out fun _ ρ => .nx ρ
def ifS (T : Rho → Res Bool) (S1 S2 : Rho → Out) : Rho → Out := fun ρ => (T ρ).out fun b ρ => if b = true then S1 ρ else S2 ρ
def isOwn : Option Ent → Bool
  | some (.own _) => true
  | _ => false
def appendS (i : Nat) (F : Rho → Res PyData) : Rho → Out := fun ρ => if isOwn ρ[i]? = true then (F ρ).out fun d ρ => match ρ[i]? with
  | some (.own xs) => if xs.length < sizeLine then .nx (ρ.set i (.own (xs ++ [d]))) else .bad
  | _ => .bad
  else .bad
def raiseS (nm : Str) : Rho → Out := fun ρ => .ex ⟨nm, []⟩ ρ
def loopS (T : Tg) (S : Rho → Out) : List PyData → Rho → Out
  | [], ρ => .nx ρ
  | d :: ds, ρ => match T d ρ with
    | none => .bad
    | some ρ1 => match S ρ1 with
      | .nx ρ2 => loopS T S ds ρ2
      | .ct ρ2 => loopS T S ds ρ2
      | .bk ρ2 => .nx ρ2
      | o => o
def forS (F : Rho → Res (List PyData)) (T : Tg) (S : Rho → Out) : Rho → Out := fun ρ => (F ρ).out fun ds ρ => loopS T S ds ρ
def whileN (T : Rho → Res Bool) (S : Rho → Out) : Nat → Rho → Out
  | 0, _ => .bad
  | n + 1, ρ => (T ρ).out fun b ρ => if b = true then (match S ρ with
      | .nx ρ2 => whileN T S n ρ2
      | .ct ρ2 => whileN T S n ρ2
      | .bk ρ2 => .nx ρ2
      | o => o) else .nx ρ
open Classical in
noncomputable def whileS (T : Rho → Res Bool) (S : Rho → Out) : Rho → Out := fun ρ => if h : ∃ n, whileN T S n ρ ≠ .bad then whileN T S (Classical.choose h) ρ else .bad
variable {e : Expr} {es : List Expr} {st : Stmt} {rest : List Stmt} {S1 S2 : Rho → Out} {F : Rho → Res PyData} {A : Rho → Res (List PyData)} {T : Tg} {Tb : Rho → Res Bool} {D : Ends} {σ : L2.St}
theorem SatS.out {α : Type} {r : Res α} {f : α → Rho → Out} {G0 : Hp} (h : SatS (km X) B W G0 D (r.out f)) : Sat (km X) B W G0 σ r fun a ρ => SatS (km X) B W G0 D (f a ρ) := by
  cases r with
  | ok a ρ => exact h
  | ex x ρ => exact fun cls dd G H E g ok => h cls dd σ G H E g ok
  | bad => exact h
theorem pds_nil : PSs X [] (tDS (km X) B W nxS) := by
  refine pss_nil.of ?_
  rintro D σ H ⟨G, ρ, E, S⟩
  exact S σ G H E (Same.refl _)
theorem t_seq : ∀ D σ H, tDS (km X) B W (seqS S1 S2) D σ H → tSeq (tDS (km X) B W S1) (tDS (km X) B W S2) D σ H := by
  rintro D σ H ⟨G, ρ, E, S⟩
  refine ⟨G, ρ, E, ?_⟩
  unfold seqS at S
  cases h : S1 ρ with
  | nx ρ1 =>
    rw [h] at S
    exact fun σ G H E g => ⟨G, ρ1, E, S.up g⟩
  | rt d => rw [h] at S; exact S
  | bk ρ1 => rw [h] at S; exact S
  | ct ρ1 => rw [h] at S; exact S
  | ex x ρ1 => rw [h] at S; exact S
  | bad => rw [h] at S; exact S
theorem pds_cons (h1 : PS X st (tDS (km X) B W S1)) (h2 : PSs X rest (tDS (km X) B W S2)) : PSs X (st :: rest) (tDS (km X) B W (seqS S1 S2)) := (pss_cons h1 h2).of t_seq
theorem pds_one (h1 : PS X st (tDS (km X) B W S1)) : PSs X [st] (tDS (km X) B W S1) := pss_one h1
theorem pd_cont : PS X (.Continue pos) (tDS (km X) B W .ct) := by
  refine ps_continue.of ?_
  rintro D σ H ⟨G, ρ, E, S⟩
  exact S σ G H E (Same.refl _)
theorem pd_expr (he : PE X e (tD (km X) B W F)) (hs : swapsWith e none pos.line X.env = pure false := by rfl) : PS X (.Expr e pos) (tDS (km X) B W (dropS F)) := by
  refine (ps_expr he hs).of ?_
  rintro D σ H ⟨G, ρ, E, S⟩
  exact ⟨G, ρ, E, S.out.imp fun d ρ1 s1 v G1 H1 E1 g1 dp1 => s1 σ G1 H1 E1 g1⟩
theorem pd_ret (he : PE X e (tD (km X) B W F)) : PS X (.Return (some e) pos) (tDS (km X) B W (retS F)) := by
  refine (ps_ret he).of ?_
  rintro D σ H ⟨G, ρ, E, S⟩
  exact ⟨G, ρ, E, S.out.imp fun d ρ1 s1 v G1 H1 E1 g1 dp1 => s1 v G1 H1 E1.base dp1⟩
theorem pd_if {c : Expr} {a b : List Stmt} (hc : PT X c (tDT (km X) B W Tb)) (ha : PSs X a (tDS (km X) B W S1)) (hb : PSs X b (tDS (km X) B W S2)) : PS X (.If c a b pos) (tDS (km X) B W (ifS Tb S1 S2)) := by
  refine (ps_if hc ha hb).of ?_
  rintro D σ H ⟨G, ρ, E, S⟩
  refine ⟨G, ρ, E, S.out.imp fun c ρ1 s1 G1 H1 E1 g1 => ?_⟩
  cases c with
  | true =>
    rw [if_pos rfl] at s1 ⊢
    exact ⟨G1, ρ1, E1, s1.up g1⟩
  | false =>
    rw [if_neg (by decide)] at s1 ⊢
    exact ⟨G1, ρ1, E1, s1.up g1⟩
theorem sat_optS {o : Option Rho} {G0 : Hp} (h : SatS (km X) B W G0 D (optS o)) : ∃ ρ, o = some ρ ∧ ∀ σ G H, DEnv (km X) B G H σ ρ → Same G0 G → D.nx σ H := by
  cases o with
  | none => exact h.elim
  | some ρ => exact ⟨ρ, rfl, h⟩
theorem pd_asg {tg : Expr} (he : PE X e (tD (km X) B W F)) (hg : PG X tg (gD (km X) B T)) (hs : swapsWithSole [tg] e pos.line X.env = pure false := by rfl) (hw : swappedStores [tg] e X.env = pure none := by rfl)
    (h1 : (assignEach [tg] X.env).map (·.2) = [assign tg X.env] := by rfl) : PS X (.Assign [tg] e pos) (tDS (km X) B W (asgS F T)) := by
  refine (ps_asg he hg hs hw h1).of ?_
  rintro D σ H ⟨G, ρ, E, S⟩
  refine ⟨G, ρ, E, S.out.imp fun d ρ1 s1 v G1 H1 E1 g1 dp1 => ?_⟩
  obtain ⟨ρ2, h2, q⟩ := sat_optS s1
  exact ⟨G1, ρ1, d, ρ2, E1, dp1, h2, fun σ' E' => q σ' G1 H1 E' g1⟩
theorem pd_set (i : Nat) {x : Str} {pos' : Pos} (hN : X.N.Nodup) (he : PE X e (tD (km X) B W F)) (hi : X.N[i]? = some x := by rfl) (hx : Loc X.env.scope x := by first | exact Or.inl rfl | exact Or.inr rfl) (hs : swapsWith e (some (.Name x pos')) pos.line X.env = pure false := by rfl) (hf : X.fn x = true ∨ X.env.scope.names.lookup x = some .local := by first | exact .inl rfl | exact .inr rfl | assumption) :
    PS X (.Assign [.Name x pos'] e pos) (tDS (km X) B W (asgS F (nameT i))) := by
  refine (ps_set hN hi hx he hs hf).of ?_
  rintro D σ H ⟨G, ρ, E, S⟩
  refine ⟨G, ρ, E, S.out.imp fun d ρ1 s1 v G1 H1 E1 g1 dp1 => ?_⟩
  obtain ⟨ρ2, h2, q⟩ := sat_optS s1
  obtain ⟨hl, rfl⟩ := of_if h2
  exact q _ _ _ (E1.put hl dp1) g1
theorem pd_setOwn (i : Nat) {x : Str} {pos' p2 : Pos} (hN : X.N.Nodup) (ha : PA X es (tDA (km X) B W A)) (hi : X.N[i]? = some x := by rfl) (hx : Loc X.env.scope x := by first | exact Or.inl rfl | exact Or.inr rfl) (hs : swapsWith (.List es p2) (some (.Name x pos')) pos.line X.env = pure false := by rfl) (hf : X.fn x = true ∨ X.env.scope.names.lookup x = some .local := by first | exact .inl rfl | exact .inr rfl | assumption) :
    PS X (.Assign [.Name x pos'] (.List es p2) pos) (tDS (km X) B W (ownS A i)) := by
  refine (ps_set hN hi hx (pe_lst ha) hs hf).of ?_
  rintro D σ H ⟨G, ρ, E, S⟩
  refine ⟨G, ρ, E, S.out.imp fun ds ρ1 s1 vs G1 H1 E1 g1 dp1 => ?_⟩
  by_cases hl : ds.length ≤ sizeLine ∧ i < ρ1.length
  · rw [if_pos hl] at s1
    exact ⟨by rw [dp1.len]; exact hl.1, fun p hp => s1 _ _ _ (E1.putOwn hl.2 hp dp1) g1⟩
  · rw [if_neg hl] at s1
    exact s1.elim
theorem pd_par (i j : Nat) {x y : Str} {a b : Expr} {px py pt : Pos} {kt k2 pt2} (hc : X.calm = true) (hN : X.N.Nodup) (ha : PA X [a, b] (tDA (km X) B W A)) (hi : X.N[i]? = some x := by rfl) (hj : X.N[j]? = some y := by rfl) (hij : i ≠ j := by decide)
    (hx : X.env.scope.names.lookup x = some .local := by rfl) (hy : X.env.scope.names.lookup y = some .local := by rfl)
    (hw : swappedStores [.Tuple [.Name x px, .Name y py] kt pt] (.Tuple [a, b] k2 pt2) X.env = pure (some [x, y]) := by rfl)
    (hs : swapsWithSole [.Tuple [.Name x px, .Name y py] kt pt] (.Tuple [a, b] k2 pt2) pos.line X.env = pure false := by rfl) :
    PS X (.Assign [.Tuple [.Name x px, .Name y py] kt pt] (.Tuple [a, b] k2 pt2) pos) (tDS (km X) B W (parS A i j)) := by
  refine (ps_par hc hN hi hj hij hx hy ha hw hs).of ?_
  rintro D σ H ⟨G, ρ, E, S⟩
  refine ⟨G, ρ, E, S.out.imp fun ds ρ1 s1 vs G1 H1 E1 g1 dp1 => ?_⟩
  match ds, s1 with
  | [d, e], s1 =>
    cases dp1 with
    | cons d1 d2 =>
      cases d2 with
      | cons d2 d3 =>
        cases d3
        by_cases hl : i < ρ1.length ∧ j < ρ1.length
        · have s2 : SatS (km X) B W G D (if i < ρ1.length ∧ j < ρ1.length then .nx ((ρ1.set i (.d d)).set j (.d e)) else .bad) := s1
          rw [if_pos hl] at s2
          exact ⟨_, _, rfl, s2 _ _ _ ((E1.put hl.1 d1).put (by simpa using hl.2) d2) g1⟩
        · have s2 : SatS (km X) B W G D (if i < ρ1.length ∧ j < ρ1.length then .nx ((ρ1.set i (.d d)).set j (.d e)) else .bad) := s1
          rw [if_neg hl] at s2
          exact s2.elim
theorem pd_append (i : Nat) {x : Str} {px apos cpos : Pos} (he : PE X e (tD (km X) B W F)) (hN : X.N[i]? = some x := by rfl) (hv : Vis X.env.scope x := by first | exact Or.inl rfl | exact Or.inr (Or.inl rfl) | exact Or.inr (Or.inr rfl)) (hd : (x == ("__debug__" : Str)) = false := by decide)
    (hcd : (x == ("__classdict__" : Str)) = false := by decide)
    (hbase : attributeBase (.Name x px) "append" X.env (eval (.Name x px) X.env) = eval (.Name x px) X.env := by rfl)
    (hfew : ((backTo cpos (starEach [e] X.env)).all (fun x => !x.1) && (backToKw cpos (keywordEach [] X.env)).all (fun x => x.1.isSome)
      && decide ([e].length + ([] : List Keyword).length + (if ([] : List Keyword).isEmpty then 0 else 1) < 30)) = true := by rfl)
    (hline : (apos.endLine == cpos.line) = true := by rfl) (hs : starEach [e] X.env = (false, eval e X.env) :: starEach [] X.env := by rfl) (hplain : (backTo cpos (starEach [] X.env)).any (·.1) = false := by rfl)
    (hsw : swapsWith (.Call (.Attribute (.Name x px) "append" apos) [e] [] cpos) none pos.line X.env = pure false := by rfl) :
    PS X (.Expr (.Call (.Attribute (.Name x px) "append" apos) [e] [] cpos) pos) (tDS (km X) B W (appendS i F)) := by
  refine (ps_expr (pe_bm PySem.F.plainAttrs_list PySem.F.slot_list_append PySem.F.type_list_append mt_append (pe_var hN hv hd hcd) (pa_cons he pa_nil hs) hbase hfew hline hs hplain) hsw).of ?_
  rintro D σ H ⟨G, ρ, E, S⟩
  unfold appendS at S
  cases ho : isOwn ρ[i]? with
  | false => rw [ho, if_neg (by decide)] at S; exact S.elim
  | true =>
    rw [ho, if_pos rfl] at S
    obtain ⟨zs, hz⟩ : ∃ zs, ρ[i]? = some (.own zs) := by
      revert ho
      cases ρ[i]? with
      | none => intro z; cases z
      | some q => cases q <;> intro z <;> first | (cases z; done) | exact ⟨_, rfl⟩
    have q := E.ent i _ hz
    generalize hσ : σ[i]? = o at q
    cases q with
    | own h1 h2 h3 h4 =>
      rename_i a vs
      refine ⟨_, hσ, .inl ⟨rfl, _, SqL.of h1⟩, G, ρ, E, S.out.imp fun d ρ1 s1 v G1 H1 E1 g1 dp1 => ?_⟩
      show ∃ l xs y, _
      split at s1
      · rename_i ys hy
        have q := E1.ent i _ hy
        rw [hσ] at q
        cases q with
        | own k1 k2 k3 k4 =>
          by_cases hl : ys.length < sizeLine
          · rw [if_pos hl] at s1
            exact ⟨_, _, _, rfl, rfl, k1, by rw [k4.len]; exact hl, s1 _ _ _ (E1.change hy hσ (k4.append (.cons dp1 .nil))) g1⟩
          · rw [if_neg hl] at s1
            exact s1.elim
      · exact s1.elim
structure Walk (K : PySem.W.Frag) (ds : List PyData) (G : Hp) (J : It) : Prop where
  go : ∀ (i : Nat) (d : PyData) (G2 H2 : Hp), Same G G2 → Same G2 H2 → ds[i]? = some d → J.go i H2 ∧ ∀ v H3, J.yld i H2 v H3 → ∃ G3, Ext G2 H2 G3 H3 ∧ Dq K G3 v d
  stop : ∀ (i : Nat) (G2 H2 : Hp), Same G G2 → Same G2 H2 → i = ds.length → J.stop i H2
def iD (m : KM) (B : Bx) (W : WX) (F : Rho → Res (List PyData)) : TI := fun σ H R => ∃ G ρ, DEnv m B G H σ ρ ∧ Sat m B W G σ (F ρ) fun ds ρ' => ∀ J G' H', DEnv m B G' H' σ ρ' → Same G G' → Walk m.K ds G' J → R J H'
theorem pd_for {tg iter : Expr} {body : List Stmt} {Fi : Rho → Res (List PyData)} (hp : PassesOwn (model X.prog X.w) X.A X.env X.xe) (hc : X.calm = true) (hi : PI X tg iter (iD (km X) B W Fi)) (hg : PG X tg (gD (km X) B T)) (hb : PSs X body (tDS (km X) B W S1))
    (hs : ∀ x, foldedSetIterable iter X.env x = pure x := by intro _; rfl) : PS X (.For tg iter body [] pos) (tDS (km X) B W (forS Fi T S1)) := by
  refine (ps_for hp hc hi hg hb hs).of ?_
  rintro D σ H ⟨G, ρ, E, S⟩
  refine ⟨G, ρ, E, S.out.imp fun ds ρ1 s1 J G1 H1 E1 g1 wk => ?_⟩
  refine ⟨fun i m σ H => m = ds.length - i ∧ i ≤ ds.length ∧ ∃ G ρ, DEnv (km X) B G H σ ρ ∧ Same G1 G ∧ SatS (km X) B W G1 D (loopS T S1 (ds.drop i) ρ), ⟨_, rfl, Nat.zero_le _, G1, ρ1, E1, Same.refl _, s1.up g1⟩, ?_⟩
  rintro i m σ H ⟨rfl, hi, G2, ρ2, E2, g2, s2⟩
  by_cases hl : i < ds.length
  · have hd : ds[i]? = some ds[i] := List.getElem?_eq_getElem hl
    obtain ⟨w1, w2⟩ := wk.go i _ G2 H g2 E2.base.gh hd
    refine .inr ⟨w1, fun σ' H' => ∃ G ρ, DEnv (km X) B G H' σ' ρ ∧ Same G1 G ∧ SatS (km X) B W G1 D (loopS T S1 (ds.drop (i + 1)) ρ), fun σ' H' n => ⟨ds.length - (i + 1), by omega, rfl, hl, n⟩, fun v H3 y => ?_⟩
    obtain ⟨G3, ext, dp⟩ := w2 v H3 y
    have E3 := E2.ext ext
    rw [List.drop_eq_getElem_cons hl] at s2
    unfold loopS at s2
    cases hT : T ds[i] ρ2 with
    | none => rw [hT] at s2; exact s2.elim
    | some ρ3 =>
      rw [hT] at s2
      refine ⟨G3, ρ2, ds[i], ρ3, E3, dp, hT, fun σ' E' => ⟨G3, ρ3, E', ?_⟩⟩
      dsimp only at s2
      have g3 : Same G1 G3 := g2.trans ext.g
      cases hS : S1 ρ3 with
      | nx ρ4 =>
        rw [hS] at s2
        exact fun σ G H E g => ⟨G, ρ4, E, g3.trans g, s2⟩
      | ct ρ4 =>
        rw [hS] at s2
        exact fun σ G H E g => ⟨G, ρ4, E, g3.trans g, s2⟩
      | bk ρ4 =>
        rw [hS] at s2
        exact fun σ G H E g => s2 σ G H E (g3.trans g)
      | rt d => rw [hS] at s2; exact s2
      | ex x ρ4 =>
        rw [hS] at s2
        exact fun cls dd σ G H E g => s2 cls dd σ G H E (g3.trans g)
      | bad => rw [hS] at s2; exact s2
  · have hi' : i = ds.length := by omega
    subst hi'
    rw [List.drop_length] at s2
    exact .inl ⟨wk.stop _ G2 H g2 E2.base.gh rfl, s2 σ G2 H E2 g2⟩
end
end DL
namespace DL
open PySem PySem.Spec PyProof.Rows L2 RT
section
variable {Tb : Rho → Res Bool} {S : Rho → Out}
theorem whileN_mono : ∀ {n : Nat} {ρ : Rho}, whileN Tb S n ρ ≠ .bad → ∀ k, whileN Tb S (n + k) ρ = whileN Tb S n ρ
  | 0, _, h, _ => absurd rfl h
  | n + 1, ρ, h, k => by
    rw [show n + 1 + k = (n + k) + 1 by omega]
    unfold whileN at h ⊢
    cases e : Tb ρ with
    | bad => rfl
    | ex x ρ1 => rfl
    | ok b ρ1 =>
      rw [e] at h
      cases b with
      | false => rfl
      | true =>
        simp only [Res.out, if_true] at h ⊢
        cases e2 : S ρ1 with
        | nx ρ2 => rw [e2] at h; exact whileN_mono h k
        | ct ρ2 => rw [e2] at h; exact whileN_mono h k
        | bk ρ2 => rfl
        | rt d => rfl
        | ex x ρ2 => rfl
        | bad => rfl
theorem whileS_of {n : Nat} {ρ : Rho} (h : whileN Tb S n ρ ≠ .bad) : whileS Tb S ρ = whileN Tb S n ρ := by
  have hx : ∃ n, whileN Tb S n ρ ≠ .bad := ⟨n, h⟩
  unfold whileS
  rw [dif_pos hx]
  have hc := Classical.choose_spec hx
  have a := whileN_mono hc n
  have b := whileN_mono h (Classical.choose hx)
  rw [Nat.add_comm] at a
  exact a.symm.trans b
theorem whileS_run {ρ : Rho} (h : whileS Tb S ρ ≠ .bad) : ∃ n, whileN Tb S n ρ = whileS Tb S ρ ∧ whileN Tb S n ρ ≠ .bad := by
  unfold whileS at h ⊢
  by_cases hx : ∃ n, whileN Tb S n ρ ≠ .bad
  · rw [dif_pos hx]
    exact ⟨Classical.choose hx, rfl, Classical.choose_spec hx⟩
  · rw [dif_neg hx] at h
    exact absurd rfl h
theorem whileS_eq (ρ : Rho) : whileS Tb S ρ = (Tb ρ).out fun b ρ => if b = true then (match S ρ with
      | .nx ρ2 => whileS Tb S ρ2
      | .ct ρ2 => whileS Tb S ρ2
      | .bk ρ2 => .nx ρ2
      | o => o) else .nx ρ := by
  by_cases hx : ∃ n, whileN Tb S n ρ ≠ .bad
  · obtain ⟨n, h⟩ := hx
    rw [whileS_of h]
    cases n with
    | zero => exact absurd rfl h
    | succ n =>
      unfold whileN at h ⊢
      cases e : Tb ρ with
      | bad => rfl
      | ex x ρ1 => rfl
      | ok b ρ1 =>
        rw [e] at h
        cases b with
        | false => rfl
        | true =>
          simp only [Res.out, if_true] at h ⊢
          cases e2 : S ρ1 with
          | nx ρ2 => rw [e2] at h; exact (whileS_of h).symm
          | ct ρ2 => rw [e2] at h; exact (whileS_of h).symm
          | bk ρ2 => rfl
          | rt d => rfl
          | ex x ρ2 => rfl
          | bad => rfl
  · have e0 : whileS Tb S ρ = .bad := by unfold whileS; rw [dif_neg hx]
    rw [e0]
    have step : ∀ n, whileN Tb S (n + 1) ρ = .bad := fun n => Classical.byContradiction fun h => hx ⟨n + 1, h⟩
    cases e : Tb ρ with
    | bad => rfl
    | ex x ρ1 =>
      have := step 0
      unfold whileN at this
      rw [e] at this
      cases this
    | ok b ρ1 =>
      cases b with
      | false =>
        have := step 0
        unfold whileN at this
        rw [e] at this
        simp [Res.out] at this
      | true =>
        simp only [Res.out, if_true]
        cases e2 : S ρ1 with
        | nx ρ2 =>
          dsimp only
          refine Classical.byContradiction fun h => ?_
          obtain ⟨n, h1, h2⟩ := whileS_run (fun z => h z.symm)
          have := step n
          unfold whileN at this
          rw [e] at this
          simp only [Res.out, if_true] at this
          rw [e2] at this
          exact h2 this
        | ct ρ2 =>
          dsimp only
          refine Classical.byContradiction fun h => ?_
          obtain ⟨n, h1, h2⟩ := whileS_run (fun z => h z.symm)
          have := step n
          unfold whileN at this
          rw [e] at this
          simp only [Res.out, if_true] at this
          rw [e2] at this
          exact h2 this
        | bk ρ2 =>
          have := step 0
          unfold whileN at this
          rw [e] at this
          simp only [Res.out, if_true] at this
          rw [e2] at this
          cases this
        | rt d =>
          have := step 0
          unfold whileN at this
          rw [e] at this
          simp only [Res.out, if_true] at this
          rw [e2] at this
          cases this
        | ex x ρ2 =>
          have := step 0
          unfold whileN at this
          rw [e] at this
          simp only [Res.out, if_true] at this
          rw [e2] at this
          cases this
        | bad => rfl
end
section
variable {X : L2.Cx} {B : Bx} {W : WX} {pos : Pos} {e : Expr} {es : List Expr} {S1 S2 : Rho → Out} {F : Rho → Res PyData} {A : Rho → Res (List PyData)} {T : Tg} {Tb : Rho → Res Bool} {D : Ends} {σ : L2.St}
theorem pd_while {c : Expr} {body : List Stmt} (hp : PassesOwn (model X.prog X.w) X.A X.env X.xe) (hc : PT X c (tDT (km X) B W Tb)) (hb : PSs X body (tDS (km X) B W S1)) : PS X (.While c body [] pos) (tDS (km X) B W (whileS Tb S1)) := by
  refine (ps_while hp hc hb).of ?_
  rintro D σ H ⟨G, ρ, E, S⟩
  have nb : whileS Tb S1 ρ ≠ .bad := fun z => by rw [z] at S; exact S
  obtain ⟨n, h1, h2⟩ := whileS_run nb
  rw [← h1] at S
  refine ⟨fun n σ H => ∃ G2 ρ, DEnv (km X) B G2 H σ ρ ∧ Same G G2 ∧ SatS (km X) B W G D (whileN Tb S1 n ρ), ⟨n, G, ρ, E, Same.refl _, S⟩, ?_⟩
  rintro m σ H ⟨G2, ρ2, E2, g2, s2⟩
  cases m with
  | zero => exact s2.elim
  | succ m =>
    unfold whileN at s2
    refine ⟨G2, ρ2, E2, ((SatS.out s2).up g2).imp fun b ρ3 s3 G3 H3 E3 g3 => ?_⟩
    cases b with
    | false =>
      rw [if_neg (by decide)] at s3 ⊢
      exact s3 σ G3 H3 E3 (g2.trans g3)
    | true =>
      rw [if_pos rfl] at s3 ⊢
      refine ⟨fun σ' H' => ∃ G2 ρ, DEnv (km X) B G2 H' σ' ρ ∧ Same G G2 ∧ SatS (km X) B W G D (whileN Tb S1 m ρ), fun σ' H' n => ⟨m, Nat.lt_succ_self _, n⟩, G3, ρ3, E3, ?_⟩
      have g4 : Same G G3 := g2.trans g3
      cases hS : S1 ρ3 with
      | nx ρ4 =>
        rw [hS] at s3
        exact fun σ G5 H E g => ⟨G5, ρ4, E, g4.trans g, s3⟩
      | ct ρ4 =>
        rw [hS] at s3
        exact fun σ G5 H E g => ⟨G5, ρ4, E, g4.trans g, s3⟩
      | bk ρ4 =>
        rw [hS] at s3
        exact fun σ G5 H E g => s3 σ G5 H E (g4.trans g)
      | rt d => rw [hS] at s3; exact s3
      | ex x ρ4 =>
        rw [hS] at s3
        exact fun cls dd σ G5 H E g => s3 cls dd σ G5 H E (g4.trans g)
      | bad => rw [hS] at s3; exact s3
def itemsF (F : Rho → Res PyData) : Rho → Res (List PyData) := fun ρ => (F ρ).bind fun d ρ => match d with
  | .list ds => .ok ds ρ
  | _ => .bad
def itemsT (F : Rho → Res PyData) : Rho → Res (List PyData) := fun ρ => (F ρ).bind fun d ρ => match d with
  | .tuple ds => .ok ds ρ
  | _ => .bad
def rangeL (a : Int) (n : Nat) : List PyData := (List.range n).map fun i : Nat => PyData.int (a + (i : Int))
noncomputable def rng1 (ds : List PyData) (ρ : Rho) : Res (List PyData) := match ds with
  | [.int j] => iteC (-(2 ^ 62) ≤ j ∧ j < 2 ^ 62) (.ok (rangeL 0 j.toNat) ρ) .bad
  | _ => .bad
noncomputable def range1F (A : Rho → Res (List PyData)) : Rho → Res (List PyData) := fun ρ => (A ρ).bind rng1
def revF (F : Rho → Res PyData) : Rho → Res (List PyData) := fun ρ => (F ρ).bind fun d ρ => match d with
  | .list ds => .ok ds.reverse ρ
  | .tuple ds => .ok ds.reverse ρ
  | _ => .bad
theorem _root_.L2.PI.of {tg iter : Expr} {t t' : TI} (h : PI X tg iter t) (i : ∀ σ H R, t' σ H R → t σ H R) : PI X tg iter t' := ⟨fun pins s σ H R I q => h.run pins s σ H R I (i _ _ _ q)⟩
theorem walk_list {K : PySem.W.Frag} {G : Hp} {a : Addr} {xs : List V} {ds : List PyData} (h1 : SqL K G a xs) (h2 : DqAll K G xs ds) : Walk K ds G (Itl K a) := by
  refine ⟨fun i d G2 H2 g gh hd => ?_, fun i G2 H2 g gh hi => ⟨xs, gh.seq (g.seq h1), by rw [h2.len, hi]; exact Nat.le_refl _⟩⟩
  obtain ⟨v, hv, dp⟩ := h2.get hd
  refine ⟨⟨xs, v, gh.seq (g.seq h1), hv⟩, fun u H3 y => ?_⟩
  obtain ⟨rfl, y⟩ := y
  have e : u = v := Option.some.inj ((y xs (gh.seq (g.seq h1))).symm.trans hv)
  subst e
  exact ⟨G2, Ext.refl gh, dp_same g _ _ dp⟩
theorem walk_tup {K : PySem.W.Frag} {G : Hp} {a : Addr} {xs : List V} {ds : List PyData} (h1 : SqN K G a xs) (h2 : DqAll K G xs ds) : Walk K ds G (Itt K a) := by
  refine ⟨fun i d G2 H2 g gh hd => ?_, fun i G2 H2 g gh hi => ⟨xs, seqT_same gh (h1.same g), by rw [h2.len, hi]; exact Nat.le_refl _⟩⟩
  obtain ⟨v, hv, dp⟩ := h2.get hd
  refine ⟨⟨xs, v, seqT_same gh (h1.same g), hv⟩, fun u H3 y => ?_⟩
  obtain ⟨rfl, y⟩ := y
  have e : u = v := Option.some.inj ((y xs (seqT_same gh (h1.same g))).symm.trans hv)
  subst e
  exact ⟨G2, Ext.refl gh, dp_same g _ _ dp⟩
theorem walk_range {K : PySem.W.Frag} {G : Hp} (a : Int) (n : Nat) : Walk K (rangeL a n) G (Itr a n) := by
  refine ⟨fun i d G2 H2 g gh hd => ?_, fun i G2 H2 g gh hi => ?_⟩
  · unfold rangeL at hd
    rw [List.getElem?_map] at hd
    have hi : i < n := by
      apply Classical.byContradiction
      intro z
      rw [List.getElem?_eq_none (by simp; omega)] at hd
      cases hd
    rw [List.getElem?_range hi] at hd
    cases hd
    refine ⟨hi, fun u H3 y => ?_⟩
    obtain ⟨rfl, rfl⟩ := y
    exact ⟨G2, Ext.refl gh, .int _⟩
  · show n ≤ i
    unfold rangeL at hi
    rw [List.length_map, List.length_range] at hi
    omega
variable {tg : Expr}
theorem pid_list (hl : PE X e (tD (km X) B W F)) : PI X tg e (iD (km X) B W (itemsF F)) := by
  refine (pi_list hl).of ?_
  rintro σ H R ⟨G, ρ, E, S⟩
  refine ⟨G, ρ, E, (Sat.bind S).imp fun d ρ1 s1 v G1 H1 E1 g1 dp1 => ?_⟩
  cases d <;> first | exact s1.elim | skip
  cases dp1 with
  | lst h1 h2 => exact ⟨_, rfl, ⟨_, E1.base.gh.seq h1⟩, s1 _ G1 H1 E1 g1 (walk_list h1 h2)⟩
theorem pid_tup (hl : PE X e (tD (km X) B W F)) : PI X tg e (iD (km X) B W (itemsT F)) := by
  refine (pi_tup hl).of ?_
  rintro σ H R ⟨G, ρ, E, S⟩
  refine ⟨G, ρ, E, (Sat.bind S).imp fun d ρ1 s1 v G1 H1 E1 g1 dp1 => ?_⟩
  cases d <;> first | exact s1.elim | skip
  cases dp1 with
  | tup h1 h2 => exact ⟨_, rfl, ⟨_, seqT_same E1.base.gh h1⟩, s1 _ G1 H1 E1 g1 (walk_tup h1 h2)⟩
theorem pid_range1 {p : Pos} (hm : X.mg "range" = none) (ha : PA X [e] (tDA (km X) B W A)) (hg : Gl X "range" := by rfl) (hs : starEach [e] X.env = [(false, eval e X.env)] := by rfl) : PI X tg (.Call (.Name "range" p) [e] [] pos) (iD (km X) B W (range1F A)) := by
  refine (pi_range1 hg hm ha hs).of ?_
  rintro σ H R ⟨G, ρ, E, S⟩
  refine ⟨G, ρ, E, (Sat.bind S).imp fun ds ρ1 s1 vs G1 H1 E1 g1 dp1 => ?_⟩
  unfold rng1 at s1
  split at s1
  · rename_i j
    cases dp1 with
    | cons a1 a2 =>
      cases a2
      cases a1
      by_cases hj : -(2 ^ 62) ≤ j ∧ j < 2 ^ 62
      · rw [iteC_pos hj] at s1
        exact ⟨j, rfl, hj.1, hj.2, s1 _ G1 H1 E1 g1 (walk_range 0 _)⟩
      · rw [iteC_neg hj] at s1
        exact s1.elim
  · exact s1.elim
section
variable {C : Addr} {bmB : List Value} {BB newId initId : String}
theorem pmk_own0 {x : Str} {p pos : Pos} (F : PySem.ExcBaseFacts BB newId initId bmB) (q : PySem.W.excIn X.K C bmB newId = true) (gC : X.mg x = some (.ref C)) (kC : PySem.W.keepIn X.K (.ref C) = true) (r : Raises X (.ref C)) (hg : Gl X x)
    (hdb : (x == ("__debug__" : Str)) = false := by decide) : PMk X (.Call (.Name x p) [] [] pos) (fun _ H Q => Q (.ref C) none H) := by
  intro pins s σ H Q I h
  refine wpAny_Call_Name_kw (ld_glob I hg gC ?_ hdb)
  refine PySem.W.callWith_K0 I.kIn kC ?_
  show wpAny _ _ (call (.ref C) []) _ _ _
  obtain ⟨bm, N, nm, qn, bs, hdct, sn, sub, ab, col, dd, k0, k1, k2, k3, k5, mN, hC, hN, hni, T⟩ := exc_obj I.kIn q
  refine wpAny_call_exc_subT F T hC hN hni (fun h' e hm => ?_) (by show 0 ≤ sizeLine; exact Nat.zero_le _)
  exact mk_of I hm r h (I.hok.gone hm.new)
theorem pd_raise0 {x : Str} {p p2 : Pos} (hc : X.calm = true) (tk : Takes X W) (F : PySem.ExcBaseFacts BB newId initId bmB) (q : PySem.W.excIn X.K C bmB newId = true) (gC : X.mg x = some (.ref C)) (kC : PySem.W.keepIn X.K (.ref C) = true) (r : Raises X (.ref C)) (hg : Gl X x := by rfl)
    (hdb : (x == ("__debug__" : Str)) = false := by decide) : PS X (.Raise (some (.Call (.Name x p) [] [] p2)) none pos) (tDS (km X) B W (raiseS x)) := by
  refine (ps_raise hc tk (pmk_own0 F q gC kC r hg hdb)).of ?_
  rintro D σ H ⟨G, ρ, E, S⟩
  exact S (.ref C) none σ G H E (Same.refl _) ⟨⟨C, gC, rfl⟩, .inl ⟨rfl, rfl⟩⟩
end
end
def outFR : Out → FR
  | .nx _ => .ok .none
  | .rt d => .ok d
  | .ex e _ => .ex e
  | _ => .bad
def startR (n : Nat) (ds : List PyData) : Rho := ds.map .d ++ List.replicate (n - ds.length) .un
theorem start_env {m : KM} {G H : Hp} {N : List Str} {vs : List V} {ds : List PyData} (gh : Same G H) (dp : DqAll m.K G vs ds) : DEnv m ⟨G, H, 0⟩ G H (L2.start N vs) (startR N.length ds) := by
  have hl := dp.len
  refine ⟨Ext.refl gh, ?_, fun i e h => ?_, fun i j a xs ys h => ?_, fun i j a kvs f h => ?_⟩
  · unfold startR L2.start
    simp [hl]
  · unfold startR at h
    unfold L2.start
    by_cases hi : i < ds.length
    · rw [List.getElem?_append_left (by simpa using hi), List.getElem?_map] at h
      rw [List.getElem?_append_left (by rw [List.length_map, hl]; exact hi), List.getElem?_map]
      cases e1 : ds[i]? with
      | none => rw [e1] at h; cases h
      | some d =>
        rw [e1] at h
        cases h
        obtain ⟨v, hv, q⟩ := dp.get e1
        rw [hv]
        exact .d q
    · rw [List.getElem?_append_right (by simpa using hi), List.getElem?_replicate] at h
      split at h
      · cases h; exact .un
      · cases h
  · unfold startR at h
    by_cases hi : i < ds.length
    · rw [List.getElem?_append_left (by simpa using hi), List.getElem?_map] at h
      cases e1 : ds[i]? with
      | none => rw [e1] at h; cases h
      | some d => rw [e1] at h; cases h
    · rw [List.getElem?_append_right (by simpa using hi), List.getElem?_replicate] at h
      split at h
      · cases h
      · cases h
  · unfold startR at h
    by_cases hi : i < ds.length
    · rw [List.getElem?_append_left (by simpa using hi), List.getElem?_map] at h
      cases e1 : ds[i]? with
      | none => rw [e1] at h; cases h
      | some d => rw [e1] at h; cases h
    · rw [List.getElem?_append_right (by simpa using hi), List.getElem?_replicate] at h
      split at h
      · cases h
      · cases h
section
variable {P : Program} {w : World} {K : PySem.W.Frag} {mg : Str → Option Value} {base : Heap}
theorem fnD {x qual : Str} {st : Stmt} {f : Addr} {fd : FuncData} {N ps : List Str} {k : Nat} (F : Fun K x qual st f fd) (S : FnScope N ps (defScope st)) (Sb : Rho → Out) (fn : Fn)
    (hn : ∀ ds, fn ds ≠ .bad → ds.length = ps.length)
    (hS : ∀ ds, fn ds ≠ .bad → outFR (Sb (startR N.length ds)) = fn ds)
    (hb : ∀ (cdv : Value) (A : Around) (outer : List Env) (s : Shared) (H : Hp) (E : XK) (B : Bx) (W : WX), Room k (A.deeper (envOfC qual (defScope st) s.heap.objs.size f cdv)) →
      Takes (cxOf (L2.CX P w) P w K mg base N qual (defScope st) f cdv A outer s H E) W →
      PassesOwn (model P w) (cxOf (L2.CX P w) P w K mg base N qual (defScope st) f cdv A outer s H E).A (cxOf (L2.CX P w) P w K mg base N qual (defScope st) f cdv A outer s H E).env (cxOf (L2.CX P w) P w K mg base N qual (defScope st) f cdv A outer s H E).xe →
      PSs (cxOf (L2.CX P w) P w K mg base N qual (defScope st) f cdv A outer s H E) (defBody st) (tDS ⟨K, mg, w⟩ B W Sb)) :
    FnOk P w K mg base (L2.CX P w) (k + 1) f fd ps (spD ⟨K, mg, w⟩ fn) := by
  refine F.okX S (fun vs H Q E h => ?_) (fun cdv A outer s H vs Q E hr h => ?_)
  · obtain ⟨G, ds, gh, dp, q⟩ := h
    rw [dp.len]
    refine hn ds fun z => ?_
    rw [z] at q
    exact q
  · obtain ⟨G, ds, gh, dp, q⟩ := h
    have nb : fn ds ≠ .bad := fun z => by rw [z] at q; exact q
    refine ⟨_, hb cdv A outer s H E ⟨G, H, 0⟩ (fun cls d _ H => E cls d H) hr (takes_of rfl rfl rfl rfl) (passes_of rfl), G, startR N.length ds, start_env gh dp, ?_⟩
    have e := hS ds nb
    rw [← e] at q
    cases ho : Sb (startR N.length ds) with
    | nx ρ =>
      rw [ho] at q
      exact fun σ G' H' E' g => q .non G' H' E'.base .non
    | rt d =>
      rw [ho] at q
      exact q
    | ex x ρ =>
      rw [ho] at q
      exact fun cls dd σ G' H' E' g ok => q cls dd G' H' E'.base ok
    | bk ρ => rw [ho] at q; exact q.elim
    | ct ρ => rw [ho] at q; exact q.elim
    | bad => rw [ho] at q; exact q.elim
end
end DL
namespace DL
open PySem PySem.Spec PyProof.Rows L2 RT
section
variable {X : L2.Cx} {B : Bx} {W : WX} {pos : Pos} {a b e : Expr} {es : List Expr} {F F1 F2 : Rho → Res PyData} {A : Rho → Res (List PyData)} {tg : Expr}
noncomputable def repF (A : Rho → Res (List PyData)) (F : Rho → Res PyData) : Rho → Res PyData := fun ρ => (A ρ).bind fun ds ρ => if ds.length ≤ 1000000 then (F ρ).bind fun e ρ => match e with
  | .int k => iteC (0 ≤ k ∧ k ≤ 1000000 ∧ ds.length * k.toNat ≤ 1000000) (.ok (.list (List.replicate k.toNat ds).flatten) ρ) .bad
  | _ => .bad
  else .bad
theorem DqAll.rep {K : PySem.W.Frag} {G : Hp} {vs : List V} {ds : List PyData} (h : DqAll K G vs ds) : ∀ n : Nat, DqAll K G (List.replicate n vs).flatten (List.replicate n ds).flatten
  | 0 => .nil
  | n + 1 => by
    rw [List.replicate_succ, List.replicate_succ, List.flatten_cons, List.flatten_cons]
    exact h.append (DqAll.rep h n)
theorem pd_rep {p1 : Pos} (ha : PA X es (tDA (km X) B W A)) (hb : PE X b (tD (km X) B W F)) : PE X (.BinOp (.List es p1) .Mult b pos) (tD (km X) B W (repF A F)) := by
  refine (pe_op op_rep (pe_lst ha) hb).of ?_
  rintro σ H Q ⟨G, ρ, E, S⟩
  refine ⟨G, ρ, E, (Sat.bind S).imp fun ds ρ1 s1 vs G1 H1 E1 g1 dp1 => ?_⟩
  have small : ∀ n : Nat, n ≤ 1000000 → n ≤ sizeLine := fun n h => by rw [sizeLine_eq]; omega
  by_cases hl : ds.length ≤ 1000000
  · rw [if_pos hl] at s1
    refine ⟨by rw [dp1.len]; exact small _ hl, fun p hp => ?_⟩
    have ex := Ext.new (o := .lst vs) E1.base.gh hp
    refine ⟨upd G1 p (.lst vs), ρ1, E1.ext ex, ((Sat.bind s1).up (g1.trans ex.g)).imp fun e ρ2 s2 u G2 H2 E2 g2 dp2 => ?_⟩
    cases e <;> first | exact s2.elim | skip
    rename_i k
    by_cases hk : 0 ≤ k ∧ k ≤ 1000000 ∧ ds.length * k.toNat ≤ 1000000
    · have s3 := s2
      dsimp only at s3
      rw [iteC_pos hk] at s3
      cases dp2
      have e1 : G2 p = some (.lst vs) := g2 _ _ upd_same
      refine ⟨p, k, vs, rfl, rfl, E2.base.gh _ _ e1, by omega, by omega, by rw [dp1.len]; exact small _ hk.2.2, fun r hr => ?_⟩
      have ex2 := Ext.new (o := .lst (List.replicate k.toNat vs).flatten) E2.base.gh hr
      exact s3 _ _ _ (E2.ext ex2) (g1.trans (ex.g.trans (g2.trans ex2.g))) (.lst (SqL.of upd_same) (dpAll_same (ex.g.trans (g2.trans ex2.g)) _ _ (DqAll.rep dp1 _)))
    · have s3 := s2
      dsimp only at s3
      rw [iteC_neg hk] at s3
      exact s3.elim
  · rw [if_neg hl] at s1
    exact s1.elim
abbrev Po := Rho → Res (Option Int)
def noP : Po := fun ρ => .ok none ρ
def someP (F : Rho → Res PyData) : Po := fun ρ => (F ρ).bind fun d ρ => match d with
  | .int i => .ok (some i) ρ
  | _ => .bad
def cutD (xs : List PyData) (lo hi : Option Int) : List PyData := (xs.drop (HT.sIx xs.length 0 lo)).take (HT.sIx xs.length xs.length hi - HT.sIx xs.length 0 lo)
def dCut (d : PyData) (lo hi : Option Int) : Option PyData := match d with
  | .list xs => some (.list (cutD xs lo hi))
  | .tuple xs => some (.tuple (cutD xs lo hi))
  | .str z => if z.length ≤ sizeLine then some (.str (cutS z lo hi)) else none
  | _ => none
def cutF (F : Rho → Res PyData) (L U : Po) : Rho → Res PyData := fun ρ => (F ρ).bind fun d ρ => (L ρ).bind fun l ρ => (U ρ).bind fun u ρ => optR (dCut d l u) ρ
def tDP (m : KM) (B : Bx) (W : WX) (P : Po) : TO := fun σ H Q => ∃ G ρ, DEnv m B G H σ ρ ∧ Sat m B W G σ (P ρ) fun o ρ' => ∀ G' H', DEnv m B G' H' σ ρ' → Same G G' → Q o H'
theorem _root_.L2.PO.of {X : L2.Cx} {e : Option Expr} {t t' : TO} (h : PO X e t) (i : ∀ σ H Q, t' σ H Q → t σ H Q) : PO X e t' := ⟨fun pins s σ H Q I q => h.run pins s σ H Q I (i _ _ _ q)⟩
theorem pod_none : PO X none (tDP (km X) B W noP) := by
  refine po_none.of ?_
  rintro σ H Q ⟨G, ρ, E, S⟩
  exact S G H E (Same.refl _)
theorem pod_some (h : PE X e (tD (km X) B W F)) : PO X (some e) (tDP (km X) B W (someP F)) := by
  refine (po_some h).of ?_
  rintro σ H Q ⟨G, ρ, E, S⟩
  refine ⟨G, ρ, E, (Sat.bind S).imp fun d ρ1 s1 v G1 H1 E1 g1 dp1 => ?_⟩
  cases d <;> first | exact s1.elim | skip
  cases dp1
  exact ⟨_, rfl, s1 G1 H1 E1 g1⟩
def rSlN (K : PySem.W.Frag) : V → Option Int → Option Int → Hp → VK → Prop := fun x lo hi H Q => ∃ a xs, x = .ref a ∧ SqT K H a xs ∧
  ((HT.sIx xs.length 0 lo = 0 ∧ HT.sIx xs.length xs.length hi = xs.length) → Q (.ref a) H) ∧
  (¬ (HT.sIx xs.length 0 lo = 0 ∧ HT.sIx xs.length xs.length hi = xs.length) → ∀ (p : Addr) (o : Obj), H p = none → o.dict = none → Q (.ref p) (upd H p (.frz o (.tup (cutV xs lo hi)))))
theorem sl_tupN : SlR X (rSlN X.K) := by
  intro pins s σ H x v vl vu lo hi sl Q I rx hs pl pu h
  obtain ⟨a, xs, rfl, hx, q1, q2⟩ := h
  by_cases hw : HT.sIx xs.length 0 lo = 0 ∧ HT.sIx xs.length xs.length hi = xs.length
  · exact sl_tupA pins s σ H _ v vl vu lo hi sl Q I rx hs pl pu ⟨a, xs, rfl, hx, fun _ => q1 hw, fun z => absurd hw z⟩
  · cases rx
    obtain ⟨its, r, ht, hz⟩ := I.tuple hx
    have hlen : its.toArray.size = xs.length := by rw [List.size_toArray]; exact r.length.symm
    refine ⟨"tuple", _, PyProof.Rows.slot_tuple_getitem.lookup, ht.typeIs, HT.getItem_tuple_cut ht hs pl pu (by rw [hlen]; exact hw) ?_ (by rw [hlen]; exact hz)⟩
    rw [hlen]
    exact ⟨.ref s.heap.objs.size, _, I.laid (t' := s.toks) (o := .frz _ (.tup (cutV xs lo hi))) (fun b ob q => Heap.get?_push_of_some _ q) (Nat.le_refl _)
      ⟨Heap.get?_push_size _ rfl, Nat.le_trans (cutV_length xs lo hi) hz, _, (r.drop (HT.sIx xs.length 0 lo)).take (HT.sIx xs.length xs.length hi - HT.sIx xs.length 0 lo), IsTup.new _ _⟩, rfl, q2 hw _ _ (I.hok.fresh (Nat.le_refl _)) rfl⟩
theorem sl_any : SlR X (fun x lo hi H Q => rSlL X.K x lo hi H Q ∨ rSlN X.K x lo hi H Q ∨ rSlS x lo hi H Q) := by
  intro pins s σ H x v vl vu lo hi sl Q I rx hs pl pu h
  rcases h with h | h | h
  · exact sl_list pins s σ H x v vl vu lo hi sl Q I rx hs pl pu h
  · exact sl_tupN pins s σ H x v vl vu lo hi sl Q I rx hs pl pu h
  · exact sl_str pins s σ H x v vl vu lo hi sl Q I rx hs pl pu h
theorem cut_dp {K : PySem.W.Frag} {G : Hp} {vs : List V} {ds : List PyData} (h : DqAll K G vs ds) (lo hi : Option Int) : DqAll K G (cutV vs lo hi) (cutD ds lo hi) := by
  unfold cutV cutD
  rw [h.len]
  exact (h.drop _).take _
theorem cut_whole {vs : List V} {ds : List PyData} {lo hi : Option Int} (h : vs.length = ds.length) (hw : HT.sIx vs.length 0 lo = 0 ∧ HT.sIx vs.length vs.length hi = vs.length) : cutD ds lo hi = ds := by
  unfold cutD
  rw [← h, hw.1, hw.2, List.drop_zero, Nat.sub_zero, h, List.take_length]
theorem pd_slice {lo hi : Option Expr} {p2 : Pos} {L U : Po} (ha : PE X a (tD (km X) B W F)) (hl : PO X lo (tDP (km X) B W L)) (hu : PO X hi (tDP (km X) B W U)) : PE X (.Subscript a (.Slice lo hi none p2) pos) (tD (km X) B W (cutF F L U)) := by
  refine (pe_slice sl_any ha hl hu).of ?_
  rintro σ H Q ⟨G, ρ, E, S⟩
  refine ⟨G, ρ, E, (Sat.bind S).imp fun d ρ1 s1 v G1 H1 E1 g1 dp1 => ⟨G1, ρ1, E1, ((Sat.bind s1).up g1).imp fun l ρ2 s2 G2 H2 E2 g2 => ⟨G2, ρ2, E2, ((Sat.bind s2).up (g1.trans g2)).imp fun u ρ3 s3 G3 H3 E3 g3 => ?_⟩⟩⟩
  obtain ⟨z, hz, q⟩ := sat_opt s3
  have dp3 := dp_same (g2.trans g3) _ _ dp1
  have gg : Same G G3 := g1.trans (g2.trans g3)
  cases d <;> first | (cases hz; done) | skip
  · obtain ⟨hl, rfl⟩ := of_if hz
    cases dp3
    exact .inr (.inr ⟨_, rfl, hl, q _ _ _ E3 gg (.str _)⟩)
  · cases hz
    cases dp3 with
    | lst h1 h2 => exact .inl ⟨_, _, rfl, E3.base.gh.seq h1, fun p hp => q _ _ _ (E3.ext (Ext.new E3.base.gh hp)) (gg.trans (Ext.new E3.base.gh hp).g) (.lst (SqL.of upd_same) (dpAll_same (Ext.new E3.base.gh hp).g _ _ (cut_dp h2 l u)))⟩
  · cases hz
    cases dp3 with
    | tup h1 h2 =>
      refine .inr (.inl ⟨_, _, rfl, seqT_same E3.base.gh h1, fun hw => ?_, fun hw p o hp ho => ?_⟩)
      · have ed : cutD _ l u = _ := cut_whole h2.len hw
        rw [ed] at q
        exact q _ _ _ E3 gg (.tup h1 h2)
      · exact q _ _ _ (E3.ext (Ext.new E3.base.gh hp)) (gg.trans (Ext.new E3.base.gh hp).g) (.tup (SqN.of ho upd_same) (dpAll_same (Ext.new E3.base.gh hp).g _ _ (cut_dp h2 l u)))
def charsD (x : Str) : List PyData := x.cps.toList.map fun c => .str ⟨#[c]⟩
def itemsQ (F : Rho → Res PyData) : Rho → Res (List PyData) := fun ρ => (F ρ).bind fun d ρ => match d with
  | .list ds => .ok ds ρ
  | .tuple ds => .ok ds ρ
  | .str x => .ok (charsD x) ρ
  | _ => .bad
theorem walk_str {K : PySem.W.Frag} {G : Hp} (x : Str) : Walk K (charsD x) G (Its x) := by
  refine ⟨fun i d G2 H2 g gh hd => ?_, fun i G2 H2 g gh hi => ?_⟩
  · unfold charsD at hd
    rw [List.getElem?_map] at hd
    cases hc : x.cps.toList[i]? with
    | none => rw [hc] at hd; cases hd
    | some c =>
      rw [hc] at hd
      cases hd
      have hc' : x.cps[i]? = some c := by rw [← Array.getElem?_toList]; exact hc
      have hl : i < x.cps.size := by
        have := (List.getElem?_eq_some_iff.mp hc).1
        simpa using this
      refine ⟨hl, fun u H3 y => ?_⟩
      obtain ⟨rfl, c2, h2, rfl⟩ := y
      rw [hc'] at h2
      cases h2
      exact ⟨G2, Ext.refl gh, .str _⟩
  · show x.cps.size ≤ i
    rw [hi]
    unfold charsD
    simp
theorem pid_seq (hl : PE X e (tD (km X) B W F)) : PI X tg e (iD (km X) B W (itemsQ F)) := by
  refine ⟨fun pins s σ H R I h => ?_⟩
  obtain ⟨G, ρ, E, S⟩ := h
  unfold itemsQ at S
  cases hF : F ρ with
  | bad => rw [hF] at S; exact S.elim
  | ex x ρ1 =>
    rw [hF] at S
    refine (pid_list hl).run pins s σ H R I ⟨G, ρ, E, ?_⟩
    unfold itemsF
    rw [hF]
    exact S
  | ok d ρ1 =>
    rw [hF] at S
    cases d <;> first | exact S.elim | skip
    · rename_i x
      refine (pi_str hl).run pins s σ H R I ⟨G, ρ, E, ?_⟩
      rw [hF]
      intro v G' H' E' g' dp
      cases dp
      exact ⟨_, rfl, S _ G' H' E' g' (walk_str x)⟩
    · refine (pid_list hl).run pins s σ H R I ⟨G, ρ, E, ?_⟩
      unfold itemsF
      rw [hF]
      exact S
    · refine (pid_tup hl).run pins s σ H R I ⟨G, ρ, E, ?_⟩
      unfold itemsT
      rw [hF]
      exact S
end
end DL
namespace DL
open PySem PySem.Spec PyProof.Rows L2 RT
def frzE : Ent → Ent
  | .own xs => .d (.list xs)
  | e => e
def frz (ρ : Rho) : Rho := ρ.map frzE
def roE : Ent → Ent
  | .dct kvs => .rdd kvs
  | .ndc _ => .un
  | .exv => .un
  | e => e
def blkR (ρ : Rho) : Rho := (frz ρ).map roE
def wipeR (ρ : Rho) : List Nat → Rho
  | [] => ρ
  | v :: vs => (wipeR ρ vs).set v .un
def noOwn (ρ : Rho) : Prop := ∀ (i : Nat) (xs : List PyData), ρ[i]? ≠ some (.own xs)
theorem frz_noOwn (ρ : Rho) : noOwn (frz ρ) := fun i xs h => by
  unfold frz at h
  rw [List.getElem?_map] at h
  cases e : ρ[i]? with
  | none => rw [e] at h; cases h
  | some z => rw [e] at h; cases z <;> cases h
section
variable {m : KM} {B : Bx} {G H G' H' : Hp} {σ : L2.St} {ρ : Rho}
theorem DEnv.frzUp (E : DEnv m B G H σ ρ) : ∀ k : Nat, k ≤ ρ.length → ∃ Gf, Same G Gf ∧ DEnv m B Gf H σ ((ρ.take k).map frzE ++ ρ.drop k)
  | 0, _ => ⟨G, Same.refl _, by simpa using E⟩
  | k + 1, hk => by
    obtain ⟨Gf, sf, Ef⟩ := E.frzUp k (by omega)
    have hk' : k < ρ.length := by omega
    have hl : ((ρ.take k).map frzE).length = k := by rw [List.length_map, List.length_take]; omega
    have hd : ρ.drop k = ρ[k] :: ρ.drop (k + 1) := List.drop_eq_getElem_cons hk'
    have ht : (ρ.take (k + 1)).map frzE = (ρ.take k).map frzE ++ [frzE ρ[k]] := by
      rw [List.take_succ_eq_append_getElem hk', List.map_append]
      rfl
    rw [ht, List.append_assoc, List.singleton_append]
    rw [hd] at Ef
    generalize hz : ρ[k] = z at Ef ⊢
    cases z with
    | un => exact ⟨Gf, sf, Ef⟩
    | d x => exact ⟨Gf, sf, Ef⟩
    | dct x => exact ⟨Gf, sf, Ef⟩
    | rdd x => exact ⟨Gf, sf, Ef⟩
    | exv => exact ⟨Gf, sf, Ef⟩
    | ndc x => exact ⟨Gf, sf, Ef⟩
    | own xs =>
      have hk2 : ((ρ.take k).map frzE ++ Ent.own xs :: ρ.drop (k + 1))[k]? = some (.own xs) := by
        rw [List.getElem?_append_right (by omega), hl, Nat.sub_self]
        rfl
      obtain ⟨a, vs, h1, h2, h3, h4, h5, h6, h7⟩ := Ef.freeze hk2
      refine ⟨_, sf.trans h5, ?_⟩
      have e : ((ρ.take k).map frzE ++ Ent.own xs :: ρ.drop (k + 1)).set k (.d (.list xs)) = (ρ.take k).map frzE ++ frzE (.own xs) :: ρ.drop (k + 1) := by
        rw [List.set_append_right _ _ (by omega), hl, Nat.sub_self]
        rfl
      rw [← e]
      exact h7
theorem DEnv.frz (E : DEnv m B G H σ ρ) : ∃ Gf, Same G Gf ∧ DEnv m B Gf H σ (DL.frz ρ) := by
  obtain ⟨Gf, sf, Ef⟩ := E.frzUp ρ.length (Nat.le_refl _)
  rw [List.take_length, List.drop_length, List.append_nil] at Ef
  exact ⟨Gf, sf, Ef⟩
theorem ro_get {i : Nat} {e : Ent} (h : (ρ.map roE)[i]? = some e) : ∃ e', ρ[i]? = some e' ∧ e = roE e' := by
  rw [List.getElem?_map] at h
  cases q : ρ[i]? with
  | none => rw [q] at h; cases h
  | some z => rw [q] at h; cases h; exact ⟨z, rfl, rfl⟩
theorem DEnv.anew (E : DEnv m B G H σ ρ) (n : noOwn ρ) (g : Same G G') (h' : Same H H') (gh : Same G' H') : DEnv m ⟨G', H', 0⟩ G' H' σ (ρ.map roE) := by
  have no : ∀ (i : Nat) (xs : List PyData), (ρ.map roE)[i]? ≠ some (.own xs) := fun i xs h => by
    obtain ⟨e', h1, h2⟩ := ro_get h
    cases e' <;> first | (cases h2; done) | (cases h2; exact n i _ h1)
  refine ⟨Ext.refl gh, by rw [List.length_map]; exact E.len, fun i e h => ?_, fun i j a xs ys h => absurd h (no i xs), fun i j a kvs f h => ?_⟩
  · obtain ⟨e', h1, rfl⟩ := ro_get h
    have q := E.ent i e' h1
    generalize hs : σ[i]? = o at q
    cases q with
    | un => exact .un
    | d z => exact .d (dp_same g _ _ z)
    | own z1 z2 z3 z4 => exact absurd h1 (n i _)
    | dct z1 z2 z3 z4 => exact .rdd (h' _ _ z1) (dk_same g z4)
    | rdd z1 z4 => exact .rdd (h' _ _ z1) (dk_same g z4)
    | exv => exact .un
    | ndc _ _ _ _ => exact .un
  · obtain ⟨e', h1, h2⟩ := ro_get h
    cases e' <;> cases h2
theorem DEnv.frzNew {D : Addr} {o : List V} (E : DEnv m B G H σ ρ) (n : noOwn ρ) (hG : G D = none) (hH : H D = some (.lst o)) (hB : B.H D = none) : DEnv m B (upd G D (.lst o)) H σ ρ := by
  have sg : Same G (upd G D (.lst o)) := upd_same_of hG
  refine ⟨⟨E.base.g.trans sg, E.base.h, fun b u e => ?_, fun b h1 h2 => ?_⟩, E.len, fun i e h => ?_, fun i j a xs ys h => absurd h (n i xs), E.disD⟩
  · by_cases hb : b = D
    · subst hb; rw [upd_same] at e; cases e; exact hH
    · rw [upd_ne hb] at e; exact E.base.gh _ _ e
  · rw [upd_ne (fun z => h1 (by rw [z]; exact hB))]
    exact E.base.cap b h1 h2
  · have q := E.ent i e h
    generalize hs : σ[i]? = o2 at q
    cases q with
    | un => exact .un
    | d z => exact .d (dp_same sg _ _ z)
    | own z1 z2 z3 z4 => exact absurd h (n i _)
    | dct z1 z2 z3 z4 =>
      refine .dct z1 ?_ z3 (dk_same sg z4)
      rw [upd_ne (ne_of z1 hH fun z => nomatch z)]
      exact z2
    | rdd z1 z4 => exact .rdd z1 (dk_same sg z4)
    | exv => exact .exv
    | ndc z1 z2 z3 z4 =>
      refine .ndc z1 ?_ z3 (ndk_same sg z4)
      rw [upd_ne (ne_of z1 hH fun z => nomatch z)]
      exact z2
theorem DEnv.wipe (E : DEnv m B G H σ ρ) : ∀ (vs : List Nat), (∀ v ∈ vs, v < ρ.length) → DEnv m B G H (L2.wipe σ vs) (wipeR ρ vs) ∧ (wipeR ρ vs).length = ρ.length
  | [], _ => ⟨E, rfl⟩
  | v :: vs, h => by
    obtain ⟨h1, h2⟩ := E.wipe vs fun x hx => h x (List.mem_cons_of_mem _ hx)
    refine ⟨h1.drop (by rw [h2]; exact h v List.mem_cons_self), ?_⟩
    show ((wipeR ρ vs).set v .un).length = _
    rw [List.length_set]
    exact h2
end
def gW (m : KM) (vs : List Nat) (T : Tg) : TG := fun v σ H Q => ∃ B G ρ d ρ', DEnv m B G H σ ρ ∧ Dq m.K G v d ∧ T d ρ = some ρ' ∧ ∀ σ', DEnv m B G H σ' ρ' → L2.wipe σ' vs = L2.wipe σ vs → Q σ' H
def gWs (m : KM) (vs : List Nat) (U : Tgs) : TGs := fun xs σ H Q => ∃ B G ρ ds ρ', DEnv m B G H σ ρ ∧ DqAll m.K G xs ds ∧ U ds ρ = some ρ' ∧ ∀ σ', DEnv m B G H σ' ρ' → L2.wipe σ' vs = L2.wipe σ vs → Q σ' H
theorem wipe_set {σ : L2.St} {i : Nat} {x : Option V} : ∀ {vs : List Nat}, i ∈ vs → L2.wipe (σ.set i x) vs = L2.wipe σ vs
  | v :: vs, h => by
    unfold L2.wipe
    by_cases hi : i ∈ vs
    · rw [wipe_set hi]
    · have e : i = v := by
        rcases List.mem_cons.mp h with z | z
        · exact z
        · exact absurd z hi
      subst e
      have q : ∀ {ws : List Nat}, i ∉ ws → L2.wipe (σ.set i x) ws = (L2.wipe σ ws).set i x := by
        intro ws
        induction ws with
        | nil => intro _; rfl
        | cons w ws ih =>
          intro hn
          unfold L2.wipe
          rw [ih fun z => hn (List.mem_cons_of_mem _ z)]
          rw [List.set_comm _ _ (fun z => hn (by rw [z]; exact List.mem_cons_self))]
      rw [q hi, List.set_set]
  | [], h => absurd h (by simp)
theorem wipe_get {τ : L2.St} {i : Nat} : ∀ {vs : List Nat}, (L2.wipe τ vs)[i]? = if i ∈ vs then (τ[i]?).map (fun _ => none) else τ[i]?
  | [] => by simp [L2.wipe]
  | v :: vs => by
    unfold L2.wipe
    by_cases hi : v = i
    · subst hi
      rw [if_pos List.mem_cons_self]
      by_cases hl : v < τ.length
      · rw [List.getElem?_set_self (by rw [L2.wipe_length]; exact hl), List.getElem?_eq_getElem hl]
        rfl
      · rw [List.getElem?_eq_none (by rw [List.length_set, L2.wipe_length]; omega), List.getElem?_eq_none (by omega)]
        rfl
    · rw [List.getElem?_set_ne hi, wipe_get (vs := vs)]
      by_cases h : i ∈ vs
      · rw [if_pos h, if_pos (List.mem_cons_of_mem _ h)]
      · rw [if_neg h, if_neg]
        intro z
        rcases List.mem_cons.mp z with z | z
        · exact hi z.symm
        · exact h z
theorem wipe_idem {τ : L2.St} {vs : List Nat} : L2.wipe (L2.wipe τ vs) vs = L2.wipe τ vs := by
  apply List.ext_getElem?
  intro i
  rw [wipe_get, wipe_get]
  by_cases h : i ∈ vs
  · rw [if_pos h, if_pos h]
    cases τ[i]? <;> rfl
  · rw [if_neg h]
section
variable {X : L2.Cx} {B : Bx} {W : WX} {pos : Pos} {vs : List Nat}
theorem pgw_name (i : Nat) {x : Str} (hN : X.N.Nodup) (hv : i ∈ vs := by decide) (hi : X.N[i]? = some x := by rfl) (hx : Loc X.env.scope x := by first | exact Or.inl rfl | exact Or.inr rfl) (hf : X.fn x = true ∨ X.env.scope.names.lookup x = some .local := by first | exact .inl rfl | exact .inr rfl | assumption) : PG X (.Name x pos) (gW (km X) vs (nameT i)) := by
  refine (pg_name hN hi hx hf).of ?_
  rintro v σ H Q ⟨B, G, ρ, d, ρ', E, dp, hT, q⟩
  obtain ⟨hl, rfl⟩ := of_if hT
  exact q _ (E.put hl dp) (wipe_set hv)
theorem pgws_nil : PGs X [] (gWs (km X) vs nilTs) := by
  refine pgs_nil.of ?_
  rintro xs σ H Q ⟨B, G, ρ, ds, ρ', E, dp, hT, q⟩
  cases dp with
  | nil => cases hT; exact ⟨rfl, q _ E rfl⟩
  | cons _ _ => cases hT
theorem pgws_cons {e : Expr} {es : List Expr} {T : Tg} {U : Tgs} (h1 : PG X e (gW (km X) vs T)) (h2 : PGs X es (gWs (km X) vs U))
    (hs : (assignEach (e :: es) X.env).map (·.2) = assign e X.env :: (assignEach es X.env).map (·.2) := by rfl) : PGs X (e :: es) (gWs (km X) vs (consTs T U)) := by
  refine (pgs_cons h1 h2 hs).of ?_
  rintro xs σ H Q ⟨B, G, ρ, ds, ρ', E, dp, hT, q⟩
  cases dp with
  | nil => cases hT
  | cons d1 d2 =>
    rename_i v vs' d ds
    cases e1 : T d ρ with
    | none => unfold consTs at hT; dsimp only at hT; rw [e1] at hT; cases hT
    | some ρ1 =>
      unfold consTs at hT; dsimp only at hT; rw [e1] at hT
      exact ⟨v, vs', rfl, B, G, ρ, d, ρ1, E, d1, e1, fun σ1 E1 w1 => ⟨B, G, ρ1, ds, ρ', E1, d2, hT, fun σ2 E2 w2 => q σ2 E2 (w2.trans w1)⟩⟩
theorem pgw_tup {es : List Expr} {k n : Nat} {U : Tgs} (hc : X.calm = true) (h : PGs X es (gWs (km X) vs U))
    (hn : (assignEach es X.env).length = n := by rfl) (hst : (assignEach es X.env).findIdx? (·.1) = none := by rfl) : PG X (.Tuple es k pos) (gW (km X) vs (tupT n U)) := by
  refine (pg_tup hc h hn hst).of ?_
  rintro v σ H Q ⟨B, G, ρ, d, ρ', E, dp, hT, q⟩
  cases d <;> first | (cases hT; done) | skip
  obtain ⟨hl, hT⟩ := of_ifo hT
  cases dp with
  | tup h1 h2 => exact ⟨_, _, rfl, seqT_same E.base.gh h1, by rw [h2.len]; exact hl, B, G, ρ, _, ρ', E, h2, hT, q⟩
def compL (T : Tg) (Tt : Rho → Res Bool) (F : Rho → Res PyData) (ρ : Rho) : List PyData → List PyData → Option (List PyData)
  | [], acc => some acc
  | d :: ds, acc => match T d ρ with
    | none => none
    | some ρ2 => match Tt ρ2 with
      | .ok false _ => compL T Tt F ρ ds acc
      | .ok true ρ3 => match F ρ3 with
        | .ok y _ => if acc.length < sizeLine then compL T Tt F ρ ds (acc ++ [y]) else none
        | _ => none
      | _ => none
def yesT : Rho → Res Bool := fun ρ => .ok true ρ
def lcF (vs : List Nat) (Fi : Rho → Res (List PyData)) (T : Tg) (Tt : Rho → Res Bool) (F : Rho → Res PyData) : Rho → Res PyData := fun ρ => (Fi ρ).bind fun ds ρ1 =>
  if (∀ v ∈ vs, v < ρ1.length) then (match compL T Tt F (wipeR (blkR ρ1) vs) ds [] with
    | some r => .ok (.list r) (frz ρ1)
    | none => .bad) else .bad
def exT (m : KM) (F : Rho → Res Bool) : TT := fun σ H Q => ∃ B, tDT m B (fun _ _ _ _ => False) F σ H Q
def exE (m : KM) (F : Rho → Res PyData) : TE := fun σ H Q => ∃ B, tD m B (fun _ _ _ _ => False) F σ H Q
theorem pts_nilD : PTs X [] (exT (km X) yesT) := ⟨fun pins s σ H Q I ⟨B, G, ρ, E, S⟩ => pts_nil.run pins s σ H Q I (S G H E (Same.refl _))⟩
theorem pts_oneD {c : Expr} {F : Rho → Res Bool} (h : ∀ B, PT X c (tDT (km X) B (fun _ _ _ _ => False) F)) : PTs X [c] (exT (km X) F) := ⟨fun pins s σ H Q I ⟨B, q⟩ => (pts_one (h B)).run pins s σ H Q I q⟩
theorem pe_ex {e : Expr} {F : Rho → Res PyData} (h : ∀ B, PE X e (tD (km X) B (fun _ _ _ _ => False) F)) : PE X e (exE (km X) F) := ⟨fun pins s σ H Q I ⟨B, q⟩ => (h B).run pins s σ H Q I q⟩
theorem t_lc {Fi : Rho → Res (List PyData)} {T : Tg} {Tt : Rho → Res Bool} {F : Rho → Res PyData} {σ : L2.St} {H G : Hp} {ρ : Rho} {Q : VK} (E : DEnv (km X) B G H σ ρ) (S : Sat (km X) B W G σ (Fi ρ) fun ds ρ1 => (∀ v ∈ vs, v < ρ1.length) ∧ ∃ r, compL T Tt F (wipeR (blkR ρ1) vs) ds [] = some r ∧
      ∀ D accV G' H', DEnv (km X) B G' H' σ (frz ρ1) → Same G G' → H' D = some (.lst accV) → G' D = none → B.H D = none → DqAll X.K G' accV r → Q (.ref D) H') :
    tLc (iD (km X) B W Fi) (gW (km X) vs T) (exT (km X) Tt) (exE (km X) F) vs σ H Q := by
  refine ⟨G, ρ, E, S.imp fun ds ρ1 s1 J G1 H1 E1 g1 wk D hD => ?_⟩
  obtain ⟨hv, r, hr, q⟩ := s1
  obtain ⟨Gf, sf, Ef⟩ := E1.frz
  have no := frz_noOwn ρ1
  have hD0 : B.H D = none := E1.base.h.free hD
  refine ⟨fun i m H => m = ds.length - i ∧ i ≤ ds.length ∧ ∃ G acc accV, Ext Gf H1 G H ∧ H D = some (.lst accV) ∧ G D = none ∧ DqAll X.K G accV acc ∧ compL T Tt F (wipeR (blkR ρ1) vs) (ds.drop i) acc = some r,
    ⟨_, rfl, Nat.zero_le _, Gf, [], [], Ext.newOwn Ef.base.gh hD, upd_same, Ef.base.gh.free hD, .nil, hr⟩, ?_⟩
  rintro i m H2 ⟨rfl, hi, G2, acc, accV, x2, hH, hG, da, hc⟩
  by_cases hl : i < ds.length
  · have hd : ds[i]? = some ds[i] := List.getElem?_eq_getElem hl
    obtain ⟨w1, w2⟩ := wk.go i _ G2 H2 (sf.trans x2.g) x2.gh hd
    refine .inr ⟨w1, fun H' => ∃ G acc accV, Ext Gf H1 G H' ∧ H' D = some (.lst accV) ∧ G D = none ∧ DqAll X.K G accV acc ∧ compL T Tt F (wipeR (blkR ρ1) vs) (ds.drop (i + 1)) acc = some r, fun H' n => ⟨ds.length - (i + 1), by omega, rfl, hl, n⟩, fun v H3 y => ?_⟩
    obtain ⟨G3, x3, dp⟩ := w2 v H3 y
    have hH3 : H3 D = some (.lst accV) := x3.h _ _ hH
    have hG3 : G3 D = none := x3.cap D (by rw [hH]; exact fun z => nomatch z) hG
    have E3 : DEnv (km X) ⟨G3, H3, 0⟩ G3 H3 σ (blkR ρ1) := Ef.anew no (x2.g.trans x3.g) (x2.h.trans x3.h) x3.gh
    have E3w := (E3.wipe vs (by unfold blkR frz; rw [List.length_map, List.length_map]; exact hv)).1
    rw [List.drop_eq_getElem_cons hl] at hc
    unfold compL at hc
    cases hT : T ds[i] (wipeR (blkR ρ1) vs) with
    | none => rw [hT] at hc; cases hc
    | some ρ2 =>
      rw [hT] at hc
      dsimp only at hc
      refine ⟨⟨G3, H3, 0⟩, G3, _, ds[i], ρ2, E3w, dp, hT, fun σ2 E2 w => ⟨?_, ?_⟩⟩
      · exact w.trans wipe_idem
      · refine ⟨⟨G3, H3, 0⟩, G3, ρ2, E2, ?_⟩
        cases hTt : Tt ρ2 with
        | bad => rw [hTt] at hc; cases hc
        | ex x ρ3 => rw [hTt] at hc; cases hc
        | ok b ρ3 =>
          rw [hTt] at hc
          intro G4 H4 E4 g4
          have x4 : Ext G3 H3 G4 H4 := E4.base
          cases b with
          | false =>
            rw [if_neg (by decide)]
            exact ⟨G4, acc, accV, x2.trans (x3.trans x4), x4.h _ _ hH3, x4.cap D (by rw [hH3]; exact fun z => nomatch z) hG3, dpAll_same (x3.g.trans x4.g) _ _ da, hc⟩
          | true =>
            rw [if_pos rfl]
            dsimp only at hc
            refine ⟨⟨G3, H3, 0⟩, G4, ρ3, E4, ?_⟩
            cases hF : F ρ3 with
            | bad => rw [hF] at hc; cases hc
            | ex x ρ4 => rw [hF] at hc; cases hc
            | ok y ρ4 =>
              rw [hF] at hc
              intro u G5 H5 E5 g5 dp5
              dsimp only at hc
              have x5 : Ext G3 H3 G5 H5 := E5.base
              have hH5 : H5 D = some (.lst accV) := x5.h _ _ hH3
              have hG5 : G5 D = none := x5.cap D (by rw [hH3]; exact fun z => nomatch z) hG3
              have x : Ext Gf H1 G5 H5 := x2.trans (x3.trans x5)
              by_cases hlen : acc.length < sizeLine
              · rw [if_pos hlen] at hc
                refine ⟨accV, hH5, by rw [da.len]; exact hlen, G5, acc ++ [y], accV ++ [u], ⟨x.g, fun b o e => ?_, fun b o e => ?_, x.cap⟩, upd_same, hG5, (dpAll_same (x3.g.trans x5.g) _ _ da).append (.cons dp5 .nil), hc⟩
                · rw [upd_ne (ne_of_none e hD)]
                  exact x.h _ _ e
                · rw [upd_ne (ne_of_none e hG5)]
                  exact x.gh _ _ e
              · rw [if_neg hlen] at hc
                cases hc
  · have hi' : i = ds.length := by omega
    subst hi'
    rw [List.drop_length] at hc
    unfold compL at hc
    cases hc
    exact .inl ⟨wk.stop _ G2 H2 (sf.trans x2.g) x2.gh rfl, q D accV G2 H2 (Ef.ext x2) (g1.trans (sf.trans x2.g)) hH hG hD0 da⟩
theorem pd_lc {elt tg iter : Expr} {ifs : List Expr} {scope : Scope} {own : List (Str × Nat)} {Fi : Rho → Res (List PyData)} {T : Tg} {Tt : Rho → Res Bool} {F : Rho → Res PyData} (hc : X.calm = true) (hN : X.N.Nodup) (hi : PI X tg iter (iD (km X) B W Fi)) (ok : BlkOk X.N X.env.scope scope own)
    (hg : ∀ (s : Shared) (H : Hp) (C : Addr) (cl : List (Str × Addr)) (fp : List Addr), PG (X.blk s H scope (compEnvC scope cl C X.env) fp) tg (gW (km X) (own.map (·.2)) T)) (ht : ∀ (s : Shared) (H : Hp) (C : Addr) (cl : List (Str × Addr)) (fp : List Addr), PTs (X.blk s H scope (compEnvC scope cl C X.env) fp) ifs (exT (km X) Tt))
    (he : ∀ (s : Shared) (H : Hp) (C : Addr) (cl : List (Str × Addr)) (fp : List Addr) (B : Bx), PE (X.blk s H scope (compEnvC scope cl C X.env) fp) elt (tD (km X) B (fun _ _ _ _ => False) F)) (hs : ∀ x, foldedSetIterable iter X.env x = pure x := by intro _; rfl) :
    PE X (.ListComp elt [⟨tg, iter, ifs, 0⟩] scope pos) (tD (km X) B W (lcF (own.map (·.2)) Fi T Tt F)) := by
  refine (pe_lc (te := exE (km X) F) hc hN hi ok hg ht (fun s H C cl fp => pe_ex (X := X.blk s H scope (compEnvC scope cl C X.env) fp) (he s H C cl fp)) hs).of ?_
  rintro σ H Q ⟨G, ρ, E, S⟩
  refine t_lc E ((Sat.bind S).imp fun ds ρ1 s1 => ?_)
  by_cases hv : ∀ v ∈ own.map (·.2), v < ρ1.length
  · rw [if_pos hv] at s1
    refine ⟨hv, ?_⟩
    cases hr : compL T Tt F (wipeR (blkR ρ1) (own.map (·.2))) ds [] with
    | none => rw [hr] at s1; exact s1.elim
    | some r =>
      rw [hr] at s1
      refine ⟨r, rfl, fun D accV G' H' E' g' hH hG hB da => ?_⟩
      have sg : Same G' (upd G' D (.lst accV)) := upd_same_of hG
      exact s1 (.ref D) (upd G' D (.lst accV)) H' (E'.frzNew (frz_noOwn ρ1) hG hH hB) (g'.trans sg) (.lst (SqL.of upd_same) (dpAll_same sg _ _ da))
  · rw [if_neg hv] at s1
    exact s1.elim
def lcS (i : Nat) (vs : List Nat) (Fi : Rho → Res (List PyData)) (T : Tg) (Tt : Rho → Res Bool) (F : Rho → Res PyData) : Rho → Out := fun ρ => (Fi ρ).out fun ds ρ1 =>
  if (∀ v ∈ vs, v < ρ1.length) ∧ i < ρ1.length then (match compL T Tt F (wipeR (blkR ρ1) vs) ds [] with
    | some r => .nx ((frz ρ1).set i (.own r))
    | none => .bad) else .bad
theorem pd_setLc (i : Nat) {y : Str} {py spos : Pos} {elt tg iter : Expr} {ifs : List Expr} {scope : Scope} {own : List (Str × Nat)} {Fi : Rho → Res (List PyData)} {T : Tg} {Tt : Rho → Res Bool} {F : Rho → Res PyData} (hc : X.calm = true) (hN : X.N.Nodup) (hsw : swapsWith (.ListComp elt [⟨tg, iter, ifs, 0⟩] scope pos) (some (.Name y py)) spos.line X.env = pure true) (hi : PI X tg iter (iD (km X) B W Fi)) (ok : BlkOk X.N X.env.scope scope own)
    (hg : ∀ (s : Shared) (H : Hp) (C : Addr) (cl : List (Str × Addr)) (fp : List Addr), PG (X.blk s H scope (compEnvC scope cl C X.env) fp) tg (gW (km X) (own.map (·.2)) T)) (ht : ∀ (s : Shared) (H : Hp) (C : Addr) (cl : List (Str × Addr)) (fp : List Addr), PTs (X.blk s H scope (compEnvC scope cl C X.env) fp) ifs (exT (km X) Tt))
    (he : ∀ (s : Shared) (H : Hp) (C : Addr) (cl : List (Str × Addr)) (fp : List Addr) (B : Bx), PE (X.blk s H scope (compEnvC scope cl C X.env) fp) elt (tD (km X) B (fun _ _ _ _ => False) F)) (hy : X.N[i]? = some y := by rfl) (hyl : X.env.scope.names.lookup y = some .local := by rfl) (hs : ∀ x, foldedSetIterable iter X.env x = pure x := by intro _; rfl) :
    PS X (.Assign [.Name y py] (.ListComp elt [⟨tg, iter, ifs, 0⟩] scope pos) spos) (tDS (km X) B W (lcS i (own.map (·.2)) Fi T Tt F)) := by
  refine (ps_setLc (te := exE (km X) F) hc hN hy hyl hsw hi ok hg ht (fun s H C cl fp => pe_ex (X := X.blk s H scope (compEnvC scope cl C X.env) fp) (he s H C cl fp)) hs).of ?_
  rintro D σ H ⟨G, ρ, E, S⟩
  refine t_lc E ((SatS.out S).imp fun ds ρ1 s1 => ?_)
  by_cases hv : (∀ v ∈ own.map (·.2), v < ρ1.length) ∧ i < ρ1.length
  · rw [if_pos hv] at s1
    refine ⟨hv.1, ?_⟩
    cases hr : compL T Tt F (wipeR (blkR ρ1) (own.map (·.2))) ds [] with
    | none => rw [hr] at s1; exact s1.elim
    | some r =>
      rw [hr] at s1
      refine ⟨r, rfl, fun D accV G' H' E' g' hH hG hB da => ?_⟩
      have no := frz_noOwn ρ1
      have hi' : i < (frz ρ1).length := by unfold frz; rw [List.length_map]; exact hv.2
      have his : i < σ.length := by rw [← E'.len]; exact hi'
      refine s1 (σ.set i (some (.ref D))) G' H' ⟨E'.base, by simpa using E'.len, fun j e hj => ?_, fun j k a xs ys hj hk s1 s2 => ?_, E'.disD.set0 rfl fun j hj => List.getElem?_set_ne fun z => hj z.symm⟩ g'
      · by_cases hji : j = i
        · subst hji
          rw [List.getElem?_set_self hi'] at hj
          cases hj
          rw [List.getElem?_set_self his]
          exact .own hH hG hB da
        · rw [List.getElem?_set_ne (fun z => hji z.symm)] at hj ⊢
          exact E'.ent j e hj
      · have only : ∀ (j : Nat) (xs : List PyData), ((frz ρ1).set i (.own r))[j]? = some (.own xs) → j = i := fun j xs h => by
          apply Classical.byContradiction
          intro hji
          rw [List.getElem?_set_ne (fun z => hji z.symm)] at h
          exact no j xs h
        rw [only j xs hj, only k ys hk]
  · rw [if_neg hv] at s1
    exact s1.elim
end
end DL
namespace DL
open PySem PySem.Spec PyProof.Rows L2 RT
section
variable {X : L2.Cx} {B : Bx} {W : WX} {pos : Pos} {a b e : Expr} {F F1 F2 : Rho → Res PyData}
def truth : PyData → Option Bool
  | .none => some false
  | .bool b => some b
  | .int i => some (i != 0)
  | .str x => if x.length ≤ sizeLine then some ((x.length : Int) != 0) else none
  | .list xs => some (!xs.isEmpty)
  | .tuple xs => some (!xs.isEmpty)
  | .dict _ => none
def truF (F : Rho → Res PyData) : Rho → Res Bool := fun ρ => (F ρ).bind fun d ρ => optR (truth d) ρ
theorem empty_dp {K : PySem.W.Frag} {G : Hp} {vs : List V} {ds : List PyData} (h : DqAll K G vs ds) : ds.isEmpty = vs.isEmpty := by
  cases h <;> rfl
theorem pd_tru (h : PE X e (tD (km X) B W F)) (he : ∀ whole, isTrue e X.env whole = (do let v ← whole; standAt e.pos; holding [v] (truthy v)) := by intro _; rfl) : PT X e (tDT (km X) B W (truF F)) := by
  refine (pt_truth h he).of ?_
  rintro σ H Q ⟨G, ρ, E, S⟩
  refine ⟨G, ρ, E, (Sat.bind S).imp fun d ρ1 s1 v G1 H1 E1 g1 dp1 => ?_⟩
  obtain ⟨k, hk, q⟩ := sat_opt s1
  cases d <;> first | (cases hk; done) | skip
  · cases hk; cases dp1; exact ⟨_, rfl, q G1 H1 E1 g1⟩
  · cases hk; cases dp1; exact ⟨_, rfl, q G1 H1 E1 g1⟩
  · cases hk; cases dp1; exact ⟨_, rfl, q G1 H1 E1 g1⟩
  · cases dp1
    obtain ⟨hl, rfl⟩ := of_if hk
    exact ⟨_, ⟨hl, rfl⟩, q G1 H1 E1 g1⟩
  · cases hk
    cases dp1 with
    | lst h1 h2 => exact ⟨_, .inl ⟨_, E1.base.gh.seq h1, by rw [empty_dp h2]⟩, q G1 H1 E1 g1⟩
  · cases hk
    cases dp1 with
    | tup h1 h2 => exact ⟨_, .inr (.inl ⟨_, seqT_same E1.base.gh h1, by rw [empty_dp h2]⟩), q G1 H1 E1 g1⟩
theorem hu65 {k : Nat} {A : Around} (hr : Room k A) : A.units + 65 < cLine := by have := hr.un; omega
def bTuple : PyData → Option PyData
  | .list xs => some (.tuple xs)
  | .tuple xs => some (.tuple xs)
  | _ => none
def bList : PyData → Option PyData
  | .list xs => some (.list xs)
  | .tuple xs => some (.list xs)
  | _ => none
theorem call_tupleN : CallR X (.type "tuple") (fun xs H Q => ∃ p ys, xs = [.ref p] ∧ ((SqL X.K H p ys ∧ ∀ (l : Addr) (o : Obj), H l = none → o.dict = none → Q (.ref l) (upd H l (.frz o (.tup ys)))) ∨ (SqT X.K H p ys ∧ Q (.ref p) H))) := by
  intro pins s σ H xs us Q I r h
  obtain ⟨p, ys, rfl, h⟩ := h
  rcases h with ⟨hq, q⟩ | ⟨hq, q⟩
  · obtain ⟨u, rfl, rx⟩ := vals1 r
    cases rx
    obtain ⟨its, r', pl, hz⟩ := I.list hq
    have hlen := r'.length
    refine call_tuple_list pl.isList (fun h' kp => ?_) (by simp only [List.size_toArray] <;> omega)
    have I1 : Inv X pins σ H { s with heap := h' } := I.kept (t' := s.toks) kp
    exact ⟨.ref h'.objs.size, _, I1.laid (t' := s.toks) (o := .frz _ (.tup ys)) (fun b o e => Heap.get?_push_of_some _ e) (Nat.le_refl _) ⟨Heap.get?_push_size _ rfl, hz, its, r', IsTup.new _ _⟩, rfl, q _ _ (I1.hok.fresh (Nat.le_refl _)) rfl⟩
  · exact call_tuple_of pins s σ H _ us Q I r ⟨p, ys, rfl, .inr ⟨hq, q⟩⟩
theorem rd_tuple : RDs X.K (fun xs H Q => ∃ p ys, xs = [.ref p] ∧ ((SqL X.K H p ys ∧ ∀ (l : Addr) (o : Obj), H l = none → o.dict = none → Q (.ref l) (upd H l (.frz o (.tup ys)))) ∨ (SqT X.K H p ys ∧ Q (.ref p) H))) (app1 bTuple) := by
  refine rds1 fun G H x d z Q gh h1 hz q => ?_
  cases d <;> first | (cases hz; done) | skip
  · cases hz
    cases h1 with
    | lst a1 a2 => exact ⟨_, _, rfl, .inl ⟨gh.seq a1, fun p o hp ho => q _ _ _ (Ext.new gh hp) (.tup (SqN.of ho upd_same) (dpAll_same (Ext.new gh hp).g _ _ a2))⟩⟩
  · cases hz
    cases h1 with
    | tup a1 a2 => exact ⟨_, _, rfl, .inr ⟨seqT_same gh a1, q _ _ _ (Ext.refl gh) (.tup a1 a2)⟩⟩
def leS (x y : Str) : Prop := x.cps.toList ≤ y.cps.toList
instance (x y : Str) : Decidable (leS x y) := inferInstanceAs (Decidable (x.cps.toList ≤ y.cps.toList))
theorem leS_trans {x y z : Str} (h : leS x y) (q : leS y z) : leS x z := List.le_trans h q
theorem leS_total (x y : Str) : leS x y ∨ leS y x := List.le_total _ _
theorem leS_anti {x y : Str} (h : leS x y) (q : leS y x) : x = y := by
  have e : x.cps.toList = y.cps.toList := List.le_antisymm h q
  cases x; cases y
  congr 1
  exact Array.toList_inj.mp e
def insS (x : Str) : List Str → List Str
  | [] => [x]
  | y :: r => if leS x y then x :: y :: r else y :: insS x r
def sortS : List Str → List Str
  | [] => []
  | x :: r => insS x (sortS r)
theorem insS_perm (x : Str) : ∀ l : List Str, (insS x l).Perm (x :: l)
  | [] => List.Perm.refl _
  | y :: r => by
    unfold insS
    split
    · exact List.Perm.refl _
    · exact ((insS_perm x r).cons y).trans (List.Perm.swap x y r)
theorem sortS_perm : ∀ l : List Str, (sortS l).Perm l
  | [] => List.Perm.refl _
  | x :: r => (insS_perm x _).trans ((sortS_perm r).cons x)
theorem insS_sorted (x : Str) : ∀ l : List Str, l.Pairwise leS → (insS x l).Pairwise leS
  | [], _ => by simp [insS]
  | y :: r, h => by
    have hy : ∀ {z : Str}, z ∈ r → leS y z := fun hz => List.rel_of_pairwise_cons h hz
    unfold insS
    split
    · rename_i hx
      refine List.Pairwise.cons (fun z hz => ?_) h
      rcases List.mem_cons.mp hz with rfl | hz
      · exact hx
      · exact leS_trans hx (hy hz)
    · rename_i hx
      have hx' : leS y x := (leS_total y x).resolve_right hx
      refine List.Pairwise.cons (fun z hz => ?_) (insS_sorted x r h.of_cons)
      rcases List.mem_cons.mp ((insS_perm x r).mem_iff.mp hz) with rfl | hz
      · exact hx'
      · exact hy hz
theorem sortS_sorted : ∀ l : List Str, (sortS l).Pairwise leS
  | [] => .nil
  | x :: r => insS_sorted x _ (sortS_sorted r)
theorem sorted_unique : ∀ {xs ys : List Str}, xs.Perm ys → xs.Pairwise leS → ys.Pairwise leS → xs = ys
  | [], ys, p, _, _ => (List.Perm.nil_eq p)
  | x :: xs, [], p, _, _ => by have := p.length_eq; simp at this
  | x :: xs, y :: ys, p, h, q => by
    have e : x = y := by
      have h1 : x ∈ y :: ys := p.mem_iff.mp List.mem_cons_self
      have h2 : y ∈ x :: xs := p.mem_iff.mpr List.mem_cons_self
      rcases List.mem_cons.mp h1 with z | z
      · exact z
      · rcases List.mem_cons.mp h2 with w | w
        · exact w.symm
        · exact leS_anti (List.rel_of_pairwise_cons h w) (List.rel_of_pairwise_cons q z)
    subst e
    rw [sorted_unique (List.Perm.cons_inv p) h.of_cons q.of_cons]
theorem rising_pairwise : ∀ (l : List Str) (p : Str), PyProof.Rows.risingS p l = true → (p :: l).Pairwise leS
  | [], p, _ => by simp
  | x :: r, p, h => by
    have hh : (PySem.Spec.ltCps x.cps.toList p.cps.toList = false) ∧ PyProof.Rows.risingS x r = true := by
      simp only [PyProof.Rows.risingS, Bool.and_eq_true, Bool.not_eq_true'] at h
      exact h
    have le : leS p x := by
      have := hh.1
      rw [ltCps_eq] at this
      exact List.not_lt.mp (of_decide_eq_false this)
    have ih := rising_pairwise r x hh.2
    refine List.Pairwise.cons (fun z hz => ?_) ih
    rcases List.mem_cons.mp hz with rfl | hz
    · exact le
    · exact leS_trans le (List.rel_of_pairwise_cons ih hz)
theorem sortedS_eq {xs ys : List Str} (p : ys.Perm xs) (h : PyProof.Rows.sortedS ys = true) : ys = sortS xs := by
  refine sorted_unique (p.trans (sortS_perm xs).symm) ?_ (sortS_sorted xs)
  cases ys with
  | nil => exact .nil
  | cons y r => exact rising_pairwise r y h
def strsOf : List PyData → Option (List Str)
  | [] => some []
  | .str x :: r => (strsOf r).map (x :: ·)
  | _ => none
theorem strsOf_eq : ∀ {ds : List PyData} {xs : List Str}, strsOf ds = some xs → ds = xs.map PyData.str
  | [], xs, h => by cases h; rfl
  | d :: ds, xs, h => by
    cases d <;> first | (cases h; done) | skip
    rename_i x
    cases e : strsOf ds with
    | none => simp [strsOf, e] at h
    | some zs =>
      simp [strsOf, e] at h
      subst h
      rw [strsOf_eq e]
      rfl
theorem strs_dp {K : PySem.W.Frag} {G : Hp} : ∀ {xs : List Str} {vs : List V}, DqAll K G vs (xs.map PyData.str) → vs = xs.map V.str
  | [], _, h => by cases h; rfl
  | x :: xs, _, h => by
    cases h with
    | cons h1 h2 =>
      cases h1
      rw [strs_dp h2]
      rfl
theorem dp_strs {K : PySem.W.Frag} {G : Hp} : ∀ xs : List Str, DqAll K G (xs.map V.str) (xs.map PyData.str)
  | [] => .nil
  | x :: xs => .cons (.str x) (dp_strs xs)
end
end DL
namespace DL
open PySem PySem.Spec PyProof.Rows L2 RT
def keyOf : PyData → Option Key
  | .int i => some (.inl i)
  | .str x => some (.inr x)
  | _ => none
def valD (kvs : List (Key × PyData)) (k : Key) : Option PyData := (kvs.find? fun kv => decide (kv.1 = k)).map (·.2)
def putD (kvs : List (Key × PyData)) (k : Key) (v : PyData) : List (Key × PyData) :=
  if (kvs.any fun kv => decide (kv.1 = k)) = true then kvs.map (fun kv => if kv.1 = k then (kv.1, v) else kv) else kvs ++ [(k, v)]
theorem key_dp {K : PySem.W.Frag} {G : Hp} {v : V} {d : PyData} {k : Key} (h : Dq K G v d) (e : keyOf d = some k) : v = kV k := by
  cases d <;> first | (cases e; done) | skip
  · cases e; cases h; rfl
  · cases e; cases h; rfl
section
variable {K : PySem.W.Frag} {G : Hp}
theorem kd_val {vs : List (Key × V)} {kvs : List (Key × PyData)} (r : DK K G vs kvs) (k : Key) : match valD kvs k with
    | some d => ∃ v, valV vs k = some v ∧ Dq K G v d
    | none => valV vs k = none := by
  induction r with
  | nil => exact rfl
  | @cons p q ps qs h t ih =>
    obtain ⟨h1, h2⟩ := h
    by_cases e : p.1 = k
    · have e' : q.1 = k := h1.symm.trans e
      have b : valD (q :: qs) k = some q.2 := by simp [valD, List.find?_cons, e']
      rw [b]
      exact ⟨p.2, valV_pos e, h2⟩
    · have e' : ¬ q.1 = k := fun z => e (h1.trans z)
      have b : valD (q :: qs) k = valD qs k := by simp [valD, List.find?_cons, e']
      rw [b, valV_neg e]
      exact ih
theorem kd_any {vs : List (Key × V)} {kvs : List (Key × PyData)} (r : DK K G vs kvs) (k : Key) : (vs.any fun kv => decide (kv.1 = k)) = kvs.any fun kv => decide (kv.1 = k) := by
  induction r with
  | nil => rfl
  | cons h t ih => rw [List.any_cons, List.any_cons, ih, h.1]
theorem kd_len {vs : List (Key × V)} {kvs : List (Key × PyData)} (r : DK K G vs kvs) : vs.length = kvs.length := Paired.length r
theorem kd_keys {vs : List (Key × V)} {kvs : List (Key × PyData)} (r : DK K G vs kvs) : vs.map (·.1) = kvs.map (·.1) := by
  induction r with
  | nil => rfl
  | cons h t ih => rw [List.map_cons, List.map_cons, ih, h.1]
theorem kd_repl {vs : List (Key × V)} {kvs : List (Key × PyData)} (r : DK K G vs kvs) (k : Key) {y : V} {u : PyData} (ry : Dq K G y u) :
    DK K G (vs.map fun kv => if kv.1 = k then (kv.1, y) else kv) (kvs.map fun kv => if kv.1 = k then (kv.1, u) else kv) := by
  induction r with
  | nil => exact .nil
  | @cons p q ps qs h t ih =>
    rw [List.map_cons, List.map_cons]
    refine .cons ?_ ih
    obtain ⟨h1, h2⟩ := h
    by_cases e : p.1 = k
    · rw [if_pos e, if_pos (h1.symm.trans e)]; exact ⟨h1, ry⟩
    · rw [if_neg e, if_neg (fun z => e (h1.trans z))]; exact ⟨h1, h2⟩
theorem kd_put {vs : List (Key × V)} {kvs : List (Key × PyData)} (r : DK K G vs kvs) (k : Key) {y : V} {u : PyData} (ry : Dq K G y u) : DK K G (putK vs k y) (putD kvs k u) := by
  unfold putK putD
  rw [kd_any r k]
  by_cases e : (kvs.any fun kv => decide (kv.1 = k)) = true
  · rw [if_pos e, if_pos e]; exact kd_repl r k ry
  · rw [if_neg e, if_neg e]; exact Paired.snoc r ⟨rfl, ry⟩
end
def dEnt : Option Ent → Option (List (Key × PyData))
  | some (.dct kvs) => some kvs
  | some (.rdd kvs) => some kvs
  | _ => none
def isDct : Option Ent → Bool
  | some (.dct _) => true
  | _ => false
section
variable {m : KM} {B : Bx} {G H : Hp} {σ : L2.St} {ρ : Rho}
theorem DEnv.dict (E : DEnv m B G H σ ρ) {i : Nat} {kvs : List (Key × PyData)} (h : dEnt ρ[i]? = some kvs) : ∃ a vs, σ[i]? = some (some (.ref a)) ∧ H a = some (.dK vs) ∧ DK m.K G vs kvs := by
  cases e : ρ[i]? with
  | none => rw [e] at h; cases h
  | some z =>
    rw [e] at h
    have q := E.ent i z e
    generalize hs : σ[i]? = o at q
    cases q with
    | dct h1 h2 h3 h4 => cases h; exact ⟨_, _, rfl, h1, h4⟩
    | rdd h1 h4 => cases h; exact ⟨_, _, rfl, h1, h4⟩
    | _ => cases h
end
section
variable {X : L2.Cx} {B : Bx} {W : WX} {pos : Pos} {a b e f : Expr} {F F1 F2 Fk Fv Fz : Rho → Res PyData}
theorem hu1 {k : Nat} {A : Around} (hr : Room k A) : A.units + 1 < cLine := by have := hr.un; omega
def newDS (i : Nat) : Rho → Out := fun ρ => if i < ρ.length then .nx (ρ.set i (.dct [])) else .bad
theorem pd_newD (i : Nat) {x : Str} {pos' p2 : Pos} (hN : X.N.Nodup) (hi : X.N[i]? = some x := by rfl) (hx : Loc X.env.scope x := by first | exact Or.inl rfl | exact Or.inr rfl) (hs : swapsWith (.Dict [] [] p2) (some (.Name x pos')) pos.line X.env = pure false := by rfl) (hf : X.fn x = true ∨ X.env.scope.names.lookup x = some .local := by first | exact .inl rfl | exact .inr rfl | assumption) :
    PS X (.Assign [.Name x pos'] (.Dict [] [] p2) pos) (tDS (km X) B W (newDS i)) := by
  refine (ps_set hN hi hx pe_dnewK hs hf).of ?_
  rintro D σ H ⟨G, ρ, E, S⟩
  intro p hp
  unfold newDS at S
  by_cases hl : i < ρ.length
  · rw [if_pos hl] at S
    exact S _ _ _ (E.putDct hl hp .nil) (Same.refl _)
  · rw [if_neg hl] at S
    exact S.elim
def putS (i : Nat) (Fk Fv : Rho → Res PyData) : Rho → Out := fun ρ => (Fv ρ).out fun v ρ => if isDct ρ[i]? = true then (Fk ρ).out fun k ρ => match ρ[i]?, keyOf k with
  | some (.dct kvs), some k => if kvs.length < sizeLine then .nx (ρ.set i (.dct (putD kvs k v))) else .bad
  | _, _ => .bad
  else .bad
theorem isDct_of {o : Option Ent} (h : isDct o = true) : ∃ kvs, o = some (.dct kvs) := by
  cases o with
  | none => cases h
  | some z => cases z <;> first | (cases h; done) | exact ⟨_, rfl⟩
theorem pd_put (i : Nat) {x : Str} {px pos' : Pos} (hr : X.A.units + 1 < cLine) (hk : PE X e (tD (km X) B W Fk)) (hv : PE X f (tD (km X) B W Fv)) (hN : X.N[i]? = some x := by rfl) (hvs : Vis X.env.scope x := by first | exact Or.inl rfl | exact Or.inr (Or.inl rfl) | exact Or.inr (Or.inr rfl)) (hd : (x == ("__debug__" : Str)) = false := by decide)
    (hcd : (x == ("__classdict__" : Str)) = false := by decide) (hs : swapsWith f (some (.Subscript (.Name x px) e pos')) pos.line X.env = pure false := by rfl) : PS X (.Assign [.Subscript (.Name x px) e pos'] f pos) (tDS (km X) B W (putS i Fk Fv)) := by
  refine (ps_dput hr (pe_var hN hvs hd hcd) hk hv hs).of ?_
  rintro D σ H ⟨G, ρ, E, S⟩
  refine ⟨G, ρ, E, (SatS.out S).imp fun v ρ1 s1 u G1 H1 E1 g1 dp1 => ?_⟩
  by_cases hD : isDct ρ1[i]? = true
  · rw [if_pos hD] at s1
    obtain ⟨kv0, e0⟩ := isDct_of hD
    obtain ⟨a, vs, h1, h2, h3⟩ := E1.dict (i := i) (kvs := kv0) (by rw [e0]; rfl)
    refine ⟨_, h1, G1, ρ1, E1, ((SatS.out s1).up g1).imp fun k ρ2 s2 y G2 H2 E2 g2 dp2 => ?_⟩
    split at s2
    · rename_i kvs key e1 e2
      have q := E2.ent i _ e1
      rw [h1] at q
      cases q with
      | dct k1 k2 k3 k4 =>
        by_cases hl : kvs.length < sizeLine
        · rw [if_pos hl] at s2
          obtain rfl := key_dp dp2 e2
          exact ⟨a, _, rfl, DPut.k k1 (by rw [kd_len k4]; exact hl), s2 _ _ _ (E2.changeD e1 h1 (kd_put k4 key (dp_same g2 _ _ dp1))) (g1.trans g2)⟩
        · rw [if_neg hl] at s2
          exact s2.elim
    · exact s2.elim
  · rw [if_neg hD] at s1
    exact s1.elim
def dixF (i : Nat) (Fk : Rho → Res PyData) : Rho → Res PyData := fun ρ => if (dEnt ρ[i]?).isSome = true then (Fk ρ).bind fun k ρ => match dEnt ρ[i]?, keyOf k with
  | some kvs, some k => optR (valD kvs k) ρ
  | _, _ => .bad
  else .bad
theorem pd_dix (i : Nat) {x : Str} {px : Pos} (hr : X.A.units + 1 < cLine) (hk : PE X e (tD (km X) B W Fk)) (hN : X.N[i]? = some x := by rfl) (hvs : Vis X.env.scope x := by first | exact Or.inl rfl | exact Or.inr (Or.inl rfl) | exact Or.inr (Or.inr rfl)) (hd : (x == ("__debug__" : Str)) = false := by decide)
    (hcd : (x == ("__classdict__" : Str)) = false := by decide) (hs : NoSl e := by exact fun _ _ => rfl) : PE X (.Subscript (.Name x px) e pos) (tD (km X) B W (dixF i Fk)) := by
  refine (pe_dget hr (pe_var hN hvs hd hcd) hk hs).of ?_
  rintro σ H Q ⟨G, ρ, E, S⟩
  unfold dixF at S
  cases hD : dEnt ρ[i]? with
  | none => rw [hD, if_neg (by decide)] at S; exact S.elim
  | some kv0 =>
    rw [hD, Option.isSome_some, if_pos rfl] at S
    obtain ⟨a, vs, h1, h2, h3⟩ := E.dict hD
    refine ⟨_, h1, G, ρ, E, (Sat.bind S).imp fun k ρ1 s1 y G1 H1 E1 g1 dp1 => ?_⟩
    split at s1
    · rename_i kvs key e1 e2
      obtain ⟨a', us, k1, k2, k3⟩ := E1.dict e1
      rw [h1] at k1
      cases k1
      obtain ⟨d, hd', q⟩ := sat_opt s1
      have hv := kd_val k3 key
      rw [hd'] at hv
      obtain ⟨v, hv, dv⟩ := hv
      obtain rfl := key_dp dp1 e2
      exact ⟨a, v, rfl, hv ▸ DGet.k k2, q v G1 H1 E1 g1 dv⟩
    · exact s1.elim
def dgetF (i : Nat) (Fk Fz : Rho → Res PyData) : Rho → Res PyData := fun ρ => if (dEnt ρ[i]?).isSome = true then (Fk ρ).bind fun k ρ => (Fz ρ).bind fun z ρ => match dEnt ρ[i]?, keyOf k with
  | some kvs, some k => .ok ((valD kvs k).getD z) ρ
  | _, _ => .bad
  else .bad
theorem pd_dget (i : Nat) {x : Str} {px apos : Pos} (hr : X.A.units + 1 < cLine) (hk : PE X e (tD (km X) B W Fk)) (hz : PE X f (tD (km X) B W Fz)) (mm : M2 X (.Name x px) "get" apos e f pos) (hN : X.N[i]? = some x := by rfl) (hvs : Vis X.env.scope x := by first | exact Or.inl rfl | exact Or.inr (Or.inl rfl) | exact Or.inr (Or.inr rfl)) (hd : (x == ("__debug__" : Str)) = false := by decide)
    (hcd : (x == ("__classdict__" : Str)) = false := by decide) : PE X (.Call (.Attribute (.Name x px) "get" apos) [e, f] [] pos) (tD (km X) B W (dgetF i Fk Fz)) := by
  refine (pe_dget2 hr (pe_var hN hvs hd hcd) hk hz mm).of ?_
  rintro σ H Q ⟨G, ρ, E, S⟩
  unfold dgetF at S
  cases hD : dEnt ρ[i]? with
  | none => rw [hD, if_neg (by decide)] at S; exact S.elim
  | some kv0 =>
    rw [hD, Option.isSome_some, if_pos rfl] at S
    obtain ⟨a, vs, h1, h2, h3⟩ := E.dict hD
    refine ⟨_, h1, a, rfl, .inl ⟨_, .of h2⟩, G, ρ, E, (Sat.bind S).imp fun k ρ1 s1 y G1 H1 E1 g1 dp1 => ⟨G1, ρ1, E1, ((Sat.bind s1).up g1).imp fun z ρ2 s2 u G2 H2 E2 g2 dp2 => ?_⟩⟩
    split at s2
    · rename_i kvs key e1 e2
      obtain ⟨a', us, k1, k2, k3⟩ := E2.dict e1
      rw [h1] at k1
      cases k1
      obtain rfl := key_dp dp1 e2
      have hv := kd_val k3 key
      cases hd' : valD kvs key with
      | none =>
        rw [hd'] at hv s2
        exact ⟨none, hv ▸ DGet.k k2, s2 u G2 H2 E2 (g1.trans g2) dp2⟩
      | some d =>
        rw [hd'] at hv s2
        obtain ⟨v, hv, dv⟩ := hv
        exact ⟨some v, hv ▸ DGet.k k2, s2 v G2 H2 E2 (g1.trans g2) dv⟩
    · exact s2.elim
def insI (x : Int) : List Int → List Int
  | [] => [x]
  | y :: r => if x ≤ y then x :: y :: r else y :: insI x r
def sortI : List Int → List Int
  | [] => []
  | x :: r => insI x (sortI r)
theorem insI_perm (x : Int) : ∀ l : List Int, (insI x l).Perm (x :: l)
  | [] => .refl _
  | y :: r => by
    unfold insI
    split
    · exact .refl _
    · exact ((insI_perm x r).cons y).trans (.swap x y r)
theorem sortI_perm : ∀ l : List Int, (sortI l).Perm l
  | [] => .refl _
  | x :: r => (insI_perm x _).trans ((sortI_perm r).cons x)
theorem insI_sorted (x : Int) : ∀ l : List Int, l.Pairwise (· ≤ ·) → (insI x l).Pairwise (· ≤ ·)
  | [], _ => by simp [insI]
  | y :: r, h => by
    obtain ⟨h1, h2⟩ := List.pairwise_cons.mp h
    unfold insI
    split
    · rename_i hx
      refine List.pairwise_cons.mpr ⟨fun z hz => ?_, h⟩
      rcases List.mem_cons.mp hz with rfl | hz
      · exact hx
      · exact Int.le_trans hx (h1 z hz)
    · rename_i hx
      refine List.pairwise_cons.mpr ⟨fun z hz => ?_, insI_sorted x r h2⟩
      rcases List.mem_cons.mp ((insI_perm x r).mem_iff.mp hz) with rfl | hz
      · omega
      · exact h1 z hz
theorem sortI_sorted : ∀ l : List Int, (sortI l).Pairwise (· ≤ ·)
  | [] => .nil
  | x :: r => insI_sorted x _ (sortI_sorted r)
theorem sortI_unique : ∀ {xs ys : List Int}, xs.Perm ys → xs.Pairwise (· ≤ ·) → ys.Pairwise (· ≤ ·) → xs = ys
  | [], ys, p, _, _ => List.Perm.nil_eq p
  | x :: xs, [], p, _, _ => by have := p.length_eq; simp at this
  | x :: xs, y :: ys, p, h, q => by
    obtain ⟨h1, h2⟩ := List.pairwise_cons.mp h
    obtain ⟨q1, q2⟩ := List.pairwise_cons.mp q
    have e : x = y := by
      have a1 : x ∈ y :: ys := p.mem_iff.mp List.mem_cons_self
      have a2 : y ∈ x :: xs := p.mem_iff.mpr List.mem_cons_self
      rcases List.mem_cons.mp a1 with z | z
      · exact z
      · rcases List.mem_cons.mp a2 with w | w
        · exact w.symm
        · have := h1 y w; have := q1 x z; omega
    subst e
    rw [sortI_unique (List.Perm.cons_inv p) h2 q2]
theorem sortI_eq {xs ys : List Int} (p : ys.Perm xs) (h : ys.Pairwise (· ≤ ·)) : ys = sortI xs := sortI_unique (p.trans (sortI_perm xs).symm) h (sortI_sorted xs)
def keysS : List (Key × PyData) → Option (List Str)
  | [] => some []
  | (.inr x, _) :: r => (keysS r).map (x :: ·)
  | _ => none
theorem keysS_eq : ∀ {kvs : List (Key × PyData)} {ks : List Str}, keysS kvs = some ks → kvs.map (·.1) = ks.map Sum.inr
  | [], ks, h => by cases h; rfl
  | (.inl i, _) :: r, ks, h => by cases h
  | (.inr x, _) :: r, ks, h => by
    cases e : keysS r with
    | none => simp [keysS, e] at h
    | some zs =>
      simp [keysS, e] at h
      subst h
      rw [List.map_cons, List.map_cons, keysS_eq e]
def keysI : List (Key × PyData) → Option (List Int)
  | [] => some []
  | (.inl x, _) :: r => (keysI r).map (x :: ·)
  | _ => none
theorem keysI_eq : ∀ {kvs : List (Key × PyData)} {ks : List Int}, keysI kvs = some ks → kvs.map (·.1) = ks.map Sum.inl
  | [], ks, h => by cases h; rfl
  | (.inr i, _) :: r, ks, h => by cases h
  | (.inl x, _) :: r, ks, h => by
    cases e : keysI r with
    | none => simp [keysI, e] at h
    | some zs =>
      simp [keysI, e] at h
      subst h
      rw [List.map_cons, List.map_cons, keysI_eq e]
def dsortF (i : Nat) : Rho → Res PyData := fun ρ => match (dEnt ρ[i]?).bind keysS with
  | some ks => if ks.length < 64 then .ok (.list ((sortS ks).map PyData.str)) ρ else .bad
  | none => match (dEnt ρ[i]?).bind keysI with
    | some ks => if ks.length < 64 then .ok (.list ((sortI ks).map PyData.int)) ρ else .bad
    | none => .bad
theorem pd_dsort (i : Nat) {x : Str} {px p : Pos} (hc : X.calm = true) (hm : X.mg "sorted" = none) (hN : X.N[i]? = some x := by rfl) (hvs : Vis X.env.scope x := by first | exact Or.inl rfl | exact Or.inr (Or.inl rfl) | exact Or.inr (Or.inr rfl)) (hd : (x == ("__debug__" : Str)) = false := by decide)
    (hcd : (x == ("__classdict__" : Str)) = false := by decide) (hg : Gl X "sorted" := by rfl) (he : starEach [.Name x px] X.env = (false, eval (.Name x px) X.env) :: starEach [] X.env := by rfl) (hpl : (backTo pos (starEach [] X.env)).any (·.1) = false := by rfl) :
    PE X (.Call (.Name "sorted" p) [.Name x px] [] pos) (tD (km X) B W (dsortF i)) := by
  refine (pe_callB (callR_or (call_sortedD hc) (call_sortedDI hc)) hg hm (by decide +kernel) (pa_cons (pe_var hN hvs hd hcd) pa_nil he) (by decide) (by decide) he hpl).of ?_
  rintro σ H Q ⟨G, ρ, E, S⟩
  unfold dsortF at S
  cases hD : dEnt ρ[i]? with
  | none => rw [hD] at S; exact S.elim
  | some kvs =>
    rw [hD, Option.bind_some] at S
    obtain ⟨a, us, k1, k2, k3⟩ := E.dict hD
    cases hk : keysS kvs with
    | none =>
      rw [hk] at S
      have S1 : Sat (km X) B W G σ (match keysI kvs with
        | some ks => if ks.length < 64 then Res.ok (PyData.list ((sortI ks).map PyData.int)) ρ else .bad
        | none => .bad) _ := S
      cases hi : keysI kvs with
      | none => rw [hi] at S1; exact S1.elim
      | some ks =>
        rw [hi] at S1
        by_cases hl : ks.length < 64
        · have S2 : Sat (km X) B W G σ (if ks.length < 64 then Res.ok (PyData.list ((sortI ks).map PyData.int)) ρ else .bad) _ := S1
          rw [if_pos hl] at S2
          refine ⟨_, k1, .inr ⟨a, us, ks, rfl, .of k2, by rw [kd_keys k3]; exact keysI_eq hi, hl, fun ys p hp hs hn => ?_⟩⟩
          rw [sortI_eq hp hs]
          have x := Ext.new (o := .lst ((sortI ks).map V.int)) E.base.gh hn
          exact S2 _ _ _ (E.ext x) x.g (.lst (SqL.of upd_same) (DqAll.ints _))
        · have S2 : Sat (km X) B W G σ (if ks.length < 64 then Res.ok (PyData.list ((sortI ks).map PyData.int)) ρ else .bad) _ := S1
          rw [if_neg hl] at S2
          exact S2.elim
    | some ks =>
      rw [hk] at S
      by_cases hl : ks.length < 64
      · have S2 : Sat (km X) B W G σ (if ks.length < 64 then Res.ok (PyData.list ((sortS ks).map PyData.str)) ρ else .bad) _ := S
        rw [if_pos hl] at S2
        refine ⟨_, k1, .inl ⟨a, us, ks, rfl, .of k2, by rw [kd_keys k3]; exact keysS_eq hk, hl, fun ys p hp hs hn => ?_⟩⟩
        rw [sortedS_eq hp hs]
        have x := Ext.new (o := .lst ((sortS ks).map V.str)) E.base.gh hn
        exact S2 _ _ _ (E.ext x) x.g (.lst (SqL.of upd_same) (dp_strs _))
      · have S2 : Sat (km X) B W G σ (if ks.length < 64 then Res.ok (PyData.list ((sortS ks).map PyData.str)) ρ else .bad) _ := S
        rw [if_neg hl] at S2
        exact S2.elim
@[reducible] def trsOf : List (Str × Str) → List (TE × TE)
  | [] => []
  | (x, y) :: r => (tC (.str x), tC (.str y)) :: trsOf r
def kvV (kvs : List (Str × Str)) : List (Key × V) := kvs.map fun p => (.inr p.1, .str p.2)
def kvD (kvs : List (Str × Str)) : List (Key × PyData) := kvs.map fun p => (.inr p.1, .str p.2)
theorem trs_run {σ : L2.St} {H : Hp} : ∀ {kvs : List (Str × Str)} {Q : List (V × V) → Hp → Prop}, Q ((kvV kvs).map fun kv => (kV kv.1, kv.2)) H → tPairs (trsOf kvs) σ H Q
  | [], _, h => h
  | (x, y) :: r, _, h => trs_run (kvs := r) (Q := fun ps H3 => _) h
def mergeD (kvs more : List (Key × PyData)) : List (Key × PyData) := more.foldl (fun acc kv => putD acc kv.1 kv.2) kvs
theorem kd_merge {K : PySem.W.Frag} {G : Hp} {more : List (Key × V)} {more' : List (Key × PyData)} (m : DK K G more more') : ∀ {kvs : List (Key × V)} {kvs' : List (Key × PyData)}, DK K G kvs kvs' → DK K G (mergeK kvs more) (mergeD kvs' more') := by
  induction m with
  | nil => exact fun h => h
  | @cons p q ps qs h t ih =>
    intro kvs kvs' r
    have z : DK K G (putK kvs p.1 p.2) (putD kvs' q.1 q.2) := by
      have z := kd_put r p.1 h.2
      rw [← h.1]
      exact z
    exact ih z
theorem kv_dk {K : PySem.W.Frag} {G : Hp} : ∀ kvs : List (Str × Str), DK K G (kvV kvs) (kvD kvs)
  | [] => .nil
  | _ :: r => .cons ⟨rfl, .str _⟩ (kv_dk r)
def dispF (kvs : List (Str × Str)) (i : Nat) : Rho → Res PyData := fun ρ => match ρ[i]? with
  | some (.d d) => match keyOf d with
    | some k => optR (valD (mergeD [] (kvD kvs)) k) ρ
    | none => .bad
  | _ => .bad
theorem pd_disp (kvs : List (Str × Str)) (i : Nat) {x : Str} {px p2 : Pos} {keys : List (Option Expr)} {values : List Expr} (hr : X.A.units + 1 < cLine) (h : PPs X p2 keys values (trsOf kvs)) (hN : X.N[i]? = some x := by rfl) (hvs : Vis X.env.scope x := by first | exact Or.inl rfl | exact Or.inr (Or.inl rfl) | exact Or.inr (Or.inr rfl)) (hd : (x == ("__debug__" : Str)) = false := by decide)
    (hcd : (x == ("__classdict__" : Str)) = false := by decide) (hall : keys.all (·.isSome) = true := by rfl) (hl : keys.length = values.length := by rfl) (h0 : keys ≠ [] := by exact fun z => nomatch z)
    (h15 : keys.length ≤ 15 := by decide) (k15 : kvs.length ≤ 15 := by decide) (hs : NoSl (.Name x px) := by exact fun _ _ => rfl) : PE X (.Subscript (.Dict keys values p2) (.Name x px) pos) (tD (km X) B W (dispF kvs i)) := by
  refine (pe_dget hr (pe_disp h hall hl h0 h15) (pe_var hN hvs hd hcd) hs).of ?_
  rintro σ H Q ⟨G, ρ, E, S⟩ p hp
  refine trs_run ⟨upd_same, kvV kvs, rfl, by unfold kvV; rw [List.length_map]; exact k15, ?_⟩
  unfold dispF at S
  split at S
  · rename_i d e1
    split at S
    · rename_i key e2
      obtain ⟨z, hz, q⟩ := sat_opt S
      have x1 : Ext G H G (upd H p (.dK [])) := Ext.newOwn E.base.gh hp
      have ee : upd (upd H p (.dK [])) p (.dK (mergeK [] (kvV kvs))) = upd H p (.dK (mergeK [] (kvV kvs))) := by
        funext b
        by_cases hb : b = p
        · subst hb; rw [upd_same, upd_same]
        · rw [upd_ne hb, upd_ne hb, upd_ne hb]
      rw [ee]
      have x2 : Ext G H G (upd H p (.dK (mergeK [] (kvV kvs)))) := Ext.newOwn E.base.gh hp
      have qe := E.ent i _ e1
      generalize hs2 : σ[i]? = o at qe
      cases qe with
      | d dp =>
        obtain rfl := key_dp dp e2
        have hv := kd_val (kd_merge (kvs := []) (kvs' := []) (kv_dk (K := X.K) (G := G) kvs) .nil) key
        rw [hz] at hv
        obtain ⟨v, hv, dv⟩ := hv
        exact ⟨_, hs2, p, v, rfl, hv ▸ DGet.k upd_same, q v _ _ (E.ext x2) (Same.refl _) dv⟩
    · exact S.elim
  · exact S.elim
end
end DL
namespace DL
open PySem PySem.Spec PyProof.Rows L2 RT
section
variable {X : L2.Cx} {B : Bx} {W : WX} {pos : Pos} {a b e f : Expr} {F F1 F2 Fk Fv Fz : Rho → Res PyData}
def tNL (m : KM) (B : Bx) (W : WX) (F : Rho → Res (List PyData)) : TE := fun σ H Q => ∃ G ρ, DEnv m B G H σ ρ ∧ Sat m B W G σ (F ρ) fun ds ρ' => ∀ p vs G' H', DEnv m B G' H' σ ρ' → Same G G' → H' p = none → DqAll m.K G' vs ds → Q (.ref p) (upd H' p (.lst vs))
def newS (F : Rho → Res (List PyData)) (i : Nat) : Rho → Out := fun ρ => (F ρ).out fun ds ρ => if i < ρ.length then .nx (ρ.set i (.own ds)) else .bad
theorem pd_setNL (i : Nat) {L : Rho → Res (List PyData)} {x : Str} {pos' : Pos} (hN : X.N.Nodup) (he : PE X e (tNL (km X) B W L)) (hi : X.N[i]? = some x := by rfl) (hx : Loc X.env.scope x := by first | exact Or.inl rfl | exact Or.inr rfl) (hs : swapsWith e (some (.Name x pos')) pos.line X.env = pure false := by rfl) (hf : X.fn x = true ∨ X.env.scope.names.lookup x = some .local := by first | exact .inl rfl | exact .inr rfl | assumption) :
    PS X (.Assign [.Name x pos'] e pos) (tDS (km X) B W (newS L i)) := by
  refine (ps_set hN hi hx he hs hf).of ?_
  rintro D σ H ⟨G, ρ, E, S⟩
  refine ⟨G, ρ, E, (SatS.out S).imp fun ds ρ1 s1 p vs G1 H1 E1 g1 hp dp1 => ?_⟩
  by_cases hl : i < ρ1.length
  · rw [if_pos hl] at s1
    exact s1 _ _ _ (E1.putOwn hl hp dp1) g1
  · rw [if_neg hl] at s1
    exact s1.elim
def listL (F : Rho → Res PyData) : Rho → Res (List PyData) := fun ρ => (F ρ).bind fun d ρ => match d with
  | .list xs => .ok xs ρ
  | .tuple xs => .ok xs ρ
  | _ => .bad
def cutL (F : Rho → Res PyData) (L U : Po) : Rho → Res (List PyData) := fun ρ => (F ρ).bind fun d ρ => (L ρ).bind fun l ρ => (U ρ).bind fun u ρ => match d with
  | .list xs => .ok (cutD xs l u) ρ
  | _ => .bad
theorem nl_cut {lo hi : Option Expr} {p2 : Pos} {L U : Po} (ha : PE X a (tD (km X) B W F)) (hl : PO X lo (tDP (km X) B W L)) (hu : PO X hi (tDP (km X) B W U)) : PE X (.Subscript a (.Slice lo hi none p2) pos) (tNL (km X) B W (cutL F L U)) := by
  refine (pe_slice sl_list ha hl hu).of ?_
  rintro σ H Q ⟨G, ρ, E, S⟩
  refine ⟨G, ρ, E, (Sat.bind S).imp fun d ρ1 s1 v G1 H1 E1 g1 dp1 => ⟨G1, ρ1, E1, ((Sat.bind s1).up g1).imp fun l ρ2 s2 G2 H2 E2 g2 => ⟨G2, ρ2, E2, ((Sat.bind s2).up (g1.trans g2)).imp fun u ρ3 s3 G3 H3 E3 g3 => ?_⟩⟩⟩
  have dp3 := dp_same (g2.trans g3) _ _ dp1
  have gg : Same G G3 := g1.trans (g2.trans g3)
  cases d <;> first | exact s3.elim | skip
  cases dp3 with
  | lst h1 h2 => exact ⟨_, _, rfl, E3.base.gh.seq h1, fun p hp => s3 _ _ _ _ E3 gg hp (cut_dp h2 l u)⟩
def lsetS (i : Nat) (Fk Fv : Rho → Res PyData) : Rho → Out := fun ρ => (Fv ρ).out fun v ρ => if isOwn ρ[i]? = true then (Fk ρ).out fun k ρ => match ρ[i]?, k with
  | some (.own xs), .int k => (match ixN xs.length k with
    | some j => .nx (ρ.set i (.own (xs.set j v)))
    | none => .bad)
  | _, _ => .bad
  else .bad
theorem isOwn_of {o : Option Ent} (h : isOwn o = true) : ∃ xs, o = some (.own xs) := by
  cases o with
  | none => cases h
  | some z => cases z <;> first | (cases h; done) | exact ⟨_, rfl⟩
theorem pd_lset (i : Nat) {x : Str} {px pos' : Pos} (hk : PE X e (tD (km X) B W Fk)) (hv : PE X f (tD (km X) B W Fv)) (hN : X.N[i]? = some x := by rfl) (hvs : Vis X.env.scope x := by first | exact Or.inl rfl | exact Or.inr (Or.inl rfl) | exact Or.inr (Or.inr rfl)) (hd : (x == ("__debug__" : Str)) = false := by decide)
    (hcd : (x == ("__classdict__" : Str)) = false := by decide) (hs : swapsWithSole [.Subscript (.Name x px) e pos'] f pos.line X.env = pure false := by rfl) (hw : swappedStores [.Subscript (.Name x px) e pos'] f X.env = pure none := by rfl)
    (h1 : (assignEach [.Subscript (.Name x px) e pos'] X.env).map (·.2) = [assign (.Subscript (.Name x px) e pos') X.env] := by rfl)
    (ha : ∀ v, assign (.Subscript (.Name x px) e pos') X.env v = (do
      let ov ← holding [v] (eval (.Name x px) X.env)
      let iv ← holding [v, ov] (eval e X.env)
      standAt pos'
      holding [v, ov, iv] (setItem ov iv v)
      release [v, ov, iv] []) := by intro _; rfl) : PS X (.Assign [.Subscript (.Name x px) e pos'] f pos) (tDS (km X) B W (lsetS i Fk Fv)) := by
  refine (ps_asg hv (pg_sub (pe_var hN hvs hd hcd) hk set_list ha) hs hw h1).of ?_
  rintro D σ H ⟨G, ρ, E, S⟩
  refine ⟨G, ρ, E, (SatS.out S).imp fun v ρ1 s1 u G1 H1 E1 g1 dp1 => ?_⟩
  by_cases hD : isOwn ρ1[i]? = true
  · rw [if_pos hD] at s1
    obtain ⟨xs0, e0⟩ := isOwn_of hD
    have q := E1.ent i _ e0
    generalize hσ : σ[i]? = o at q
    cases q with
    | own z1 z2 z3 z4 =>
      refine ⟨_, hσ, G1, ρ1, E1, ((SatS.out s1).up g1).imp fun k ρ2 s2 y G2 H2 E2 g2 dp2 => ?_⟩
      split at s2
      · rename_i xs key e1
        have q := E2.ent i _ e1
        rw [hσ] at q
        cases q with
        | own k1 k2 k3 k4 =>
          split at s2
          · rename_i j hj
            cases dp2
            exact ⟨_, _, key, j, rfl, rfl, k1, by rw [k4.len]; exact hj, s2 _ _ _ (E2.change e1 hσ (k4.set (dp_same g2 _ _ dp1) j)) (g1.trans g2)⟩
          · exact s2.elim
      · exact s2.elim
  · rw [if_neg hD] at s1
    exact s1.elim
def bStr : PyData → Option PyData
  | .int i => if i.natAbs.log2 < 1920 then some (.str (toString i)) else none
  | _ => none
theorem rd_str : RDs X.K (fun xs H Q => ∃ i, xs = [.int i] ∧ i.natAbs.log2 < 1920 ∧ Q (.str (toString i)) H) (app1 bStr) := by
  refine rds1 fun G H x d z Q gh h1 hz q => ?_
  cases d <;> first | (cases hz; done) | skip
  obtain ⟨hl, rfl⟩ := of_if hz
  cases h1
  exact ⟨_, rfl, hl, q _ _ _ (Ext.refl gh) (.str _)⟩
def isS : PyData → Bool
  | .str _ => true
  | _ => false
def m1F (g : PyData → PyData → Option PyData) (F1 F2 : Rho → Res PyData) : Rho → Res PyData := fun ρ => (F1 ρ).bind fun d ρ => if isS d = true then (F2 ρ).bind fun e ρ => optR (g d e) ρ else .bad
abbrev RM := V → List V → Hp → VK → Prop
def RDm (K : PySem.W.Frag) (r : RM) (g : PyData → PyData → Option PyData) : Prop :=
  ∀ (G H : Hp) (x : Str) (y : V) (e z : PyData) (Q : VK), Same G H → Dq K G y e → g (.str x) e = some z → (∀ v G' H', Ext G H G' H' → Dq K G' v z → Q v H') → r (.str x) [y] H Q
theorem pd_m1 {id : String} {name : Str} {apos : Pos} {r : RM} {g : PyData → PyData → Option PyData} (rule : MtR X id r) (hr : RDm X.K r g) (slot : Slot "str" name id) (ty : typeOf (.builtin id) = pure (.type "method_descriptor")) (ha : PE X a (tD (km X) B W F1)) (hb : PE X b (tD (km X) B W F2))
    (hs : starEach [b] X.env = [(false, eval b X.env)] := by rfl) (hbase : attributeBase a name X.env (eval a X.env) = eval a X.env := by rfl) (hline : (apos.endLine == pos.line) = true := by rfl) :
    PE X (.Call (.Attribute a name apos) [b] [] pos) (tD (km X) B W (m1F g F1 F2)) := by
  refine (pe_m1 slot ty rule ha hb hs hbase hline).of ?_
  rintro σ H Q ⟨G, ρ, E, S⟩
  refine ⟨G, ρ, E, (Sat.bind S).imp fun d ρ1 s1 v G1 H1 E1 g1 dp1 => ?_⟩
  cases d <;> first | exact s1.elim | skip
  cases dp1
  refine ⟨⟨_, rfl⟩, G1, ρ1, E1, ((Sat.bind s1).up g1).imp fun e ρ2 s2 u G2 H2 E2 g2 dp2 => ?_⟩
  obtain ⟨z, hz, q⟩ := sat_opt s2
  exact hr G2 H2 _ u e z Q E2.base.gh dp2 hz fun x G3 H3 ext dp3 => q x G3 H3 (E2.ext ext) (g1.trans (g2.trans ext.g)) dp3
def dJoin (d e : PyData) : Option PyData := match d, e with
  | .str a, .list ds => (match strsOf ds with
    | some ys => if (ys.map (·.length)).sum + ys.length * a.length ≤ 16777216 then some (.str (Txt.join a ys)) else none
    | none => none)
  | .str a, .tuple ds => (match strsOf ds with
    | some ys => if (ys.map (·.length)).sum + ys.length * a.length ≤ 16777216 then some (.str (Txt.join a ys)) else none
    | none => none)
  | _, _ => none
theorem rm_join : RDm X.K (fun x xs H Q => ∃ a p, ∃ ys : List Str, x = .str a ∧ xs = [.ref p] ∧ (SqL X.K H p (ys.map V.str) ∨ SqT X.K H p (ys.map V.str)) ∧
    (ys.map (·.length)).sum + ys.length * a.length ≤ 16777216 ∧ Q (.str (Txt.join a ys)) H) dJoin := by
  intro G H x y e z Q gh h1 hz q
  cases e <;> first | (cases hz; done) | skip
  · rename_i ds
    unfold dJoin at hz
    dsimp only at hz
    cases es : strsOf ds with
    | none => rw [es] at hz; cases hz
    | some ys =>
      rw [es] at hz
      obtain ⟨hl, rfl⟩ := of_if hz
      have e2 := strsOf_eq es
      subst e2
      cases h1 with
      | lst a1 a2 =>
        have ev := strs_dp a2
        subst ev
        exact ⟨x, _, ys, rfl, rfl, .inl (gh.seq a1), hl, q _ _ _ (Ext.refl gh) (.str _)⟩
  · rename_i ds
    unfold dJoin at hz
    dsimp only at hz
    cases es : strsOf ds with
    | none => rw [es] at hz; cases hz
    | some ys =>
      rw [es] at hz
      obtain ⟨hl, rfl⟩ := of_if hz
      have e2 := strsOf_eq es
      subst e2
      cases h1 with
      | tup a1 a2 =>
        have ev := strs_dp a2
        subst ev
        exact ⟨x, _, ys, rfl, rfl, .inr (seqT_same gh a1), hl, q _ _ _ (Ext.refl gh) (.str _)⟩
def rInT (K : PySem.W.Frag) : R2 := fun x y H Q => ∃ d ds, Dp K H x d ∧ Dp K H y (.tuple ds) ∧ SeqAt.shaped d = true ∧ SeqAt.shaped (.tuple ds) = true ∧ Q (.bl (ds.any fun z => PyData.eqv z d)) H
def rNotInT (K : PySem.W.Frag) : R2 := fun x y H Q => ∃ d ds, Dp K H x d ∧ Dp K H y (.tuple ds) ∧ SeqAt.shaped d = true ∧ SeqAt.shaped (.tuple ds) = true ∧ Q (.bl (!ds.any fun z => PyData.eqv z d)) H
theorem op_inT (hu : X.A.units + 65 < cLine) : OpR X (compareOp .In) (rInT X.K) := by
  intro pins s σ H x y v u Q I rx ry h
  obtain ⟨d, ds, hd, he, sd, se, q⟩ := h
  obtain ⟨as, r1⟩ := Dp.reads I d x v hd rx
  obtain ⟨bs, r2⟩ := Dp.reads I (.tuple ds) y u he ry
  exact SeqAt.in_tuple_reads r2 r1 (SeqAt.canLay_of_shaped se) (SeqAt.canLay_of_shaped sd) (room_in_shaped sd hu) ⟨.bl _, H, I, rfl, q⟩
theorem op_notInT (hu : X.A.units + 65 < cLine) : OpR X (compareOp .NotIn) (rNotInT X.K) := by
  intro pins s σ H x y v u Q I rx ry h
  obtain ⟨d, ds, hd, he, sd, se, q⟩ := h
  obtain ⟨as, r1⟩ := Dp.reads I d x v hd rx
  obtain ⟨bs, r2⟩ := Dp.reads I (.tuple ds) y u he ry
  exact SeqAt.notIn_tuple_reads r2 r1 (SeqAt.canLay_of_shaped se) (SeqAt.canLay_of_shaped sd) (room_in_shaped sd hu) ⟨.bl _, H, I, rfl, q⟩
def hasS (i j : Str) : Bool := !(Builtin.Str.occurrences j i 0 j.length 1).isEmpty
def dIn3 (d e : PyData) : Option PyData := match e with
  | .list ds => if SeqAt.shaped d = true ∧ SeqAt.shaped (.list ds) = true then some (.bool (ds.any fun z => PyData.eqv z d)) else none
  | .tuple ds => if SeqAt.shaped d = true ∧ SeqAt.shaped (.tuple ds) = true then some (.bool (ds.any fun z => PyData.eqv z d)) else none
  | .str j => (match d with
    | .str i => some (.bool (hasS i j))
    | _ => none)
  | _ => none
def dNotIn3 (d e : PyData) : Option PyData := match e with
  | .list ds => if SeqAt.shaped d = true ∧ SeqAt.shaped (.list ds) = true then some (.bool (!ds.any fun z => PyData.eqv z d)) else none
  | .tuple ds => if SeqAt.shaped d = true ∧ SeqAt.shaped (.tuple ds) = true then some (.bool (!ds.any fun z => PyData.eqv z d)) else none
  | .str j => (match d with
    | .str i => some (.bool (!hasS i j))
    | _ => none)
  | _ => none
theorem op_in3 (hu : X.A.units + 65 < cLine) : OpR X (compareOp .In) (fun x y H Q => rInD X.K x y H Q ∨ rInT X.K x y H Q ∨ ∃ i j, x = .str i ∧ y = .str j ∧ Q (.bl (hasS i j)) H) := (op_inD hu).or ((op_inT hu).or op_in_str)
theorem op_notIn3 (hu : X.A.units + 65 < cLine) : OpR X (compareOp .NotIn) (fun x y H Q => rNotInD X.K x y H Q ∨ rNotInT X.K x y H Q ∨ ∃ i j, x = .str i ∧ y = .str j ∧ Q (.bl (!hasS i j)) H) := (op_notInD hu).or ((op_notInT hu).or L2.op_notIn_str)
theorem rd_in3 : RD X.K (fun x y H Q => rInD X.K x y H Q ∨ rInT X.K x y H Q ∨ ∃ i j, x = .str i ∧ y = .str j ∧ Q (.bl (hasS i j)) H) dIn3 := by
  intro G H x y d e z Q gh hx hy hz q
  cases e <;> first | (cases hz; done) | skip
  · cases d <;> first | (cases hz; done) | skip
    cases hz; cases hx; cases hy
    exact .inr (.inr ⟨_, _, rfl, rfl, q _ _ _ (Ext.refl gh) (.bl _)⟩)
  · obtain ⟨⟨h1, h2⟩, rfl⟩ := of_if hz
    exact .inl ⟨d, _, (dp_same gh _ _ hx).p, (dp_same gh _ _ hy).p, h1, h2, q _ _ _ (Ext.refl gh) (.bl _)⟩
  · obtain ⟨⟨h1, h2⟩, rfl⟩ := of_if hz
    exact .inr (.inl ⟨d, _, (dp_same gh _ _ hx).p, (dp_same gh _ _ hy).p, h1, h2, q _ _ _ (Ext.refl gh) (.bl _)⟩)
theorem rd_notIn3 : RD X.K (fun x y H Q => rNotInD X.K x y H Q ∨ rNotInT X.K x y H Q ∨ ∃ i j, x = .str i ∧ y = .str j ∧ Q (.bl (!hasS i j)) H) dNotIn3 := by
  intro G H x y d e z Q gh hx hy hz q
  cases e <;> first | (cases hz; done) | skip
  · cases d <;> first | (cases hz; done) | skip
    cases hz; cases hx; cases hy
    exact .inr (.inr ⟨_, _, rfl, rfl, q _ _ _ (Ext.refl gh) (.bl _)⟩)
  · obtain ⟨⟨h1, h2⟩, rfl⟩ := of_if hz
    exact .inl ⟨d, _, (dp_same gh _ _ hx).p, (dp_same gh _ _ hy).p, h1, h2, q _ _ _ (Ext.refl gh) (.bl _)⟩
  · obtain ⟨⟨h1, h2⟩, rfl⟩ := of_if hz
    exact .inr (.inl ⟨d, _, (dp_same gh _ _ hx).p, (dp_same gh _ _ hy).p, h1, h2, q _ _ _ (Ext.refl gh) (.bl _)⟩)
end
end DL
namespace DL
open PySem PySem.Spec PyProof.Rows L2 RT
section
variable {X : L2.Cx}
def pairD : PyData → Option (Key × PyData)
  | .tuple [k, v] => (keyOf k).map fun k => (k, v)
  | _ => none
def pairsD : List PyData → Option (List (Key × PyData))
  | [] => some []
  | d :: r => (pairD d).bind fun p => (pairsD r).map (p :: ·)
variable {B : Bx} {W : WX} {pos : Pos} {e : Expr} {F : Rho → Res PyData}
def itemsOf : PyData → Option (List PyData)
  | .list ds => some ds
  | .tuple ds => some ds
  | _ => none
def dictS (F : Rho → Res PyData) (i : Nat) : Rho → Out := fun ρ => (F ρ).out fun d ρ => match (itemsOf d).bind pairsD with
  | some kvs => if i < ρ.length then .nx (ρ.set i (.dct (mergeD [] kvs))) else .bad
  | none => .bad
end
end DL
namespace DL
open PySem PySem.Spec PyProof.Rows L2 RT
section
variable {X : L2.Cx} {B : Bx} {W : WX} {pos : Pos} {a b c e : Expr} {F F1 F2 F3 : Rho → Res PyData}
def augS (i : Nat) (f : Int → Int → Int) (F : Rho → Res PyData) : Rho → Out := fun ρ => match ρ[i]? with
  | some (.d (.int a)) => (F ρ).out fun d ρ1 => match d with
    | .int b => if i < ρ1.length then .nx (ρ1.set i (.d (.int (f a b)))) else .bad
    | _ => .bad
  | _ => .bad
theorem pd_aug (i : Nat) {f : Int → Int → Int} {op : Operator} {x : Str} {pos' : Pos} (ho : PIp X op (ipI f)) (hN : X.N.Nodup) (he : PE X e (tD (km X) B W F)) (hi : X.N[i]? = some x := by rfl) (hx : Loc X.env.scope x := by first | exact Or.inl rfl | exact Or.inr rfl) (hf : X.fn x = true ∨ X.env.scope.names.lookup x = some .local := by first | exact .inl rfl | exact .inr rfl | assumption) :
    PS X (.AugAssign (.Name x pos') op e pos) (tDS (km X) B W (augS i f F)) := by
  refine (ps_aug hN hi hx he ho hf).of ?_
  rintro D σ H ⟨G, ρ, E, S⟩
  unfold augS at S
  split at S
  · rename_i a ea
    have q := E.ent i _ ea
    generalize hs : σ[i]? = o at q
    cases q with
    | d dp =>
      cases dp
      refine ⟨_, hs, G, ρ, E, (SatS.out S).imp fun d ρ1 s1 v G1 H1 E1 g1 dp1 => ?_⟩
      cases d <;> first | exact s1.elim | skip
      rename_i b
      cases dp1
      have s2 : SatS (km X) B W G D (if i < ρ1.length then .nx (ρ1.set i (.d (.int (f a b)))) else .bad) := s1
      by_cases hl : i < ρ1.length
      · rw [if_pos hl] at s2
        exact ⟨a, b, rfl, rfl, s2 _ _ _ (E1.put hl (.int _)) g1⟩
      · rw [if_neg hl] at s2
        exact s2.elim
  · exact S.elim
end
end DL
namespace DL
open PySem PySem.Spec PyProof.Rows L2 RT
def fn1 (g : PyData → FR) : Fn
  | [a0] => g a0
  | _ => .bad
theorem fn1_len (g : PyData → FR) : ∀ ds, fn1 g ds ≠ .bad → ds.length = 1 := fun ds h => by
  unfold fn1 at h
  split at h
  · rfl
  · exact absurd rfl h
theorem fn1_body {g : PyData → FR} {S : Rho → Out} {k : Nat} (q : ∀ a0, outFR (S (startR k [a0])) = g a0) : ∀ ds, fn1 g ds ≠ .bad → outFR (S (startR k ds)) = fn1 g ds := fun ds h => by
  unfold fn1 at h ⊢
  split at h
  · exact q _
  · exact absurd rfl h
def fn2 (g : PyData → PyData → FR) : Fn
  | [a0, a1] => g a0 a1
  | _ => .bad
theorem fn2_len (g : PyData → PyData → FR) : ∀ ds, fn2 g ds ≠ .bad → ds.length = 2 := fun ds h => by
  unfold fn2 at h
  split at h
  · rfl
  · exact absurd rfl h
theorem fn2_body {g : PyData → PyData → FR} {S : Rho → Out} {k : Nat} (q : ∀ a0 a1, outFR (S (startR k [a0, a1])) = g a0 a1) : ∀ ds, fn2 g ds ≠ .bad → outFR (S (startR k ds)) = fn2 g ds := fun ds h => by
  unfold fn2 at h ⊢
  split at h
  · exact q _ _
  · exact absurd rfl h
def fn3 (g : PyData → PyData → PyData → FR) : Fn
  | [a0, a1, a2] => g a0 a1 a2
  | _ => .bad
theorem fn3_len (g : PyData → PyData → PyData → FR) : ∀ ds, fn3 g ds ≠ .bad → ds.length = 3 := fun ds h => by
  unfold fn3 at h
  split at h
  · rfl
  · exact absurd rfl h
theorem fn3_body {g : PyData → PyData → PyData → FR} {S : Rho → Out} {k : Nat} (q : ∀ a0 a1 a2, outFR (S (startR k [a0, a1, a2])) = g a0 a1 a2) : ∀ ds, fn3 g ds ≠ .bad → outFR (S (startR k ds)) = fn3 g ds := fun ds h => by
  unfold fn3 at h ⊢
  split at h
  · exact q _ _ _
  · exact absurd rfl h
def fn4 (g : PyData → PyData → PyData → PyData → FR) : Fn
  | [a0, a1, a2, a3] => g a0 a1 a2 a3
  | _ => .bad
theorem fn4_len (g : PyData → PyData → PyData → PyData → FR) : ∀ ds, fn4 g ds ≠ .bad → ds.length = 4 := fun ds h => by
  unfold fn4 at h
  split at h
  · rfl
  · exact absurd rfl h
theorem fn4_body {g : PyData → PyData → PyData → PyData → FR} {S : Rho → Out} {k : Nat} (q : ∀ a0 a1 a2 a3, outFR (S (startR k [a0, a1, a2, a3])) = g a0 a1 a2 a3) : ∀ ds, fn4 g ds ≠ .bad → outFR (S (startR k ds)) = fn4 g ds := fun ds h => by
  unfold fn4 at h ⊢
  split at h
  · exact q _ _ _ _
  · exact absurd rfl h
def DefOk (P : Program) (w : World) (K : PySem.W.Frag) (mg : Str → Option Value) (base : Heap) (x : Str) (k : Nat) (fn : Fn) : Prop :=
  ∃ f fd ps, FnOk P w K mg base (L2.CX P w) k f fd ps (spD ⟨K, mg, w⟩ fn) ∧ mg x = some (.ref f) ∧ PySem.W.keepIn K (.ref f) = true ∧ Binds K fd ps []
section
variable {X : L2.Cx} {B : Bx} {W : WX} {pos : Pos} {e : Expr} {es : List Expr} {A : Rho → Res (List PyData)}
theorem pd_call {k : Nat} {fn : Fn} {x : Str} {p : Pos} (D : DefOk X.prog X.w X.K X.mg X.base x k fn) (hr : Room k X.A) (tk : Takes X W)
    (ha : PA X (e :: es) (tDA (km X) B W A)) (hg : Gl X x := by rfl) (hdb : (x == ("__debug__" : Str)) = false := by decide) (he : starEach (e :: es) X.env = (false, eval e X.env) :: starEach es X.env := by rfl) (hpl : (backTo pos (starEach es X.env)).any (·.1) = false := by rfl) :
    PE X (.Call (.Name x p) (e :: es) [] pos) (tD (km X) B W (callF fn A)) := by
  obtain ⟨f, fd, ps, F, hm, hk, hb⟩ := D
  exact pd_call1 F hr hm hk hb (fun σ => passAt tk σ) ha hg hdb he hpl
end
structure ExcTxt (K : PySem.W.Frag) (mg : Str → Option Value) (x : Str) (C : Addr) : Prop where
  gP : mg x = some (.ref C)
  xP : PySem.W.excIn K C [.type "ValueError", .type "Exception", .type "BaseException", .type "object"] "ValueError.__new__" = true
  kP : PySem.W.keepIn K (.ref C) = true
  bP : PySem.W.subIn K (.ref C) (.type "BaseException") = some true
  tP : PySem.W.typeIn K (.ref C) = some (.type "type")
  iP : PySem.W.isClsIn K C = true
  sP : PySem.W.subIn K (.ref C) (.ref C) = some true
def ct1 (x : Str) : Str → Option Bool := fun y => if y = x then some true else none
end DL
namespace DL
open PySem PySem.Spec PyProof.Rows L2 RT
section
variable {α β : Type} {ρ : Rho} {i j n : Nat} {x y z : PyData} {xs ds : List PyData}
@[simp] theorem bind_ok {a : α} {f : α → Rho → Res β} : (Res.ok a ρ).bind f = f a ρ := id rfl
@[simp] theorem out_ok {a : α} {f : α → Rho → Out} : (Res.ok a ρ).out f = f a ρ := id rfl
@[simp] theorem out_ex {e : Exn} {f : α → Rho → Out} : (Res.ex e ρ).out f = .ex e ρ := id rfl
@[simp] theorem obind_nx {f : Rho → Out} : (Out.nx ρ).bind f = f ρ := id rfl
@[simp] theorem obind_rt {f : Rho → Out} : (Out.rt x).bind f = .rt x := id rfl
@[simp] theorem obind_ct {f : Rho → Out} : (Out.ct ρ).bind f = .ct ρ := id rfl
@[simp] theorem obind_ex {e : Exn} {f : Rho → Out} : (Out.ex e ρ).bind f = .ex e ρ := id rfl
@[simp] theorem optR_some {a : α} : optR (some a) ρ = .ok a ρ := id rfl
theorem varF_ap : varF i ρ = (match ρ[i]? with
  | some (.d x) => .ok x ρ
  | some (.own xs) => .ok (.list xs) (ρ.set i (.d (.list xs)))
  | _ => .bad) := id rfl
@[simp] theorem varF_apc {e0 : Ent} : varF i (e0 :: ρ) = (match (e0 :: ρ)[i]? with
  | some (.d x) => .ok x (e0 :: ρ)
  | some (.own xs) => .ok (.list xs) ((e0 :: ρ).set i (.d (.list xs)))
  | _ => .bad) := varF_ap
variable {F F1 F2 : Rho → Res PyData} {A : Rho → Res (List PyData)} {T1 T2 : Rho → Res Bool} {S1 S2 : Rho → Out} {T : Tg} {g2 : PyData → PyData → Option PyData} {g1 : PyData → Option PyData} {gs : List PyData → Option PyData} {fn : Fn}
theorem cF_ap : cF x ρ = .ok x ρ := id rfl
@[simp] theorem cF_apc {e0 : Ent} : cF x (e0 :: ρ) = .ok x (e0 :: ρ) := cF_ap
theorem binF_ap : binF g2 F1 F2 ρ = (F1 ρ).bind fun d ρ => (F2 ρ).bind fun e ρ => optR (g2 d e) ρ := id rfl
@[simp] theorem binF_apc {e0 : Ent} : binF g2 F1 F2 (e0 :: ρ) = (F1 (e0 :: ρ)).bind fun d ρ => (F2 ρ).bind fun e ρ => optR (g2 d e) ρ := binF_ap
theorem unF_ap : unF g1 F ρ = (F ρ).bind fun d ρ => optR (g1 d) ρ := id rfl
@[simp] theorem unF_apc {e0 : Ent} : unF g1 F (e0 :: ρ) = (F (e0 :: ρ)).bind fun d ρ => optR (g1 d) ρ := unF_ap
@[simp] theorem isB_b {b : Bool} : isB (.bool b) = some b := id rfl
theorem testF_ap : testF F ρ = (F ρ).bind fun d ρ => optR (isB d) ρ := id rfl
@[simp] theorem testF_apc {e0 : Ent} : testF F (e0 :: ρ) = (F (e0 :: ρ)).bind fun d ρ => optR (isB d) ρ := testF_ap
theorem truF_ap : truF F ρ = (F ρ).bind fun d ρ => optR (truth d) ρ := id rfl
@[simp] theorem truF_apc {e0 : Ent} : truF F (e0 :: ρ) = (F (e0 :: ρ)).bind fun d ρ => optR (truth d) ρ := truF_ap
@[simp] theorem truth_b {b : Bool} : truth (.bool b) = some b := id rfl
@[simp] theorem truth_l : truth (.list xs) = some (!xs.isEmpty) := id rfl
@[simp] theorem truth_t : truth (.tuple xs) = some (!xs.isEmpty) := id rfl
@[simp] theorem itemsQ_apc {e0 : Ent} : itemsQ F (e0 :: ρ) = (F (e0 :: ρ)).bind fun d ρ => match d with
  | .list ds => .ok ds ρ
  | .tuple ds => .ok ds ρ
  | .str x => .ok (charsD x) ρ
  | _ => .bad := id rfl
@[simp] theorem bTuple_l : bTuple (.list xs) = some (.tuple xs) := id rfl
theorem andT_ap : andT T1 T2 ρ = (T1 ρ).bind fun b ρ => if b = true then T2 ρ else .ok false ρ := id rfl
@[simp] theorem andT_apc {e0 : Ent} : andT T1 T2 (e0 :: ρ) = (T1 (e0 :: ρ)).bind fun b ρ => if b = true then T2 ρ else .ok false ρ := andT_ap
theorem orT_ap : orT T1 T2 ρ = (T1 ρ).bind fun b ρ => if b = true then .ok true ρ else T2 ρ := id rfl
@[simp] theorem orT_apc {e0 : Ent} : orT T1 T2 (e0 :: ρ) = (T1 (e0 :: ρ)).bind fun b ρ => if b = true then .ok true ρ else T2 ρ := orT_ap
theorem notT_ap : notT T1 ρ = (T1 ρ).bind fun b ρ => .ok (!b) ρ := id rfl
@[simp] theorem notT_apc {e0 : Ent} : notT T1 (e0 :: ρ) = (T1 (e0 :: ρ)).bind fun b ρ => .ok (!b) ρ := notT_ap
theorem andV_ap : andV F1 F2 ρ = (testF F1 ρ).bind fun b ρ => if b = true then F2 ρ else .ok (.bool false) ρ := id rfl
@[simp] theorem andV_apc {e0 : Ent} : andV F1 F2 (e0 :: ρ) = (testF F1 (e0 :: ρ)).bind fun b ρ => if b = true then F2 ρ else .ok (.bool false) ρ := andV_ap
theorem orV_ap : orV F1 F2 ρ = (testF F1 ρ).bind fun b ρ => if b = true then .ok (.bool true) ρ else F2 ρ := id rfl
@[simp] theorem orV_apc {e0 : Ent} : orV F1 F2 (e0 :: ρ) = (testF F1 (e0 :: ρ)).bind fun b ρ => if b = true then .ok (.bool true) ρ else F2 ρ := orV_ap
theorem ifF_ap {F1 F2 : Rho → Res α} : ifF T1 F1 F2 ρ = (T1 ρ).bind fun b ρ => if b = true then F1 ρ else F2 ρ := id rfl
@[simp] theorem ifF_apc {F1 F2 : Rho → Res α} {e0 : Ent} : ifF T1 F1 F2 (e0 :: ρ) = (T1 (e0 :: ρ)).bind fun b ρ => if b = true then F1 ρ else F2 ρ := ifF_ap
theorem nilA_ap : nilA ρ = .ok [] ρ := id rfl
@[simp] theorem nilA_apc {e0 : Ent} : nilA (e0 :: ρ) = .ok [] (e0 :: ρ) := nilA_ap
theorem consA_ap : consA F A ρ = (F ρ).bind fun d ρ => (A ρ).bind fun ds ρ => .ok (d :: ds) ρ := id rfl
@[simp] theorem consA_apc {e0 : Ent} : consA F A (e0 :: ρ) = (F (e0 :: ρ)).bind fun d ρ => (A ρ).bind fun ds ρ => .ok (d :: ds) ρ := consA_ap
theorem tupF_ap : tupF A ρ = (A ρ).bind fun ds ρ => if ds.length ≤ 16777216 then .ok (.tuple ds) ρ else .bad := by
  unfold tupF; rw [sizeLine_eq]
@[simp] theorem tupF_apc {e0 : Ent} : tupF A (e0 :: ρ) = (A (e0 :: ρ)).bind fun ds ρ => if ds.length ≤ 16777216 then .ok (.tuple ds) ρ else .bad := tupF_ap
theorem lstF_ap : lstF A ρ = (A ρ).bind fun ds ρ => if ds.length ≤ 16777216 then .ok (.list ds) ρ else .bad := by
  unfold lstF; rw [sizeLine_eq]
@[simp] theorem lstF_apc {e0 : Ent} : lstF A (e0 :: ρ) = (A (e0 :: ρ)).bind fun ds ρ => if ds.length ≤ 16777216 then .ok (.list ds) ρ else .bad := lstF_ap
theorem appF_ap : appF gs A ρ = (A ρ).bind fun ds ρ => optR (gs ds) ρ := id rfl
@[simp] theorem appF_apc {e0 : Ent} : appF gs A (e0 :: ρ) = (A (e0 :: ρ)).bind fun ds ρ => optR (gs ds) ρ := appF_ap
def frR : FR → Rho → Res PyData
  | .ok d, ρ => .ok d ρ
  | .ex e, ρ => .ex e ρ
  | .bad, _ => .bad
@[simp] theorem frR_ok : frR (.ok x) ρ = .ok x ρ := id rfl
@[simp] theorem frR_ex {e : Exn} : frR (.ex e) ρ = .ex e ρ := id rfl
theorem callF_ap : callF fn A ρ = (A ρ).bind fun ds ρ => frR (fn ds) ρ := by
  unfold callF
  congr 1
  funext ds ρ
  cases fn ds <;> rfl
@[simp] theorem callF_apc {e0 : Ent} : callF fn A (e0 :: ρ) = (A (e0 :: ρ)).bind fun ds ρ => frR (fn ds) ρ := callF_ap
@[simp] theorem app1_ap : app1 g1 [x] = g1 x := id rfl
@[simp] theorem app2_ap : app2 g2 [x, y] = g2 x y := id rfl
theorem seqS_ap : seqS S1 S2 ρ = (S1 ρ).bind S2 := id rfl
@[simp] theorem seqS_apc {e0 : Ent} : seqS S1 S2 (e0 :: ρ) = (S1 (e0 :: ρ)).bind S2 := seqS_ap
theorem nxS_ap : nxS ρ = .nx ρ := id rfl
@[simp] theorem nxS_apc {e0 : Ent} : nxS (e0 :: ρ) = .nx (e0 :: ρ) := nxS_ap
@[simp] theorem optS_some : optS (some ρ) = .nx ρ := id rfl
theorem asgS_ap : asgS F T ρ = (F ρ).out fun d ρ => optS (T d ρ) := id rfl
@[simp] theorem asgS_apc {e0 : Ent} : asgS F T (e0 :: ρ) = (F (e0 :: ρ)).out fun d ρ => optS (T d ρ) := asgS_ap
@[simp] theorem nameT_ap : nameT i x ρ = if i < ρ.length then some (ρ.set i (.d x)) else none := id rfl
@[simp] theorem nilTs_ap : nilTs [] ρ = some ρ := id rfl
@[simp] theorem consTs_ap {U : Tgs} : consTs T U (x :: ds) ρ = (T x ρ).bind fun ρ => U ds ρ := id rfl
@[simp] theorem tupT_ap {U : Tgs} : tupT n U (.tuple ds) ρ = if ds.length = n then U ds ρ else none := id rfl
theorem ownS_ap : ownS A i ρ = (A ρ).out fun ds ρ => if ds.length ≤ 16777216 ∧ i < ρ.length then .nx (ρ.set i (.own ds)) else .bad := by
  unfold ownS; rw [sizeLine_eq]
@[simp] theorem ownS_apc {e0 : Ent} : ownS A i (e0 :: ρ) = (A (e0 :: ρ)).out fun ds ρ => if ds.length ≤ 16777216 ∧ i < ρ.length then .nx (ρ.set i (.own ds)) else .bad := ownS_ap
theorem parS_ap : parS A i j ρ = (A ρ).out fun ds ρ => match ds with
  | [d, e] => if i < ρ.length ∧ j < ρ.length then .nx ((ρ.set i (.d d)).set j (.d e)) else .bad
  | _ => .bad := id rfl
@[simp] theorem parS_apc {e0 : Ent} : parS A i j (e0 :: ρ) = (A (e0 :: ρ)).out fun ds ρ => match ds with
  | [d, e] => if i < ρ.length ∧ j < ρ.length then .nx ((ρ.set i (.d d)).set j (.d e)) else .bad
  | _ => .bad := parS_ap
theorem retS_ap : retS F ρ = (F ρ).out fun d _ => .rt d := id rfl
@[simp] theorem retS_apc {e0 : Ent} : retS F (e0 :: ρ) = (F (e0 :: ρ)).out fun d _ => .rt d := retS_ap
theorem dropS_ap : dropS F ρ = (F ρ).out fun _ ρ => .nx ρ := id rfl
@[simp] theorem dropS_apc {e0 : Ent} : dropS F (e0 :: ρ) = (F (e0 :: ρ)).out fun _ ρ => .nx ρ := dropS_ap
theorem ifS_ap : ifS T1 S1 S2 ρ = (T1 ρ).out fun b ρ => if b = true then S1 ρ else S2 ρ := id rfl
@[simp] theorem ifS_apc {e0 : Ent} : ifS T1 S1 S2 (e0 :: ρ) = (T1 (e0 :: ρ)).out fun b ρ => if b = true then S1 ρ else S2 ρ := ifS_ap
@[simp] theorem newDS_apc {e0 : Ent} : newDS i (e0 :: ρ) = if i < (e0 :: ρ).length then .nx ((e0 :: ρ).set i (.dct [])) else .bad := id rfl
@[simp] theorem isDct_dct {kvs : List (Key × PyData)} : isDct (some (.dct kvs)) = true := id rfl
@[simp] theorem dEnt_dct {kvs : List (Key × PyData)} : dEnt (some (.dct kvs)) = some kvs := id rfl
@[simp] theorem dEnt_rdd {kvs : List (Key × PyData)} : dEnt (some (.rdd kvs)) = some kvs := id rfl
@[simp] theorem keyOf_s {x : Str} : keyOf (.str x) = some (.inr x) := id rfl
theorem putS_ap {Fk Fv : Rho → Res PyData} : putS i Fk Fv ρ = (Fv ρ).out fun v ρ => if isDct ρ[i]? = true then (Fk ρ).out fun k ρ => match ρ[i]?, keyOf k with
  | some (.dct kvs), some k => if kvs.length < 16777216 then .nx (ρ.set i (.dct (putD kvs k v))) else .bad
  | _, _ => .bad
  else .bad := by
  unfold putS; rw [sizeLine_eq] <;> rfl
@[simp] theorem putS_apc {Fk Fv : Rho → Res PyData} {e0 : Ent} : putS i Fk Fv (e0 :: ρ) = (Fv (e0 :: ρ)).out fun v ρ => if isDct ρ[i]? = true then (Fk ρ).out fun k ρ => match ρ[i]?, keyOf k with
  | some (.dct kvs), some k => if kvs.length < 16777216 then .nx (ρ.set i (.dct (putD kvs k v))) else .bad
  | _, _ => .bad
  else .bad := putS_ap
@[simp] theorem dixF_apc {Fk : Rho → Res PyData} {e0 : Ent} : dixF i Fk (e0 :: ρ) = if (dEnt (e0 :: ρ)[i]?).isSome = true then (Fk (e0 :: ρ)).bind fun k ρ => match dEnt ρ[i]?, keyOf k with
  | some kvs, some k => optR (valD kvs k) ρ
  | _, _ => .bad
  else .bad := by unfold dixF; exact id rfl
@[simp] theorem dgetF_apc {Fk Fz : Rho → Res PyData} {e0 : Ent} : dgetF i Fk Fz (e0 :: ρ) = if (dEnt (e0 :: ρ)[i]?).isSome = true then (Fk (e0 :: ρ)).bind fun k ρ => (Fz ρ).bind fun z ρ => match dEnt ρ[i]?, keyOf k with
  | some kvs, some k => .ok ((valD kvs k).getD z) ρ
  | _, _ => .bad
  else .bad := by unfold dgetF; exact id rfl
@[simp] theorem dsortF_apc {e0 : Ent} : dsortF i (e0 :: ρ) = match (dEnt (e0 :: ρ)[i]?).bind keysS with
  | some ks => if ks.length < 64 then .ok (.list ((sortS ks).map PyData.str)) (e0 :: ρ) else .bad
  | none => match (dEnt (e0 :: ρ)[i]?).bind keysI with
    | some ks => if ks.length < 64 then .ok (.list ((sortI ks).map PyData.int)) (e0 :: ρ) else .bad
    | none => .bad := by unfold dsortF; exact id rfl
@[simp] theorem dispF_apc {kvs : List (Str × Str)} {e0 : Ent} : dispF kvs i (e0 :: ρ) = match (e0 :: ρ)[i]? with
  | some (.d d) => match keyOf d with
    | some k => optR (valD (mergeD [] (kvD kvs)) k) (e0 :: ρ)
    | none => .bad
  | _ => .bad := by unfold dispF; exact id rfl
@[simp] theorem newS_apc {L : Rho → Res (List PyData)} {e0 : Ent} : newS L i (e0 :: ρ) = (L (e0 :: ρ)).out fun ds ρ => if i < ρ.length then .nx (ρ.set i (.own ds)) else .bad := id rfl
@[simp] theorem cutL_apc {L U : Po} {e0 : Ent} : cutL F L U (e0 :: ρ) = (F (e0 :: ρ)).bind fun d ρ => (L ρ).bind fun l ρ => (U ρ).bind fun u ρ => match d with
  | .list xs => .ok (cutD xs l u) ρ
  | _ => .bad := by unfold cutL; exact id rfl
@[simp] theorem lsetS_apc {Fk Fv : Rho → Res PyData} {e0 : Ent} : lsetS i Fk Fv (e0 :: ρ) = (Fv (e0 :: ρ)).out fun v ρ => if isOwn ρ[i]? = true then (Fk ρ).out fun k ρ => match ρ[i]?, k with
  | some (.own xs), .int k => (match ixN xs.length k with
    | some j => .nx (ρ.set i (.own (xs.set j v)))
    | none => .bad)
  | _, _ => .bad
  else .bad := by unfold lsetS; exact id rfl
@[simp] theorem m1F_apc {e0 : Ent} : m1F g2 F1 F2 (e0 :: ρ) = (F1 (e0 :: ρ)).bind fun d ρ => if isS d = true then (F2 ρ).bind fun e ρ => optR (g2 d e) ρ else .bad := id rfl
@[simp] theorem isS_s {a : Str} : isS (.str a) = true := id rfl
@[simp] theorem augS_apc {f : Int → Int → Int} {e0 : Ent} : augS i f F (e0 :: ρ) = match (e0 :: ρ)[i]? with
  | some (.d (.int a)) => (F (e0 :: ρ)).out fun d ρ1 => match d with
    | .int b => if i < ρ1.length then .nx (ρ1.set i (.d (.int (f a b)))) else .bad
    | _ => .bad
  | _ => .bad := by unfold augS; exact id rfl
@[simp] theorem isOwn_own : isOwn (some (.own xs)) = true := id rfl
theorem appendS_ap : appendS i F ρ = if isOwn ρ[i]? = true then (F ρ).out fun d ρ => match ρ[i]? with
  | some (.own xs) => if xs.length < 16777216 then .nx (ρ.set i (.own (xs ++ [d]))) else .bad
  | _ => .bad
  else .bad := by
  unfold appendS; rw [sizeLine_eq] <;> rfl
@[simp] theorem appendS_apc {e0 : Ent} : appendS i F (e0 :: ρ) = if isOwn (e0 :: ρ)[i]? = true then (F (e0 :: ρ)).out fun d ρ => match ρ[i]? with
  | some (.own xs) => if xs.length < 16777216 then .nx (ρ.set i (.own (xs ++ [d]))) else .bad
  | _ => .bad
  else .bad := appendS_ap
theorem forS_ap {Fi : Rho → Res (List PyData)} : forS Fi T S1 ρ = (Fi ρ).out fun ds ρ => loopS T S1 ds ρ := id rfl
@[simp] theorem forS_apc {Fi : Rho → Res (List PyData)} {e0 : Ent} : forS Fi T S1 (e0 :: ρ) = (Fi (e0 :: ρ)).out fun ds ρ => loopS T S1 ds ρ := forS_ap
@[simp] theorem loopS_nil : loopS T S1 [] ρ = .nx ρ := id rfl
@[simp] theorem range1F_apc {e0 : Ent} : range1F A (e0 :: ρ) = (A (e0 :: ρ)).bind rng1 := id rfl
theorem rng1_ok {j : Int} (h0 : -1000000 ≤ j) (h1 : j ≤ 1000000) : rng1 [.int j] ρ = .ok (rangeL 0 j.toNat) ρ := by
  exact iteC_pos (by constructor <;> omega)
theorem rng1_nat {n : Nat} (h : n ≤ 1000000) : rng1 [.int (n : Int)] ρ = .ok (rangeL 0 n) ρ := by
  rw [rng1_ok (by omega) (by omega)]
  simp
@[simp] theorem outFR_rt : outFR (.rt x) = .ok x := id rfl
@[simp] theorem outFR_nx : outFR (.nx ρ) = .ok .none := id rfl
@[simp] theorem outFR_ex {e : Exn} : outFR (.ex e ρ) = .ex e := id rfl
@[simp] theorem dAdd_i {a b : Int} : dAdd (.int a) (.int b) = some (.int (a + b)) := id rfl
@[simp] theorem dSub_i {a b : Int} : dSub (.int a) (.int b) = some (.int (a - b)) := id rfl
theorem dMod_i {a b : Int} : dMod (.int a) (.int b) = if b ≠ 0 then some (.int (a.fmod b)) else none := id rfl
theorem dPow_ok {a b : Int} (h : 0 ≤ b ∧ b ≤ 1000000 ∧ a.natAbs < 2 ^ 64) : dPow (.int a) (.int b) = some (.int (a ^ b.toNat)) := iteC_pos h
@[simp] theorem dNeg_i {a : Int} : dNeg (.int a) = some (.int (-a)) := id rfl
@[simp] theorem dLt_i {a b : Int} : dLt (.int a) (.int b) = some (.bool (decide (a < b))) := id rfl
@[simp] theorem dGt_i {a b : Int} : dGt (.int a) (.int b) = some (.bool (decide (b < a))) := id rfl
@[simp] theorem dGe_i {a b : Int} : dGe (.int a) (.int b) = some (.bool (decide (b ≤ a))) := id rfl
@[simp] theorem dEq_i {a b : Int} : dEq (.int a) (.int b) = some (.bool (a == b)) := id rfl
@[simp] theorem dNe_i {a b : Int} : dNe (.int a) (.int b) = some (.bool (!(a == b))) := id rfl
@[simp] theorem dIsN2_n : dIsN2 x .none = some (.bool (isNone x)) := id rfl
@[simp] theorem dNotN2_n : dNotN2 x .none = some (.bool (!isNone x)) := id rfl
@[simp] theorem bLen_l : bLen (.list xs) = some (.int xs.length) := id rfl
@[simp] theorem bLen_t : bLen (.tuple xs) = some (.int xs.length) := id rfl
@[simp] theorem bMax_i {a b : Int} : bMax (.int a) (.int b) = some (.int (if b > a then b else a)) := id rfl
@[simp] theorem bMin_i {a b : Int} : bMin (.int a) (.int b) = some (.int (if b < a then b else a)) := id rfl
@[simp] theorem bInt_b {b : Bool} : bInt (.bool b) = some (.int (if b then 1 else 0)) := id rfl
@[simp] theorem bGcd_i {a b : Int} : bGcd (.int a) (.int b) = some (.int ((Nat.gcd a.natAbs b.natAbs : Nat) : Int)) := id rfl
def Sm (a : Int) : Prop := a.natAbs.log2 < 400000
def Sd (a : Int) : Prop := a ≠ 0 ∧ a.natAbs.log2 < 9000
theorem dMul_ok {a b : Int} (ha : Sm a) (hb : Sm b) : dMul (.int a) (.int b) = some (.int (a * b)) := by
  refine iteC_pos ?_
  unfold Sm at ha hb
  omega
theorem dDiv_ok {a b : Int} (hb : Sd b) : dDiv (.int a) (.int b) = some (.int (a.fdiv b)) := by
  exact iteC_pos hb
theorem dMod_ok {a b : Int} (hb : b ≠ 0) : dMod (.int a) (.int b) = some (.int (a.fmod b)) := by
  rw [dMod_i, if_pos hb]
def Bt (n : Nat) (a : Int) : Prop := a.natAbs < 2 ^ n
theorem Bt.log {n : Nat} {a : Int} (h : Bt n a) (h0 : 0 < n) : a.natAbs.log2 < n := PySem.Flt.log2_lt_of h0 h
theorem Bt.sm {n : Nat} {a : Int} (h : Bt n a) (hn : n ≤ 400000) : Sm a := by
  unfold Sm
  have : Bt (n + 1) a := Nat.lt_of_lt_of_le h (Nat.pow_le_pow_right (by decide) (Nat.le_succ n))
  by_cases h0 : 0 < n
  · exact Nat.lt_of_lt_of_le (h.log h0) hn
  · have e : n = 0 := by omega
    subst e
    unfold Bt at h
    have : a.natAbs = 0 := by simpa using h
    rw [this]
    decide
theorem Bt.sd {n : Nat} {a : Int} (h : Bt n a) (ha : a ≠ 0) (h0 : 0 < n) (hn : n ≤ 9000) : Sd a := ⟨ha, Nat.lt_of_lt_of_le (h.log h0) hn⟩
theorem Bt.mono {n k : Nat} {a : Int} (h : Bt n a) (hn : n ≤ k) : Bt k a := Nat.lt_of_lt_of_le h (Nat.pow_le_pow_right (by decide) hn)
theorem Bt.mul {n k : Nat} {a b : Int} (h : Bt n a) (q : Bt k b) : Bt (n + k) (a * b) := wide_lt h q
theorem Bt.add {n : Nat} {a b : Int} (h : Bt n a) (q : Bt n b) : Bt (n + 1) (a + b) := by
  unfold Bt at *
  rw [Nat.pow_succ]
  omega
theorem Bt.neg {n : Nat} {a : Int} (h : Bt n a) : Bt n (-a) := by
  unfold Bt at *
  omega
theorem Bt.sub {n : Nat} {a b : Int} (h : Bt n a) (q : Bt n b) : Bt (n + 1) (a - b) := by
  unfold Bt at *
  rw [Nat.pow_succ]
  omega
theorem Bt.le {n : Nat} {a b : Int} (h : Bt n b) (q : a.natAbs ≤ b.natAbs) : Bt n a := Nat.lt_of_le_of_lt q h
theorem ixN_nat (h : i < n) : ixN n (i : Int) = some i := by
  unfold ixN
  rw [if_pos (by omega), if_pos (by omega)]; simp
@[simp] theorem dIx_l0 : dIx (.list (x :: xs)) (.int 0) = some x := by
  show atI (x :: xs) ((0 : Nat) : Int) = _
  exact atI_nat rfl
@[simp] theorem dIx_t0 : dIx (.tuple (x :: xs)) (.int 0) = some x := by
  show atI (x :: xs) ((0 : Nat) : Int) = _
  exact atI_nat rfl
theorem dIx_l (h : xs[i]? = some x) : dIx (.list xs) (.int (i : Int)) = some x := atI_nat h
theorem dIx_t (h : xs[i]? = some x) : dIx (.tuple xs) (.int (i : Int)) = some x := atI_nat h
@[simp] theorem dIx_t1 : dIx (.tuple (x :: y :: xs)) (.int 1) = some y := dIx_t (i := 1) rfl
@[simp] theorem dIx_t2 : dIx (.tuple (x :: y :: z :: xs)) (.int 2) = some z := dIx_t (i := 2) rfl
@[simp] theorem dIx_l1 : dIx (.list (x :: y :: xs)) (.int 1) = some y := dIx_l (i := 1) rfl
@[simp] theorem dIx_l2 : dIx (.list (x :: y :: z :: xs)) (.int 2) = some z := dIx_l (i := 2) rfl
@[simp] theorem dIx_l3 {u : PyData} : dIx (.list (x :: y :: z :: u :: xs)) (.int 3) = some u := dIx_l (i := 3) rfl
@[simp] theorem dIx_l4 {u v : PyData} : dIx (.list (x :: y :: z :: u :: v :: xs)) (.int 4) = some v := dIx_l (i := 4) rfl
@[simp] theorem dIx_l5 {u v w : PyData} : dIx (.list (x :: y :: z :: u :: v :: w :: xs)) (.int 5) = some w := dIx_l (i := 5) rfl
@[simp] theorem dIx_l6 {u v w q : PyData} : dIx (.list (x :: y :: z :: u :: v :: w :: q :: xs)) (.int 6) = some q := dIx_l (i := 6) rfl
theorem loopS_cons {d : PyData} {ρ1 : Rho} (h : T d ρ = some ρ1) : loopS T S1 (d :: ds) ρ = match S1 ρ1 with
      | .nx ρ2 => loopS T S1 ds ρ2
      | .ct ρ2 => loopS T S1 ds ρ2
      | .bk ρ2 => .nx ρ2
      | o => o := by
  show (match T d ρ with
    | none => _
    | some ρ1 => _) = _
  rw [h] <;> rfl
theorem loopS_inv (I : Nat → Rho → Prop) (ds : List PyData) (h : ∀ (k : Nat) (d : PyData) (ρ : Rho), ds[k]? = some d → I k ρ → ∃ ρ1 ρ2, T d ρ = some ρ1 ∧ S1 ρ1 = .nx ρ2 ∧ I (k + 1) ρ2) :
    ∀ ρ, I 0 ρ → ∃ ρ', loopS T S1 ds ρ = .nx ρ' ∧ I ds.length ρ' := by
  induction ds generalizing I with
  | nil => intro ρ h0; exact ⟨ρ, rfl, h0⟩
  | cons d ds ih =>
    intro ρ h0
    obtain ⟨ρ1, ρ2, h1, h2, h3⟩ := h 0 d ρ rfl h0
    obtain ⟨ρ', e, q⟩ := ih (fun k => I (k + 1)) (fun k d ρ hd => h (k + 1) d ρ (by simpa using hd)) ρ2 h3
    refine ⟨ρ', ?_, q⟩
    rw [loopS_cons h1, h2]
    exact e
theorem rangeL_get {a : Int} {n k : Nat} {d : PyData} (h : (rangeL a n)[k]? = some d) : d = .int (a + k) ∧ k < n := by
  unfold rangeL at h
  rw [List.getElem?_map] at h
  have hk : k < n := by
    apply Classical.byContradiction
    intro z
    rw [List.getElem?_eq_none (by simp; omega)] at h
    cases h
  rw [List.getElem?_range hk] at h
  cases h
  exact ⟨rfl, hk⟩
@[simp] theorem rangeL_len {a : Int} {n : Nat} : (rangeL a n).length = n := by unfold rangeL; simp
end
end DL
namespace DL
open PySem PySem.Spec PyProof.Rows L2 RT
noncomputable def lS_cell : Rho → Out := (seqS (ifS (testF (binF dLt (varF 1) (appF (app1 bLen) (consA (varF 0) nilA)))) (retS (binF dIx (varF 0) (varF 1))) nxS) (retS (cF (.int 0))))
noncomputable def lB_cell (a0 a1 : PyData) : FR := outFR (lS_cell [.d a0, .d a1])
noncomputable def lm_cell : Fn := fn2 lB_cell
noncomputable def lS_draw : Rho → Out := (seqS (asgS (callF lm_cell (consA (varF 0) (consA (varF 1) nilA))) (nameT 3)) (seqS (ifS (testF (binF dLt (varF 3) (cF (.int 0)))) (asgS (unF dNeg (varF 3)) (nameT 3)) nxS) (seqS (ownS nilA 4) (seqS (ifS (testF (binF dGe (varF 3) (binF dPow (cF (.int 10)) (cF (.int 18))))) (seqS (asgS (binF dSub (varF 3) (binF dPow (cF (.int 10)) (cF (.int 18)))) (nameT 3)) (seqS (forS (itemsQ (varF 2)) (nameT 5) (seqS (appendS 4 (binF dMod (varF 3) (varF 5))) (asgS (binF dDiv (varF 3) (varF 5)) (nameT 3)))) (retS (varF 4)))) nxS) (seqS (asgS (binF dMod (binF dAdd (binF dAdd (varF 3) (cF (.int 1))) (binF dMul (cF (.int 31)) (varF 1))) (cF (.int 2147483647))) (nameT 6)) (seqS (forS (range1F (consA (appF (app1 bLen) (consA (varF 2) nilA)) nilA)) (nameT 7) (seqS (asgS (binF dMod (binF dAdd (binF dAdd (binF dMul (varF 6) (cF (.int 48271))) (cF (.int 11))) (varF 7)) (cF (.int 2147483647))) (nameT 6)) (seqS (asgS (binF dMod (binF dAdd (binF dMul (varF 6) (cF (.int 69621))) (cF (.int 3))) (cF (.int 2147483647))) (nameT 6)) (appendS 4 (binF dMod (binF dDiv (varF 6) (cF (.int 7))) (binF dIx (varF 2) (varF 7))))))) (retS (varF 4))))))))
noncomputable def lB_draw (a0 a1 a2 : PyData) : FR := outFR (lS_draw [.d a0, .d a1, .d a2, .un, .un, .un, .un, .un])
noncomputable def lm_draw : Fn := fn3 lB_draw
noncomputable def lS_f : Rho → Out := (seqS (ifS (testF (binF dLt (varF 1) (cF (.int 0)))) (seqS (asgS (unF dNeg (varF 0)) (nameT 0)) (asgS (unF dNeg (varF 1)) (nameT 1))) nxS) (seqS (asgS (appF (app2 bMax) (consA (varF 0) (consA (unF dNeg (varF 0)) nilA))) (nameT 2)) (seqS (asgS (varF 1) (nameT 3)) (seqS (whileS (testF (binF dNe (varF 3) (cF (.int 0)))) (parS (consA (varF 3) (consA (binF dMod (varF 2) (varF 3)) nilA)) 2 3)) (retS (tupF (consA (binF dDiv (varF 0) (varF 2)) (consA (binF dDiv (varF 1) (varF 2)) nilA))))))))
noncomputable def lB_f (a0 a1 : PyData) : FR := outFR (lS_f [.d a0, .d a1, .un, .un])
noncomputable def lm_f : Fn := fn2 lB_f
abbrev iL (ns : List Int) : PyData := .list (ns.map PyData.int)
def Dig : List Int → List Int → Prop
  | [], [] => True
  | d :: ds, z :: zs => (0 ≤ d ∧ d < z) ∧ Dig ds zs
  | _, _ => False
theorem Dig.snoc : ∀ {ds zs : List Int} {d z : Int}, Dig ds zs → 0 ≤ d → d < z → Dig (ds ++ [d]) (zs ++ [z])
  | [], [], _, _, _, h1, h2 => ⟨⟨h1, h2⟩, trivial⟩
  | _ :: _, _ :: _, _, _, h, h1, h2 => ⟨h.1, Dig.snoc h.2 h1 h2⟩
  | [], _ :: _, _, _, h, _, _ => h.elim
  | _ :: _, [], _, _, h, _, _ => h.elim
theorem cell_ok (ns : List Int) (k : Nat) : ∃ c : Int, lB_cell (iL ns) (.int k) = .ok (.int c) := by
  by_cases h : k < ns.length
  · have e : (ns.map PyData.int)[k]? = some (.int ns[k]) := by simp [h]
    refine ⟨ns[k], ?_⟩
    simp [lB_cell, lS_cell, iL, h, dIx_l e]
  · refine ⟨0, ?_⟩
    simp [lB_cell, lS_cell, iL, h]
theorem fmod_digit {c z : Int} (hz : 0 < z) : 0 ≤ c.fmod z ∧ c.fmod z < z := by
  rw [Int.fmod_eq_emod_of_nonneg c (by omega)]
  exact ⟨Int.emod_nonneg c (by omega), Int.emod_lt_of_pos c hz⟩
theorem loop1 (e0 e1 e2 e6 e7 : Ent) : ∀ (zs acc : List Int) (c : Int) (e5 : Ent), (∀ z ∈ zs, 0 < z ∧ z < 1073741824) → acc.length + zs.length ≤ 1000 →
    ∃ ds e5' c', loopS (nameT 5) (seqS (appendS 4 (binF dMod (varF 3) (varF 5))) (asgS (binF dDiv (varF 3) (varF 5)) (nameT 3))) (zs.map PyData.int) [e0, e1, e2, .d (.int c), .own (acc.map PyData.int), e5, e6, e7] =
      .nx [e0, e1, e2, .d (.int c'), .own ((acc ++ ds).map PyData.int), e5', e6, e7] ∧ Dig ds zs
  | [], acc, c, e5, _, _ => ⟨[], e5, c, by simp, trivial⟩
  | z :: zs, acc, c, e5, hz, hl => by
    obtain ⟨hz1, hz2⟩ := hz z List.mem_cons_self
    have hl' : acc.length + (zs.length + 1) ≤ 1000 := hl
    obtain ⟨ds, e5', c', h1, h2⟩ := loop1 e0 e1 e2 e6 e7 zs (acc ++ [c.fmod z]) (c.fdiv z) (.d (.int z)) (fun y hy => hz y (List.mem_cons_of_mem _ hy)) (by simp; omega)
    refine ⟨c.fmod z :: ds, e5', c', ?_, ⟨fmod_digit hz1, h2⟩⟩
    have sd : Sd z := Bt.sd (n := 30) (by unfold Bt; omega) (by omega) (by decide) (by decide)
    have zn : z ≠ 0 := by omega
    have lt : acc.length < 16777216 := by omega
    rw [List.map_cons, loopS_cons (ρ1 := [e0, e1, e2, .d (.int c), .own (acc.map PyData.int), .d (.int z), e6, e7]) (by simp)]
    simp [dMod_ok, dDiv_ok, sd, zn, lt]
    simpa using h1
theorem Dig.len : ∀ {ds zs : List Int}, Dig ds zs → ds.length = zs.length
  | [], [], _ => rfl
  | _ :: _, _ :: _, h => by simp [Dig.len h.2]
  | [], _ :: _, h => h.elim
  | _ :: _, [], h => h.elim
theorem loop2 (M : Int) (hM : 0 < M ∧ M < 2147483648) (e0 e1 e3 e5 : Ent) (zs : List Int) (hz : ∀ z ∈ zs, 0 < z ∧ z < 1073741824) (hl : zs.length ≤ 1000) (s7 : Int) (h0 : 0 ≤ s7 ∧ s7 < M) (e7 : Ent) :
    ∃ ρ', loopS (nameT 7) (seqS (asgS (binF dMod (binF dAdd (binF dAdd (binF dMul (varF 6) (cF (.int 48271))) (cF (.int 11))) (varF 7)) (cF (.int M))) (nameT 6)) (seqS (asgS (binF dMod (binF dAdd (binF dMul (varF 6) (cF (.int 69621))) (cF (.int 3))) (cF (.int M))) (nameT 6)) (appendS 4 (binF dMod (binF dDiv (varF 6) (cF (.int 7))) (binF dIx (varF 2) (varF 7))))))
      (rangeL 0 zs.length) [e0, e1, .d (iL zs), e3, .own [], e5, .d (.int s7), e7] = .nx ρ' ∧ ∃ (ds : List Int) (s8 : Int) (e8 : Ent), ρ' = [e0, e1, .d (iL zs), e3, .own (ds.map PyData.int), e5, .d (.int s8), e8] ∧ Dig ds zs := by
  have L := loopS_inv (T := nameT 7) (S1 := (seqS (asgS (binF dMod (binF dAdd (binF dAdd (binF dMul (varF 6) (cF (.int 48271))) (cF (.int 11))) (varF 7)) (cF (.int M))) (nameT 6)) (seqS (asgS (binF dMod (binF dAdd (binF dMul (varF 6) (cF (.int 69621))) (cF (.int 3))) (cF (.int M))) (nameT 6)) (appendS 4 (binF dMod (binF dDiv (varF 6) (cF (.int 7))) (binF dIx (varF 2) (varF 7)))))))
    (fun k ρ => ∃ (ds : List Int) (s8 : Int) (e8 : Ent), ρ = [e0, e1, .d (iL zs), e3, .own (ds.map PyData.int), e5, .d (.int s8), e8] ∧ (0 ≤ s8 ∧ s8 < M) ∧ Dig ds (zs.take k)) (rangeL 0 zs.length) (fun k d ρ hd ⟨ds, s8, e8, hρ, hs, hg⟩ => ?_) [e0, e1, .d (iL zs), e3, .own [], e5, .d (.int s7), e7] ⟨[], s7, e7, rfl, h0, trivial⟩
  · obtain ⟨ρ', h1, ds, s8, e8, h2, _, h4⟩ := L
    rw [rangeL_len, List.take_length] at h4
    exact ⟨ρ', h1, ds, s8, e8, h2, h4⟩
  · obtain ⟨rfl, hk⟩ := rangeL_get hd
    subst hρ
    have sm1 : Sm s8 := Bt.sm (n := 31) (by unfold Bt; omega) (by decide)
    have sm2 : ∀ a : Int, Sm (a.fmod M) := fun a => by
      have := fmod_digit (c := a) (z := M) hM.1
      exact Bt.sm (n := 31) (by unfold Bt; omega) (by decide)
    have c1 : Sm 48271 := Bt.sm (n := 31) (by unfold Bt; decide) (by decide)
    have c2 : Sm 69621 := Bt.sm (n := 31) (by unfold Bt; decide) (by decide)
    have mn : M ≠ 0 := by omega
    have c7 : Sd 7 := Bt.sd (n := 31) (by unfold Bt; decide) (by decide) (by decide) (by decide)
    have ez : (zs.map PyData.int)[k]? = some (.int zs[k]) := by simp [hk]
    obtain ⟨hz1, hz2⟩ := hz zs[k] (List.getElem_mem hk)
    have zn : zs[k] ≠ 0 := by omega
    have hlen : ds.length < 16777216 := by
      rw [hg.len, List.length_take]
      omega
    have q := fmod_digit (c := ((s8 * 48271 + 11 + k).fmod M * 69621 + 3).fmod M |>.fdiv 7) hz1
    refine ⟨[e0, e1, .d (iL zs), e3, .own (ds.map PyData.int), e5, .d (.int s8), .d (.int (k : Int))],
      [e0, e1, .d (iL zs), e3, .own ((ds ++ [((((s8 * 48271 + 11 + k).fmod M * 69621 + 3).fmod M).fdiv 7).fmod zs[k]]).map PyData.int), e5, .d (.int (((s8 * 48271 + 11 + k).fmod M * 69621 + 3).fmod M)), .d (.int (k : Int))], by simp, ?_, _, _, _, rfl, fmod_digit hM.1, ?_⟩
    · simp [dMod_ok, dMul_ok, dDiv_ok, sm1, sm2, c1, c2, c7, dIx_l ez, zn, hlen, mn]
    · rw [List.take_succ_eq_append_getElem hk]
      exact hg.snoc q.1 q.2
theorem e18 : (10 : Int) ^ 18 = 1000000000000000000 := by decide +kernel
def e18I : Int := 1000000000000000000
theorem p10 : dPow (.int 10) (.int 18) = some (.int e18I) := by
  have : (10 : Int) ^ (18 : Int).toNat = e18I := e18
  rw [dPow_ok (by decide), this]
noncomputable def drawTail (M : Int) : Rho → Out := (seqS (ownS nilA 4) (seqS (ifS (testF (binF dGe (varF 3) (binF dPow (cF (.int 10)) (cF (.int 18))))) (seqS (asgS (binF dSub (varF 3) (binF dPow (cF (.int 10)) (cF (.int 18)))) (nameT 3)) (seqS (forS (itemsQ (varF 2)) (nameT 5) (seqS (appendS 4 (binF dMod (varF 3) (varF 5))) (asgS (binF dDiv (varF 3) (varF 5)) (nameT 3)))) (retS (varF 4)))) nxS) (seqS (asgS (binF dMod (binF dAdd (binF dAdd (varF 3) (cF (.int 1))) (binF dMul (cF (.int 31)) (varF 1))) (cF (.int M))) (nameT 6)) (seqS (forS (range1F (consA (appF (app1 bLen) (consA (varF 2) nilA)) nilA)) (nameT 7) (seqS (asgS (binF dMod (binF dAdd (binF dAdd (binF dMul (varF 6) (cF (.int 48271))) (cF (.int 11))) (varF 7)) (cF (.int M))) (nameT 6)) (seqS (asgS (binF dMod (binF dAdd (binF dMul (varF 6) (cF (.int 69621))) (cF (.int 3))) (cF (.int M))) (nameT 6)) (appendS 4 (binF dMod (binF dDiv (varF 6) (cF (.int 7))) (binF dIx (varF 2) (varF 7))))))) (retS (varF 4))))))
theorem lS_draw_eq : lS_draw = seqS (asgS (callF lm_cell (consA (varF 0) (consA (varF 1) nilA))) (nameT 3)) (seqS (ifS (testF (binF dLt (varF 3) (cF (.int 0)))) (asgS (unF dNeg (varF 3)) (nameT 3)) nxS) (drawTail 2147483647)) := rfl
section
variable (M : Int) (hM : 0 < M ∧ M < 2147483648) (ns : List Int) (k : Nat) (hk : k < 1000) (zs : List Int) (hz : ∀ z ∈ zs, 0 < z ∧ z < 1073741824) (hl : zs.length ≤ 1000) (c : Int)
include hz hl
theorem draw_a (h2 : e18I ≤ c) : ∃ ds : List Int, outFR (drawTail M [.d (iL ns), .d (.int k), .d (iL zs), .d (.int c), .un, .un, .un, .un]) = .ok (iL ds) ∧ Dig ds zs := by
  obtain ⟨ds, e5', c', h3, h4⟩ := loop1 (.d (iL ns)) (.d (.int k)) (.d (iL zs)) .un .un zs [] (c - e18I) .un hz (by simpa using hl)
  refine ⟨ds, ?_, h4⟩
  simp only [List.map_nil] at h3
  simp [drawTail, p10, h2, h3]
include hk hM
theorem draw_b (h2 : ¬ e18I ≤ c) : ∃ ds : List Int, outFR (drawTail M [.d (iL ns), .d (.int k), .d (iL zs), .d (.int c), .un, .un, .un, .un]) = .ok (iL ds) ∧ Dig ds zs := by
  have mn : M ≠ 0 := by omega
  have sk : Sm (k : Int) := Bt.sm (n := 31) (by unfold Bt; omega) (by decide)
  have c31 : Sm 31 := Bt.sm (n := 31) (by unfold Bt; decide) (by decide)
  obtain ⟨ρ', h3, ds, s8, e8, h4, h5⟩ := loop2 M hM (.d (iL ns)) (.d (.int k)) (.d (.int c)) .un zs hz hl ((c + 1 + 31 * k).fmod M) (fmod_digit hM.1) .un
  subst h4
  refine ⟨ds, ?_, h5⟩
  have hr : rng1 [.int ((zs.length : Nat) : Int)] = fun ρ => .ok (rangeL 0 zs.length) ρ := by
    funext ρ
    exact rng1_nat (by omega)
  simp [drawTail, p10, h2, dMul_ok, sk, c31, dMod_ok, iL, hr, mn] at h3 ⊢
  simp [h3]
omit hM in
theorem draw_ok : ∃ ds : List Int, lB_draw (iL ns) (.int k) (iL zs) = .ok (iL ds) ∧ Dig ds zs := by
  obtain ⟨c, hc⟩ := cell_ok ns k
  have hc2 : lm_cell [iL ns, .int k] = .ok (.int c) := hc
  have main : ∀ c : Int, ∃ ds : List Int, outFR (drawTail 2147483647 [.d (iL ns), .d (.int k), .d (iL zs), .d (.int c), .un, .un, .un, .un]) = .ok (iL ds) ∧ Dig ds zs := fun c => by
    by_cases h2 : e18I ≤ c
    · exact draw_a _ ns k zs hz hl c h2
    · exact draw_b _ (by decide) ns k hk zs hz hl c h2
  by_cases h1 : c < 0
  · obtain ⟨ds, e, q⟩ := main (-c)
    refine ⟨ds, ?_, q⟩
    rw [← e]
    simp [lB_draw, lS_draw_eq, hc2, h1]
  · obtain ⟨ds, e, q⟩ := main c
    refine ⟨ds, ?_, q⟩
    rw [← e]
    simp [lB_draw, lS_draw_eq, hc2, h1]
end
end DL
namespace DL
open PySem PySem.Spec PyProof.Rows L2 RT
def nrm (t b : Int) : Int × Int := if b < 0 then (-t / (Nat.gcd t.natAbs b.natAbs : Int), -b / (Nat.gcd t.natAbs b.natAbs : Int)) else (t / (Nat.gcd t.natAbs b.natAbs : Int), b / (Nat.gcd t.natAbs b.natAbs : Int))
abbrev N (p : Int × Int) : PyData := .tuple [.int p.1, .int p.2]
@[simp] theorem nn_shaped (a b : Int) : SeqAt.shaped (.tuple [.int a, .int b]) = true := id rfl
@[simp] theorem eqv_nn (a b c d : Int) : PyData.eqv (.tuple [.int a, .int b]) (.tuple [.int c, .int d]) = (a == c && b == d) := by
  simp [PyData.eqv, PyData.eqvAll]
@[simp] theorem dNe_nn (a b c d : Int) : dNe (.tuple [.int a, .int b]) (.tuple [.int c, .int d]) = some (.bool (!(a == c && b == d))) := by
  simp [dNe]
@[simp] theorem dEq_nn (a b c d : Int) : dEq (.tuple [.int a, .int b]) (.tuple [.int c, .int d]) = some (.bool (a == c && b == d)) := by
  simp [dEq]
theorem gcd_pos {t b : Int} (hb : b ≠ 0) : 0 < (Nat.gcd t.natAbs b.natAbs : Int) := by
  have : 0 < Nat.gcd t.natAbs b.natAbs := Nat.gcd_pos_of_pos_right _ (by omega)
  omega
theorem gcd_dvd_t {t b : Int} : (Nat.gcd t.natAbs b.natAbs : Int) ∣ t := Int.natAbs_dvd_natAbs.mp (by simpa using Nat.gcd_dvd_left t.natAbs b.natAbs)
theorem gcd_dvd_b {t b : Int} : (Nat.gcd t.natAbs b.natAbs : Int) ∣ b := Int.natAbs_dvd_natAbs.mp (by simpa using Nat.gcd_dvd_right t.natAbs b.natAbs)
theorem gcd_bt {n : Nat} {t b : Int} (hb : b ≠ 0) (h : Bt n b) : Bt n (Nat.gcd t.natAbs b.natAbs : Int) := by
  refine h.le ?_
  have : Nat.gcd t.natAbs b.natAbs ≤ b.natAbs := Nat.le_of_dvd (by omega) (Nat.gcd_dvd_right _ _)
  simpa using this
theorem fdiv_exact {x g : Int} (hg : 0 < g) (h : g ∣ x) : x.fdiv g = x / g := Int.fdiv_eq_ediv_of_nonneg x (by omega)
theorem fdiv_exact_neg {x g : Int} (hg : 0 < g) (h : g ∣ x) : x.fdiv (-g) = -x / g := by
  obtain ⟨y, rfl⟩ := h
  have e : -(g * y) = g * (-y) := by rw [Int.mul_neg]
  rw [e, Int.mul_ediv_cancel_left _ (by omega)]
  have : g * y = (-g) * (-y) := by rw [Int.neg_mul_neg]
  rw [this, Int.mul_fdiv_cancel_left _ (by omega)]
theorem euclid_loop (e0 e1 : Ent) : ∀ (n : Nat) (m : Nat), whileS (testF (binF dNe (varF 3) (cF (.int 0)))) (parS (consA (varF 3) (consA (binF dMod (varF 2) (varF 3)) nilA)) 2 3) [e0, e1, .d (.int (m : Int)), .d (.int (n : Int))] =
    .nx [e0, e1, .d (.int (Nat.gcd n m : Int)), .d (.int 0)] := by
  intro n
  induction n using Nat.strongRecOn with
  | _ n ih =>
    intro m
    rw [whileS_eq]
    by_cases h : n = 0
    · subst h
      simp
    · have h' : (n : Int) ≠ 0 := by omega
      have e : (m : Int).fmod (n : Int) = ((m % n : Nat) : Int) := by
        rw [Int.fmod_eq_emod_of_nonneg _ (by omega)]
        simp
      simp [h, dMod_ok, h', e]
      have q := ih (m % n) (Nat.mod_lt _ (by omega)) n
      rw [Nat.gcd_rec n m]
      simpa using q
theorem lawf_ok {t b : Int} (hb : b ≠ 0) {n : Nat} (h0 : 0 < n) (hn : n ≤ 9000) (h : Bt n b) : lB_f (.int t) (.int b) = .ok (N (nrm t b)) := by
  have g0 := gcd_pos (t := t) hb
  have sg : Sd (Nat.gcd t.natAbs b.natAbs : Int) := (gcd_bt hb h).sd (by omega) h0 hn
  unfold nrm
  by_cases h1 : b < 0
  · have eb : (-b) = ((-b).natAbs : Int) := by omega
    have et : (if -(-t) > -t then -(-t) else -t) = ((t.natAbs : Nat) : Int) := by split <;> omega
    have L := euclid_loop (.d (.int (-t))) (.d (.int (-b))) (-b).natAbs t.natAbs
    rw [Int.natAbs_neg] at L
    have e2 : ((b.natAbs : Nat) : Int) = -b := by omega
    rw [e2, Nat.gcd_comm] at L
    have sg' : Sd ((Nat.gcd b.natAbs t.natAbs : Nat) : Int) := by rw [Nat.gcd_comm]; exact sg
    have f1 : (-t).fdiv (Nat.gcd t.natAbs b.natAbs : Int) = -t / (Nat.gcd t.natAbs b.natAbs : Int) := Int.fdiv_eq_ediv_of_nonneg _ (by omega)
    have f2 : (-b).fdiv (Nat.gcd t.natAbs b.natAbs : Int) = -b / (Nat.gcd t.natAbs b.natAbs : Int) := Int.fdiv_eq_ediv_of_nonneg _ (by omega)
    have et' : (if -t < - -t then - -t else -t) = ((t.natAbs : Nat) : Int) := by split <;> omega
    rw [Int.neg_neg] at et'
    simp [lB_f, lS_f, h1, et', L, dDiv_ok, sg, f1, f2, N]
  · have et' : (if t < -t then -t else t) = ((t.natAbs : Nat) : Int) := by split <;> omega
    have L := euclid_loop (.d (.int t)) (.d (.int b)) b.natAbs t.natAbs
    have e2 : ((b.natAbs : Nat) : Int) = b := by omega
    rw [e2, Nat.gcd_comm] at L
    have f1 : t.fdiv (Nat.gcd t.natAbs b.natAbs : Int) = t / (Nat.gcd t.natAbs b.natAbs : Int) := Int.fdiv_eq_ediv_of_nonneg _ (by omega)
    have f2 : b.fdiv (Nat.gcd t.natAbs b.natAbs : Int) = b / (Nat.gcd t.natAbs b.natAbs : Int) := Int.fdiv_eq_ediv_of_nonneg _ (by omega)
    simp [lB_f, lS_f, h1, et', L, dDiv_ok, sg, f1, f2, N]
theorem nrm_pos {t b : Int} (hb : b ≠ 0) : 0 < (nrm t b).2 := by
  have g0 := gcd_pos (t := t) hb
  unfold nrm
  by_cases h : b < 0
  · rw [if_pos h]
    obtain ⟨y, hy⟩ := gcd_dvd_b (t := t) (b := b)
    generalize (Nat.gcd t.natAbs b.natAbs : Int) = g at *
    show 0 < -b / g
    rw [hy, ← Int.mul_neg, Int.mul_ediv_cancel_left _ (by omega)]
    apply Classical.byContradiction
    intro z
    have : 0 ≤ g * y := Int.mul_nonneg (by omega) (by omega)
    omega
  · rw [if_neg h]
    obtain ⟨y, hy⟩ := gcd_dvd_b (t := t) (b := b)
    generalize (Nat.gcd t.natAbs b.natAbs : Int) = g at *
    show 0 < b / g
    rw [hy, Int.mul_ediv_cancel_left _ (by omega)]
    apply Classical.byContradiction
    intro z
    have : 0 ≤ g * (-y) := Int.mul_nonneg (by omega) (by omega)
    rw [Int.mul_neg] at this
    omega
theorem nrm_cross {t b : Int} (hb : b ≠ 0) : (nrm t b).1 * b = t * (nrm t b).2 := by
  have g0 := gcd_pos (t := t) hb
  obtain ⟨y, hy⟩ := gcd_dvd_b (t := t) (b := b)
  obtain ⟨x, hx⟩ := gcd_dvd_t (t := t) (b := b)
  unfold nrm
  generalize (Nat.gcd t.natAbs b.natAbs : Int) = g at *
  by_cases h : b < 0
  · rw [if_pos h]
    show -t / g * b = t * (-b / g)
    rw [hx, hy, ← Int.mul_neg, Int.mul_ediv_cancel_left _ (by omega), ← Int.mul_neg, Int.mul_ediv_cancel_left _ (by omega)]
    rw [Int.neg_mul, Int.mul_neg, Int.neg_inj, Int.mul_left_comm, Int.mul_assoc]
  · rw [if_neg h]
    show t / g * b = t * (b / g)
    rw [hx, hy, Int.mul_ediv_cancel_left _ (by omega), Int.mul_ediv_cancel_left _ (by omega), Int.mul_left_comm, Int.mul_assoc]
theorem ediv_natAbs_le {x g : Int} (hg : 0 < g) (h : g ∣ x) : (x / g).natAbs ≤ x.natAbs := by
  obtain ⟨y, rfl⟩ := h
  rw [Int.mul_ediv_cancel_left _ (by omega), Int.natAbs_mul]
  exact Nat.le_mul_of_pos_left _ (by omega)
theorem nrm_bt1 {n : Nat} {t b : Int} (hb : b ≠ 0) (h : Bt n t) : Bt n (nrm t b).1 := by
  have g0 := gcd_pos (t := t) hb
  refine h.le ?_
  unfold nrm
  by_cases h : b < 0
  · rw [if_pos h]
    have := ediv_natAbs_le g0 (Int.dvd_neg.mpr (gcd_dvd_t (t := t) (b := b)))
    rw [Int.natAbs_neg] at this
    exact this
  · rw [if_neg h]
    exact ediv_natAbs_le g0 gcd_dvd_t
theorem nrm_bt2 {n : Nat} {t b : Int} (hb : b ≠ 0) (h : Bt n b) : Bt n (nrm t b).2 := by
  have g0 := gcd_pos (t := t) hb
  refine h.le ?_
  unfold nrm
  by_cases h : b < 0
  · rw [if_pos h]
    have := ediv_natAbs_le g0 (Int.dvd_neg.mpr (gcd_dvd_b (t := t) (b := b)))
    rw [Int.natAbs_neg] at this
    exact this
  · rw [if_neg h]
    exact ediv_natAbs_le g0 gcd_dvd_b
end DL
namespace DL
open PySem PySem.Spec PyProof.Rows L2 RT
section
variable {X : L2.Cx} {B : Bx} {W : WX}
def rLcm : List V → Hp → VK → Prop := fun vs H Q => ∃ a b : Int, vs = [.int a, .int b] ∧ (a.natAbs.log2 < 9000 ∧ b.natAbs.log2 < 9000) ∧ Q (.int ((Nat.lcm a.natAbs b.natAbs : Nat) : Int)) H
theorem log_max {a b : Nat} (ha : a.log2 < 9000) (hb : b.log2 < 9000) : (max a b).log2 < 9000 := by
  rcases Nat.le_total a b with h | h
  · rw [Nat.max_eq_right h]; exact hb
  · rw [Nat.max_eq_left h]; exact ha
theorem log2_lt_pow {a n : Nat} (h0 : 0 < n) (h : a.log2 < n) : a < 2 ^ n := by
  by_cases h1 : a = 0
  · subst h1; exact Nat.pow_pos (by decide)
  · exact (Nat.log2_lt h1).mp h
theorem cr_lcm : CallR X (.builtin "math.lcm") rLcm := by
  intro pins s σ H vs us Q I r h
  obtain ⟨a, b, rfl, hl, q⟩ := h
  obtain ⟨t, u, rfl⟩ := Vals.int2 r
  have h1 : (max 1 a.natAbs).log2 < 9000 := log_max (by decide) hl.1
  have h2 : (max a.natAbs b.natAbs).log2 < 9000 := log_max hl.1 hl.2
  have e : (Nat.lcm 1 a.natAbs).lcm b.natAbs = Nat.lcm a.natAbs b.natAbs := by rw [Nat.lcm_one_left]
  have hsz : (((Nat.lcm 1 a.natAbs).lcm b.natAbs : Nat) : Int).natAbs.log2 < bitsLine := by
    rw [e, Int.natAbs_natCast]
    have l1 : Nat.lcm a.natAbs b.natAbs ≤ a.natAbs * b.natAbs := Nat.div_le_self _ _
    have l2 : a.natAbs * b.natAbs < 2 ^ 18000 := by
      have := Nat.mul_lt_mul'' (log2_lt_pow (by decide) hl.1) (log2_lt_pow (by decide) hl.2)
      rw [← Nat.pow_add] at this
      exact this
    have l3 : (Nat.lcm a.natAbs b.natAbs).log2 < 18000 := PySem.Flt.log2_lt_of (by decide) (Nat.lt_of_le_of_lt l1 l2)
    have l4 : 18000 ≤ bitsLine := by decide
    omega
  refine call_function_meets PySem.W.MGF.kind_lcm PySem.W.MGF.plain_lcm PySem.W.MGF.entry_lcm (PySem.W.MGF.args_lcm _ _) (PySem.W.mg_run_lcm a t b u (by omega) (by omega) hsz).meets ?_
  rw [e]
  exact ⟨.int _, H, I.tok _, ⟨_, rfl⟩, q⟩
noncomputable def bLcm : PyData → PyData → Option PyData
  | .int a, .int b => iteC (a.natAbs.log2 < 9000 ∧ b.natAbs.log2 < 9000) (some (.int ((Nat.lcm a.natAbs b.natAbs : Nat) : Int))) none
  | _, _ => none
theorem rd_lcm : RDs X.K rLcm (app2 bLcm) := by
  refine rds2 fun G H x y d e z Q gh h1 h2 hz q => ?_
  cases d <;> cases e <;> first | (cases hz; done) | skip
  rename_i a b
  by_cases hc : a.natAbs.log2 < 9000 ∧ b.natAbs.log2 < 9000
  · rw [show bLcm (.int a) (.int b) = some (.int ((Nat.lcm a.natAbs b.natAbs : Nat) : Int)) from iteC_pos hc] at hz
    cases h1; cases h2; cases hz
    exact ⟨_, _, rfl, hc, q _ _ _ (Ext.refl gh) (.int _)⟩
  · rw [show bLcm (.int a) (.int b) = none from iteC_neg hc] at hz
    cases hz
end
theorem bLcm_ok {a b : Int} {n : Nat} (ha : Bt n a) (hb : Bt n b) (h0 : 0 < n) (hn : n ≤ 9000) : bLcm (.int a) (.int b) = some (.int ((Nat.lcm a.natAbs b.natAbs : Nat) : Int)) :=
  iteC_pos ⟨Nat.lt_of_lt_of_le (ha.log h0) hn, Nat.lt_of_lt_of_le (hb.log h0) hn⟩
section
variable {X : L2.Cx} {B : Bx} {W : WX}
def orL (F1 F2 : Rho → Res PyData) : Rho → Res PyData := fun ρ => (F1 ρ).bind fun d ρ => (optR (truth d) ρ).bind fun b ρ => if b = true then .ok d ρ else F2 ρ
@[simp] theorem orL_apc {F1 F2 : Rho → Res PyData} {e0 : Ent} {ρ : Rho} : orL F1 F2 (e0 :: ρ) = (F1 (e0 :: ρ)).bind fun d ρ => (optR (truth d) ρ).bind fun b ρ => if b = true then .ok d ρ else F2 ρ := id rfl
theorem truV_of {G H : Hp} {v : V} {d : PyData} {k : Bool} (dp1 : Dq X.K G v d) (gh : Same G H) (hk : truth d = some k) : TruV X.K v H k := by
  cases d <;> first | (cases hk; done) | skip
  · cases hk; cases dp1; exact rfl
  · cases hk; cases dp1; exact rfl
  · cases hk; cases dp1; exact rfl
  · cases dp1
    obtain ⟨hl, rfl⟩ := of_if hk
    exact ⟨hl, rfl⟩
  · cases hk
    cases dp1 with
    | lst a1 a2 => exact .inl ⟨_, gh.seq a1, by rw [empty_dp a2]⟩
  · cases hk
    cases dp1 with
    | tup a1 a2 => exact .inr (.inl ⟨_, seqT_same gh a1, by rw [empty_dp a2]⟩)
variable {a b : Expr} {rest : List Expr} {pos : Pos} {F1 F2 : Rho → Res PyData}
theorem pd_orL (ha : PE X a (tD (km X) B W F1)) (hb : PE X (.BoolOp .Or (b :: rest) pos) (tD (km X) B W F2)) : PE X (.BoolOp .Or (a :: b :: rest) pos) (tD (km X) B W (orL F1 F2)) := by
  refine (pe_orT ha hb).of ?_
  rintro σ H Q ⟨G, ρ, E, S⟩
  refine ⟨G, ρ, E, (Sat.bind S).imp fun d ρ1 s1 v G1 H1 E1 g1 dp1 => ?_⟩
  obtain ⟨k, hk, q⟩ := sat_opt (Sat.bind s1)
  refine ⟨k, truV_of dp1 E1.base.gh hk, ?_⟩
  cases k with
  | true =>
    rw [if_pos rfl] at q ⊢
    exact q v G1 H1 E1 g1 dp1
  | false =>
    rw [if_neg (by decide)] at q ⊢
    exact ⟨G1, ρ1, E1, (q.up g1).imp fun c2 ρ2 s2 v G2 H2 E2 g2 => s2 v G2 H2 E2 (g1.trans g2)⟩
end
def hidE : Ent → Ent
  | .own _ => .un
  | e => e
def hid (ρ : Rho) : Rho := ρ.map hidE
def blkO (ρ : Rho) : Rho := (hid ρ).map roE
section
variable {m : KM} {B : Bx} {G H G' H' : Hp} {σ : L2.St} {ρ : Rho}
end
section
variable {X : L2.Cx} {B : Bx} {W : WX} {pos : Pos} {vs : List Nat}
def lcO (vs : List Nat) (Fi : Rho → Res (List PyData)) (T : Tg) (Tt : Rho → Res Bool) (F : Rho → Res PyData) : Rho → Res PyData := fun ρ => (Fi ρ).bind fun ds ρ1 =>
  if (∀ v ∈ vs, v < ρ1.length) then (match compL T Tt F (wipeR (blkO ρ1) vs) ds [] with
    | some r => .ok (.list r) ρ1
    | none => .bad) else .bad
end
end DL
namespace DL
open PySem PySem.Spec PyProof.Rows L2 RT
noncomputable def PG.S_number : Rho → Out := (seqS (ifS (testF (binF dEq (varF 1) (cF (.int 0)))) (raiseS "NumberError") nxS) (seqS (asgS (appF (app2 bGcd) (consA (varF 0) (consA (varF 1) nilA))) (nameT 2)) (seqS (ifS (testF (binF dLt (varF 1) (cF (.int 0)))) (asgS (unF dNeg (varF 2)) (nameT 2)) nxS) (retS (tupF (consA (binF dDiv (varF 0) (varF 2)) (consA (binF dDiv (varF 1) (varF 2)) nilA)))))))
noncomputable def PG.B_number (a0 a1 : PyData) : FR := outFR (PG.S_number [.d a0, .d a1, .un])
noncomputable def PG.m_number : Fn := fn2 PG.B_number
noncomputable def PG.S_plus : Rho → Out := (seqS (asgS (varF 0) (tupT 2 (consTs (nameT 2) (consTs (nameT 3) nilTs)))) (seqS (asgS (varF 1) (tupT 2 (consTs (nameT 4) (consTs (nameT 5) nilTs)))) (retS (callF PG.m_number (consA (binF dAdd (binF dMul (varF 2) (varF 5)) (binF dMul (varF 4) (varF 3))) (consA (binF dMul (varF 3) (varF 5)) nilA))))))
noncomputable def PG.B_plus (a0 a1 : PyData) : FR := outFR (PG.S_plus [.d a0, .d a1, .un, .un, .un, .un])
noncomputable def PG.m_plus : Fn := fn2 PG.B_plus
noncomputable def PG.S_minus : Rho → Out := (seqS (asgS (varF 0) (tupT 2 (consTs (nameT 2) (consTs (nameT 3) nilTs)))) (seqS (asgS (varF 1) (tupT 2 (consTs (nameT 4) (consTs (nameT 5) nilTs)))) (retS (callF PG.m_number (consA (binF dSub (binF dMul (varF 2) (varF 5)) (binF dMul (varF 4) (varF 3))) (consA (binF dMul (varF 3) (varF 5)) nilA))))))
noncomputable def PG.B_minus (a0 a1 : PyData) : FR := outFR (PG.S_minus [.d a0, .d a1, .un, .un, .un, .un])
noncomputable def PG.m_minus : Fn := fn2 PG.B_minus
noncomputable def PG.S_times : Rho → Out := (retS (callF PG.m_number (consA (binF dMul (binF dIx (varF 0) (cF (.int 0))) (binF dIx (varF 1) (cF (.int 0)))) (consA (binF dMul (binF dIx (varF 0) (cF (.int 1))) (binF dIx (varF 1) (cF (.int 1)))) nilA))))
noncomputable def PG.B_times (a0 a1 : PyData) : FR := outFR (PG.S_times [.d a0, .d a1])
noncomputable def PG.m_times : Fn := fn2 PG.B_times
noncomputable def PG.S_compare : Rho → Out := (seqS (asgS (binF dMul (binF dIx (varF 0) (cF (.int 0))) (binF dIx (varF 1) (cF (.int 1)))) (nameT 2)) (seqS (asgS (binF dMul (binF dIx (varF 1) (cF (.int 0))) (binF dIx (varF 0) (cF (.int 1)))) (nameT 3)) (seqS (ifS (testF (binF dLt (varF 2) (varF 3))) (retS (unF dNeg (cF (.int 1)))) nxS) (seqS (ifS (testF (binF dGt (varF 2) (varF 3))) (retS (cF (.int 1))) nxS) (retS (cF (.int 0)))))))
noncomputable def PG.B_compare (a0 a1 : PyData) : FR := outFR (PG.S_compare [.d a0, .d a1, .un, .un])
noncomputable def PG.m_compare : Fn := fn2 PG.B_compare
noncomputable def PG.L_whole_factor_1 : Rho → Out := (seqS (asgS (appF (app2 bGcd) (consA (varF 1) (consA (varF 3) nilA))) (nameT 1)) (asgS (appF (app2 bLcm) (consA (varF 2) (consA (varF 4) nilA))) (nameT 2)))
noncomputable def PG.S_whole_factor : Rho → Out := (seqS (asgS (tupF (consA (cF (.int 0)) (consA (cF (.int 1)) nilA))) (tupT 2 (consTs (nameT 1) (consTs (nameT 2) nilTs)))) (seqS (forS (itemsQ (varF 0)) (tupT 2 (consTs (nameT 3) (consTs (nameT 4) nilTs))) PG.L_whole_factor_1) (retS (callF PG.m_number (consA (varF 2) (consA (varF 1) nilA))))))
noncomputable def PG.B_whole_factor (a0 : PyData) : FR := outFR (PG.S_whole_factor [.d a0, .un, .un, .un, .un])
noncomputable def PG.m_whole_factor : Fn := fn1 PG.B_whole_factor
noncomputable def PG.S_multiplied : Rho → Out := (retS (appF (app1 bTuple) (consA (lcF [2, 3] (itemsQ (varF 0)) (tupT 2 (consTs (nameT 2) (consTs (nameT 3) nilTs))) yesT (tupF (consA (varF 2) (consA (callF PG.m_times (consA (varF 3) (consA (varF 1) nilA))) nilA)))) nilA)))
noncomputable def PG.B_multiplied (a0 a1 : PyData) : FR := outFR (PG.S_multiplied [.d a0, .d a1, .un, .un])
noncomputable def PG.m_multiplied : Fn := fn2 PG.B_multiplied
noncomputable def PG.S_normal_factor : Rho → Out := (seqS (asgS (varF 0) (tupT 3 (consTs (nameT 1) (consTs (nameT 2) (consTs (nameT 3) nilTs))))) (seqS (ifS (andT (notT (truF (varF 1))) (testF (binF dEq (varF 3) (cF (.tuple [.int 0, .int 1]))))) (retS (cF (.tuple [.int 1, .int 1]))) nxS) (seqS (asgS (orL (lcF [5, 6] (itemsQ (varF 1)) (tupT 2 (consTs (nameT 5) (consTs (nameT 6) nilTs))) yesT (varF 6)) (lstF (consA (varF 3) nilA))) (nameT 4)) (seqS (asgS (callF PG.m_whole_factor (consA (varF 4) nilA)) (nameT 7)) (seqS (ifS (andT (testF (binF dEq (varF 2) (cF (.str "=")))) (testF (binF dLt (callF PG.m_compare (consA (binF dIx (varF 4) (cF (.int 0))) (consA (cF (.tuple [.int 0, .int 1])) nilA))) (cF (.int 0))))) (retS (callF PG.m_minus (consA (cF (.tuple [.int 0, .int 1])) (consA (varF 7) nilA)))) nxS) (retS (varF 7)))))))
noncomputable def PG.B_normal_factor (a0 : PyData) : FR := outFR (PG.S_normal_factor [.d a0, .un, .un, .un, .un, .un, .un, .un])
noncomputable def PG.m_normal_factor : Fn := fn1 PG.B_normal_factor
noncomputable def PG.S_normal : Rho → Out := (seqS (asgS (varF 0) (tupT 3 (consTs (nameT 1) (consTs (nameT 2) (consTs (nameT 3) nilTs))))) (seqS (asgS (callF PG.m_normal_factor (consA (varF 0) nilA)) (nameT 4)) (retS (tupF (consA (callF PG.m_multiplied (consA (varF 1) (consA (varF 4) nilA))) (consA (varF 2) (consA (callF PG.m_times (consA (varF 3) (consA (varF 4) nilA))) nilA)))))))
noncomputable def PG.B_normal (a0 : PyData) : FR := outFR (PG.S_normal [.d a0, .un, .un, .un, .un])
noncomputable def PG.m_normal : Fn := fn1 PG.B_normal
noncomputable def PG.L_value_1 : Rho → Out := (asgS (callF PG.m_plus (consA (varF 3) (consA (callF PG.m_times (consA (varF 6) (consA (dgetF 4 (varF 5) (cF (.tuple [.int 0, .int 1]))) nilA))) nilA))) (nameT 3))
noncomputable def PG.S_value : Rho → Out := (seqS (asgS (varF 0) (tupT 2 (consTs (nameT 2) (consTs (nameT 3) nilTs)))) (seqS (dictS (varF 1) 4) (seqS (forS (itemsQ (varF 2)) (tupT 2 (consTs (nameT 5) (consTs (nameT 6) nilTs))) PG.L_value_1) (retS (varF 3)))))
noncomputable def PG.B_value (a0 a1 : PyData) : FR := outFR (PG.S_value [.d a0, .d a1, .un, .un, .un, .un, .un])
noncomputable def PG.m_value : Fn := fn2 PG.B_value
noncomputable def PG.S_holds : Rho → Out := (seqS (asgS (varF 0) (tupT 3 (consTs (nameT 2) (consTs (nameT 3) (consTs (nameT 4) nilTs))))) (seqS (asgS (callF PG.m_compare (consA (callF PG.m_value (consA (tupF (consA (varF 2) (consA (cF (.tuple [.int 0, .int 1])) nilA))) (consA (varF 1) nilA))) (consA (varF 4) nilA))) (nameT 5)) (seqS (ifS (testF (binF dEq (varF 3) (cF (.str "=")))) (retS (binF dEq (varF 5) (cF (.int 0)))) nxS) (seqS (ifS (testF (binF dEq (varF 3) (cF (.str "<")))) (retS (binF dLt (varF 5) (cF (.int 0)))) nxS) (retS (binF dLe (varF 5) (cF (.int 0))))))))
noncomputable def PG.B_holds (a0 a1 : PyData) : FR := outFR (PG.S_holds [.d a0, .d a1, .un, .un, .un, .un])
noncomputable def PG.m_holds : Fn := fn2 PG.B_holds
noncomputable def LH.S_add : Rho → Out := (retS (callF lm_f (consA (binF dAdd (binF dMul (binF dIx (varF 0) (cF (.int 0))) (binF dIx (varF 1) (cF (.int 1)))) (binF dMul (binF dIx (varF 1) (cF (.int 0))) (binF dIx (varF 0) (cF (.int 1))))) (consA (binF dMul (binF dIx (varF 0) (cF (.int 1))) (binF dIx (varF 1) (cF (.int 1)))) nilA))))
noncomputable def LH.B_add (a0 a1 : PyData) : FR := outFR (LH.S_add [.d a0, .d a1])
noncomputable def LH.m_add : Fn := fn2 LH.B_add
noncomputable def LH.S_sub : Rho → Out := (retS (callF lm_f (consA (binF dSub (binF dMul (binF dIx (varF 0) (cF (.int 0))) (binF dIx (varF 1) (cF (.int 1)))) (binF dMul (binF dIx (varF 1) (cF (.int 0))) (binF dIx (varF 0) (cF (.int 1))))) (consA (binF dMul (binF dIx (varF 0) (cF (.int 1))) (binF dIx (varF 1) (cF (.int 1)))) nilA))))
noncomputable def LH.B_sub (a0 a1 : PyData) : FR := outFR (LH.S_sub [.d a0, .d a1])
noncomputable def LH.m_sub : Fn := fn2 LH.B_sub
noncomputable def LH.S_mul : Rho → Out := (retS (callF lm_f (consA (binF dMul (binF dIx (varF 0) (cF (.int 0))) (binF dIx (varF 1) (cF (.int 0)))) (consA (binF dMul (binF dIx (varF 0) (cF (.int 1))) (binF dIx (varF 1) (cF (.int 1)))) nilA))))
noncomputable def LH.B_mul (a0 a1 : PyData) : FR := outFR (LH.S_mul [.d a0, .d a1])
noncomputable def LH.m_mul : Fn := fn2 LH.B_mul
noncomputable def LH.S_div : Rho → Out := (retS (callF lm_f (consA (binF dMul (binF dIx (varF 0) (cF (.int 0))) (binF dIx (varF 1) (cF (.int 1)))) (consA (binF dMul (binF dIx (varF 0) (cF (.int 1))) (binF dIx (varF 1) (cF (.int 0)))) nilA))))
noncomputable def LH.B_div (a0 a1 : PyData) : FR := outFR (LH.S_div [.d a0, .d a1])
noncomputable def LH.m_div : Fn := fn2 LH.B_div
noncomputable def LH.S_less : Rho → Out := (retS (binF dLt (binF dMul (binF dIx (varF 0) (cF (.int 0))) (binF dIx (varF 1) (cF (.int 1)))) (binF dMul (binF dIx (varF 1) (cF (.int 0))) (binF dIx (varF 0) (cF (.int 1))))))
noncomputable def LH.B_less (a0 a1 : PyData) : FR := outFR (LH.S_less [.d a0, .d a1])
noncomputable def LH.m_less : Fn := fn2 LH.B_less
noncomputable def LH.S_scaled : Rho → Out := (retS (tupF (consA (appF (app1 bTuple) (consA (lcF [2, 3] (itemsQ (binF dIx (varF 0) (cF (.int 0)))) (tupT 2 (consTs (nameT 2) (consTs (nameT 3) nilTs))) yesT (tupF (consA (varF 2) (consA (callF LH.m_mul (consA (varF 3) (consA (varF 1) nilA))) nilA)))) nilA)) (consA (binF dIx (varF 0) (cF (.int 1))) (consA (callF LH.m_mul (consA (binF dIx (varF 0) (cF (.int 2))) (consA (varF 1) nilA))) nilA)))))
noncomputable def LH.B_scaled (a0 a1 : PyData) : FR := outFR (LH.S_scaled [.d a0, .d a1, .un, .un])
noncomputable def LH.m_scaled : Fn := fn2 LH.B_scaled
noncomputable def LH.L_factor_1 : Rho → Out := (asgS (binF dMul (varF 5) (binF dIx (varF 7) (cF (.int 1)))) (nameT 5))
noncomputable def LH.L_factor_2 : Rho → Out := (parS (consA (varF 10) (consA (binF dMod (varF 9) (varF 10)) nilA)) 9 10)
noncomputable def LH.L_factor_3 : Rho → Out := (seqS (asgS (binF dMul (appF (app2 bMax) (consA (binF dIx (varF 7) (cF (.int 0))) (consA (unF dNeg (binF dIx (varF 7) (cF (.int 0)))) nilA))) (binF dDiv (varF 5) (binF dIx (varF 7) (cF (.int 1))))) (nameT 9)) (seqS (asgS (varF 8) (nameT 10)) (seqS (whileS (testF (binF dNe (varF 10) (cF (.int 0)))) LH.L_factor_2) (asgS (varF 9) (nameT 8)))))
noncomputable def LH.S_factor : Rho → Out := (seqS (asgS (varF 0) (tupT 3 (consTs (nameT 1) (consTs (nameT 2) (consTs (nameT 3) nilTs))))) (seqS (ifS (testF (binF dEq (appF (app1 bLen) (consA (varF 1) nilA)) (cF (.int 0)))) (seqS (ifS (testF (binF dEq (binF dIx (varF 3) (cF (.int 0))) (cF (.int 0)))) (retS (tupF (consA (cF (.int 1)) (consA (cF (.int 1)) nilA)))) nxS) (seqS (asgS (callF LH.m_div (consA (tupF (consA (cF (.int 1)) (consA (cF (.int 1)) nilA))) (consA (callF lm_f (consA (appF (app2 bMax) (consA (binF dIx (varF 3) (cF (.int 0))) (consA (unF dNeg (binF dIx (varF 3) (cF (.int 0)))) nilA))) (consA (binF dIx (varF 3) (cF (.int 1))) nilA))) nilA))) (nameT 4)) (seqS (ifS (andT (testF (binF dEq (varF 2) (cF (.str "=")))) (testF (binF dLt (binF dIx (varF 3) (cF (.int 0))) (cF (.int 0))))) (asgS (callF LH.m_mul (consA (varF 4) (consA (tupF (consA (unF dNeg (cF (.int 1))) (consA (cF (.int 1)) nilA))) nilA))) (nameT 4)) nxS) (retS (varF 4))))) nxS) (seqS (asgS (cF (.int 1)) (nameT 5)) (seqS (forS (itemsQ (varF 1)) (tupT 2 (consTs (nameT 6) (consTs (nameT 7) nilTs))) LH.L_factor_1) (seqS (asgS (cF (.int 0)) (nameT 8)) (seqS (forS (itemsQ (varF 1)) (tupT 2 (consTs (nameT 6) (consTs (nameT 7) nilTs))) LH.L_factor_3) (seqS (asgS (callF lm_f (consA (varF 5) (consA (varF 8) nilA))) (nameT 4)) (seqS (ifS (andT (testF (binF dEq (varF 2) (cF (.str "=")))) (testF (binF dLt (binF dIx (binF dIx (binF dIx (varF 1) (cF (.int 0))) (cF (.int 1))) (cF (.int 0))) (cF (.int 0))))) (asgS (callF LH.m_mul (consA (varF 4) (consA (tupF (consA (unF dNeg (cF (.int 1))) (consA (cF (.int 1)) nilA))) nilA))) (nameT 4)) nxS) (retS (varF 4))))))))))
noncomputable def LH.B_factor (a0 : PyData) : FR := outFR (LH.S_factor [.d a0, .un, .un, .un, .un, .un, .un, .un, .un, .un, .un])
noncomputable def LH.m_factor : Fn := fn1 LH.B_factor
noncomputable def LH.S_normal : Rho → Out := (retS (callF LH.m_scaled (consA (varF 0) (consA (callF LH.m_factor (consA (varF 0) nilA)) nilA))))
noncomputable def LH.B_normal (a0 : PyData) : FR := outFR (LH.S_normal [.d a0])
noncomputable def LH.m_normal : Fn := fn1 LH.B_normal
noncomputable def LH.L_parts_1 : Rho → Out := (putS 1 (varF 2) (callF LH.m_add (consA (dgetF 1 (varF 2) (tupF (consA (cF (.int 0)) (consA (cF (.int 1)) nilA)))) (consA (varF 3) nilA))))
noncomputable def LH.S_parts : Rho → Out := (seqS (newDS 1) (seqS (forS (itemsQ (varF 0)) (tupT 2 (consTs (nameT 2) (consTs (nameT 3) nilTs))) LH.L_parts_1) (retS (appF (app1 bTuple) (consA (lcF [2] (itemsQ (dsortF 1)) (nameT 2) (testF (binF dNe (binF dIx (dixF 1 (varF 2)) (cF (.int 0))) (cF (.int 0)))) (tupF (consA (varF 2) (consA (dixF 1 (varF 2)) nilA)))) nilA)))))
noncomputable def LH.B_parts (a0 : PyData) : FR := outFR (LH.S_parts [.d a0, .un, .un, .un])
noncomputable def LH.m_parts : Fn := fn1 LH.B_parts
noncomputable def LH.S_row : Rho → Out := (seqS (ifS (orT (testF (binF dEq (varF 1) (cF (.str ">=")))) (testF (binF dEq (varF 1) (cF (.str ">"))))) (seqS (lcS 0 [3, 4] (itemsQ (varF 0)) (tupT 2 (consTs (nameT 3) (consTs (nameT 4) nilTs))) yesT (tupF (consA (varF 3) (consA (callF LH.m_sub (consA (tupF (consA (cF (.int 0)) (consA (cF (.int 1)) nilA))) (consA (varF 4) nilA))) nilA)))) (seqS (asgS (callF LH.m_sub (consA (tupF (consA (cF (.int 0)) (consA (cF (.int 1)) nilA))) (consA (varF 2) nilA))) (nameT 2)) (asgS (dispF [(">=", "<="), (">", "<")] 1) (nameT 1)))) nxS) (retS (callF LH.m_normal (consA (tupF (consA (callF LH.m_parts (consA (varF 0) nilA)) (consA (varF 1) (consA (varF 2) nilA)))) nilA))))
noncomputable def LH.B_row (a0 a1 a2 : PyData) : FR := outFR (LH.S_row [.d a0, .d a1, .d a2, .un, .un])
noncomputable def LH.m_row : Fn := fn3 LH.B_row
noncomputable def LH.L_at_1 : Rho → Out := (asgS (callF LH.m_add (consA (varF 3) (consA (callF LH.m_mul (consA (varF 5) (consA (dgetF 2 (varF 4) (tupF (consA (cF (.int 0)) (consA (cF (.int 1)) nilA)))) nilA))) nilA))) (nameT 3))
noncomputable def LH.S_at : Rho → Out := (seqS (dictS (varF 1) 2) (seqS (asgS (tupF (consA (cF (.int 0)) (consA (cF (.int 1)) nilA))) (nameT 3)) (seqS (forS (itemsQ (varF 0)) (tupT 2 (consTs (nameT 4) (consTs (nameT 5) nilTs))) LH.L_at_1) (retS (varF 3)))))
noncomputable def LH.B_at (a0 a1 : PyData) : FR := outFR (LH.S_at [.d a0, .d a1, .un, .un, .un, .un])
noncomputable def LH.m_at : Fn := fn2 LH.B_at
noncomputable def LH.S_true : Rho → Out := (seqS (asgS (callF LH.m_at (consA (binF dIx (varF 0) (cF (.int 0))) (consA (varF 1) nilA))) (nameT 2)) (seqS (ifS (testF (binF dEq (binF dIx (varF 0) (cF (.int 1))) (cF (.str "=")))) (retS (binF dEq (varF 2) (binF dIx (varF 0) (cF (.int 2))))) nxS) (seqS (ifS (testF (binF dEq (binF dIx (varF 0) (cF (.int 1))) (cF (.str "<")))) (retS (callF LH.m_less (consA (varF 2) (consA (binF dIx (varF 0) (cF (.int 2))) nilA)))) nxS) (retS (notV (callF LH.m_less (consA (binF dIx (varF 0) (cF (.int 2))) (consA (varF 2) nilA))))))))
noncomputable def LH.B_true (a0 a1 : PyData) : FR := outFR (LH.S_true [.d a0, .d a1, .un])
noncomputable def LH.m_true : Fn := fn2 LH.B_true
noncomputable def LH.L_pairs_1 : Rho → Out := (ifS (testF (binF dNe (binF dIx (varF 0) (varF 2)) (cF (.int 3)))) (appendS 1 (tupF (consA (binF dIx (lstF (consA (cF (.str "x")) (consA (cF (.str "b1")) (consA (cF (.str "total")) nilA)))) (varF 2)) (consA (callF lm_f (consA (binF dSub (binF dIx (varF 0) (varF 2)) (cF (.int 3))) (consA (binF dAdd (cF (.int 1)) (binF dDiv (binF dIx (varF 0) (cF (.int 3))) (cF (.int 5)))) nilA))) nilA)))) nxS)
noncomputable def LH.S_pairs : Rho → Out := (seqS (ownS nilA 1) (seqS (forS (range1F (consA (cF (.int 3)) nilA)) (nameT 2) LH.L_pairs_1) (retS (varF 1))))
noncomputable def LH.B_pairs (a0 : PyData) : FR := outFR (LH.S_pairs [.d a0, .un, .un])
noncomputable def LH.m_pairs : Fn := fn1 LH.B_pairs
noncomputable def LH.S_anyrow : Rho → Out := (seqS (asgS (binF dIx (lstF (consA (cF (.str "<=")) (consA (cF (.str "<=")) (consA (cF (.str "<")) (consA (cF (.str "=")) (consA (cF (.str ">=")) (consA (cF (.str ">")) nilA))))))) (binF dIx (varF 0) (cF (.int 4)))) (nameT 1)) (retS (callF LH.m_row (consA (callF LH.m_pairs (consA (cutF (varF 0) noP (someP (cF (.int 4)))) nilA)) (consA (varF 1) (consA (callF lm_f (consA (binF dSub (binF dIx (varF 0) (cF (.int 5))) (cF (.int 5))) (consA (binF dAdd (cF (.int 1)) (binF dIx (varF 0) (cF (.int 6)))) nilA))) nilA))))))
noncomputable def LH.B_anyrow (a0 : PyData) : FR := outFR (LH.S_anyrow [.d a0, .un])
noncomputable def LH.m_anyrow : Fn := fn1 LH.B_anyrow
noncomputable def LH.L_system_1 : Rho → Out := (seqS (newS (cutL (varF 3) (someP (binF dAdd (cF (.int 2)) (binF dMul (cF (.int 7)) (varF 5)))) (someP (binF dAdd (cF (.int 9)) (binF dMul (cF (.int 7)) (varF 5))))) 6) (seqS (ifS (testF (binF dGt (binF dIx (varF 3) (cF (.int 1))) (cF (.int 0)))) (ownS (consA (binF dAdd (binF dDiv (binF dIx (varF 6) (cF (.int 0))) (cF (.int 2))) (cF (.int 2))) (consA (binF dIx (varF 6) (cF (.int 1))) (consA (binF dIx (varF 6) (cF (.int 2))) (consA (binF dMul (binF dIx (varF 6) (cF (.int 3))) (binF dMod (binF dIx (varF 6) (cF (.int 3))) (cF (.int 2)))) (consA (binF dIx (varF 6) (cF (.int 4))) (consA (binF dIx (varF 6) (cF (.int 5))) (consA (binF dIx (varF 6) (cF (.int 6))) nilA))))))) 6) nxS) (seqS (ifS (testF (binF dEq (binF dIx (varF 3) (cF (.int 1))) (cF (.int 3)))) (lsetS 6 (cF (.int 2)) (cF (.int 3))) nxS) (appendS 4 (callF LH.m_anyrow (consA (varF 6) nilA))))))
noncomputable def LH.S_system : Rho → Out := (seqS (asgS (callF lm_draw (consA (varF 0) (consA (varF 1) (consA (binF dAdd (lstF (consA (varF 2) (consA (cF (.int 4)) nilA))) (repF (consA (cF (.int 7)) (consA (cF (.int 7)) (consA (cF (.int 7)) (consA (cF (.int 7)) (consA (cF (.int 6)) (consA (cF (.int 11)) (consA (cF (.int 2)) nilA))))))) (cF (.int 6)))) nilA)))) (nameT 3)) (seqS (ownS nilA 4) (seqS (forS (range1F (consA (binF dAdd (cF (.int 1)) (binF dIx (varF 3) (cF (.int 0)))) nilA)) (nameT 5) LH.L_system_1) (retS (varF 4)))))
noncomputable def LH.B_system (a0 a1 a2 : PyData) : FR := outFR (LH.S_system [.d a0, .d a1, .d a2, .un, .un, .un, .un])
end DL
namespace DL
open PySem PySem.Spec PyProof.Rows L2 RT
abbrev Qn := Int × Int
structure Sz (n : Nat) (q : Qn) : Prop where
  pos : 0 < q.2
  b1 : Bt n q.1
  b2 : Bt n q.2
theorem Sz.mono {n m : Nat} {q : Qn} (h : Sz n q) (k : n ≤ m) : Sz m q := ⟨h.pos, h.b1.mono k, h.b2.mono k⟩
theorem Sz.ne {n : Nat} {q : Qn} (h : Sz n q) : q.2 ≠ 0 := by have := h.pos; omega
theorem Sz.nrm {n : Nat} {t b : Int} (hb : b ≠ 0) (h1 : Bt n t) (h2 : Bt n b) : Sz n (nrm t b) := ⟨nrm_pos hb, nrm_bt1 hb h1, nrm_bt2 hb h2⟩
def qadd (p q : Qn) : Qn := nrm (p.1 * q.2 + q.1 * p.2) (p.2 * q.2)
def qsub (p q : Qn) : Qn := nrm (p.1 * q.2 - q.1 * p.2) (p.2 * q.2)
def qmul (p q : Qn) : Qn := nrm (p.1 * q.1) (p.2 * q.2)
def qdiv (p q : Qn) : Qn := nrm (p.1 * q.2) (p.2 * q.1)
section
variable {n m : Nat} {p q : Qn}
theorem Sz.add (hp : Sz n p) (hq : Sz m q) : Sz (n + m + 1) (qadd p q) :=
  .nrm (Int.mul_ne_zero hp.ne hq.ne) ((hp.b1.mul hq.b2).add ((hq.b1.mul hp.b2).mono (by omega))) ((hp.b2.mul hq.b2).mono (by omega))
theorem Sz.sub (hp : Sz n p) (hq : Sz m q) : Sz (n + m + 1) (qsub p q) :=
  .nrm (Int.mul_ne_zero hp.ne hq.ne) ((hp.b1.mul hq.b2).sub ((hq.b1.mul hp.b2).mono (by omega))) ((hp.b2.mul hq.b2).mono (by omega))
theorem Sz.mul (hp : Sz n p) (hq : Sz m q) : Sz (n + m) (qmul p q) :=
  .nrm (Int.mul_ne_zero hp.ne hq.ne) (hp.b1.mul hq.b1) (hp.b2.mul hq.b2)
theorem Sz.div (hp : Sz n p) (hq : Sz m q) (h0 : q.1 ≠ 0) : Sz (n + m) (qdiv p q) :=
  .nrm (Int.mul_ne_zero hp.ne h0) (hp.b1.mul hq.b2) (hp.b2.mul hq.b1)
theorem sz01 : Sz 1 (0, 1) := ⟨by decide, by unfold Bt; decide, by unfold Bt; decide⟩
theorem sz11 : Sz 1 (1, 1) := ⟨by decide, by unfold Bt; decide, by unfold Bt; decide⟩
theorem szm1 : Sz 1 (-1, 1) := ⟨by decide, by unfold Bt; decide, by unfold Bt; decide⟩
end
section
variable {p q : Qn} (hp : Sz 4000 p) (hq : Sz 4000 q)
include hp hq
theorem lh_add : LH.B_add (N p) (N q) = .ok (N (qadd p q)) := by
  have e : lm_f [.int (p.1 * q.2 + q.1 * p.2), .int (p.2 * q.2)] = .ok (N (qadd p q)) := lawf_ok (Int.mul_ne_zero hp.ne hq.ne) (n := 9000) (by decide) (by decide) ((hp.b2.mul hq.b2).mono (by decide))
  simp [LH.B_add, LH.S_add, dMul_ok, hp.b1.sm, hp.b2.sm, hq.b1.sm, hq.b2.sm, e]
theorem lh_sub : LH.B_sub (N p) (N q) = .ok (N (qsub p q)) := by
  have e : lm_f [.int (p.1 * q.2 - q.1 * p.2), .int (p.2 * q.2)] = .ok (N (qsub p q)) := lawf_ok (Int.mul_ne_zero hp.ne hq.ne) (n := 9000) (by decide) (by decide) ((hp.b2.mul hq.b2).mono (by decide))
  simp [LH.B_sub, LH.S_sub, dMul_ok, hp.b1.sm, hp.b2.sm, hq.b1.sm, hq.b2.sm, e]
theorem lh_mul : LH.B_mul (N p) (N q) = .ok (N (qmul p q)) := by
  have e : lm_f [.int (p.1 * q.1), .int (p.2 * q.2)] = .ok (N (qmul p q)) := lawf_ok (Int.mul_ne_zero hp.ne hq.ne) (n := 9000) (by decide) (by decide) ((hp.b2.mul hq.b2).mono (by decide))
  simp [LH.B_mul, LH.S_mul, dMul_ok, hp.b1.sm, hp.b2.sm, hq.b1.sm, hq.b2.sm, e]
theorem lh_div (h0 : q.1 ≠ 0) : LH.B_div (N p) (N q) = .ok (N (qdiv p q)) := by
  have e : lm_f [.int (p.1 * q.2), .int (p.2 * q.1)] = .ok (N (qdiv p q)) := lawf_ok (Int.mul_ne_zero hp.ne h0) (n := 9000) (by decide) (by decide) ((hp.b2.mul hq.b1).mono (by decide))
  simp [LH.B_div, LH.S_div, dMul_ok, hp.b1.sm, hp.b2.sm, hq.b1.sm, hq.b2.sm, e]
end
theorem pg_number {t b : Int} (hb : b ≠ 0) (h : Bt 9000 b) : PG.B_number (.int t) (.int b) = .ok (N (nrm t b)) := by
  have g0 := gcd_pos (t := t) hb
  have h1 : Sd (Nat.gcd t.natAbs b.natAbs : Int) := (gcd_bt hb h).sd (by omega) (by decide) (by decide)
  have h2 : Sd (-(Nat.gcd t.natAbs b.natAbs : Int)) := (gcd_bt hb h).neg.sd (by omega) (by decide) (by decide)
  by_cases h3 : b < 0
  · simp [PG.B_number, PG.S_number, hb, dDiv_ok, h1, h2, h3, N, nrm, fdiv_exact_neg g0 gcd_dvd_t, fdiv_exact_neg g0 gcd_dvd_b]
  · simp [PG.B_number, PG.S_number, hb, dDiv_ok, h1, h2, h3, N, nrm, fdiv_exact g0 gcd_dvd_t, fdiv_exact g0 gcd_dvd_b]
section
variable {p q : Qn} (hp : Sz 4000 p) (hq : Sz 4000 q)
include hp hq
theorem pg_plus : PG.B_plus (N p) (N q) = .ok (N (qadd p q)) := by
  have e : PG.m_number [.int (p.1 * q.2 + q.1 * p.2), .int (p.2 * q.2)] = .ok (N (qadd p q)) := pg_number (Int.mul_ne_zero hp.ne hq.ne) ((hp.b2.mul hq.b2).mono (by decide))
  simp [PG.B_plus, PG.S_plus, dMul_ok, hp.b1.sm, hp.b2.sm, hq.b1.sm, hq.b2.sm, e]
theorem pg_minus : PG.B_minus (N p) (N q) = .ok (N (qsub p q)) := by
  have e : PG.m_number [.int (p.1 * q.2 - q.1 * p.2), .int (p.2 * q.2)] = .ok (N (qsub p q)) := pg_number (Int.mul_ne_zero hp.ne hq.ne) ((hp.b2.mul hq.b2).mono (by decide))
  simp [PG.B_minus, PG.S_minus, dMul_ok, hp.b1.sm, hp.b2.sm, hq.b1.sm, hq.b2.sm, e]
theorem pg_times : PG.B_times (N p) (N q) = .ok (N (qmul p q)) := by
  have e : PG.m_number [.int (p.1 * q.1), .int (p.2 * q.2)] = .ok (N (qmul p q)) := pg_number (Int.mul_ne_zero hp.ne hq.ne) ((hp.b2.mul hq.b2).mono (by decide))
  simp [PG.B_times, PG.S_times, dMul_ok, hp.b1.sm, hp.b2.sm, hq.b1.sm, hq.b2.sm, e]
def qcmp (p q : Qn) : Int := if p.1 * q.2 < q.1 * p.2 then -1 else if q.1 * p.2 < p.1 * q.2 then 1 else 0
theorem pg_compare : PG.B_compare (N p) (N q) = .ok (.int (qcmp p q)) := by
  unfold qcmp
  by_cases h1 : p.1 * q.2 < q.1 * p.2
  · simp [PG.B_compare, PG.S_compare, dMul_ok, hp.b1.sm, hp.b2.sm, hq.b1.sm, hq.b2.sm, h1]
  · by_cases h2 : q.1 * p.2 < p.1 * q.2
    · simp [PG.B_compare, PG.S_compare, dMul_ok, hp.b1.sm, hp.b2.sm, hq.b1.sm, hq.b2.sm, h1, h2]
    · simp [PG.B_compare, PG.S_compare, dMul_ok, hp.b1.sm, hp.b2.sm, hq.b1.sm, hq.b2.sm, h1, h2]
end
section
variable {α : Type} {T : Tg} {S1 : Rho → Out} {Tt : Rho → Res Bool} {F : Rho → Res PyData} {ρ : Rho}
def valR {β : Type} : Res β → Option β
  | .ok a _ => some a
  | _ => none
@[simp] theorem valR_ok {β : Type} {a : β} {ρ : Rho} : valR (Res.ok a ρ) = some a := id rfl
def stepC (T : Tg) (Tt : Rho → Res Bool) (F : Rho → Res PyData) (ρ : Rho) (d : PyData) : Option (Option PyData) := (T d ρ).bind fun ρ2 => match Tt ρ2 with
  | .ok false _ => some none
  | .ok true ρ3 => (valR (F ρ3)).map some
  | _ => none
theorem compL_filter (p : α → Bool) (g f : α → PyData) : ∀ (xs : List α) (acc : List PyData), (∀ x ∈ xs, stepC T Tt F ρ (g x) = some (if p x = true then some (f x) else none)) → acc.length + xs.length ≤ 16777216 →
    compL T Tt F ρ (xs.map g) acc = some (acc ++ (xs.filter p).map f)
  | [], acc, _, _ => by simp [compL]
  | x :: xs, acc, h, hl => by
    have h1 := h x List.mem_cons_self
    have hl' : acc.length + (xs.length + 1) ≤ 16777216 := hl
    have z := compL_filter p g f xs
    unfold stepC at h1
    rw [List.map_cons]
    unfold compL
    cases e1 : T (g x) ρ with
    | none => rw [e1] at h1; cases h1
    | some ρ2 =>
      rw [e1, Option.bind_some] at h1
      dsimp only
      cases e2 : Tt ρ2 with
      | bad => rw [e2] at h1; cases h1
      | ex _ _ => rw [e2] at h1; cases h1
      | ok b ρ3 =>
        rw [e2] at h1
        cases b with
        | false =>
          dsimp only at h1 ⊢
          cases e : p x with
          | true => rw [e] at h1; cases h1
          | false =>
            rw [z acc (fun y hy => h y (List.mem_cons_of_mem _ hy)) (by omega)]
            simp [e]
        | true =>
          dsimp only at h1 ⊢
          cases e3 : F ρ3 with
          | bad => rw [e3] at h1; cases h1
          | ex _ _ => rw [e3] at h1; cases h1
          | ok y ρ4 =>
            rw [e3] at h1
            simp only [valR, Option.map_some] at h1
            cases e : p x with
            | false => rw [e] at h1; cases h1
            | true =>
              rw [e, if_pos rfl] at h1
              cases h1
              have hs : acc.length < sizeLine := by rw [sizeLine_eq]; omega
              dsimp only
              rw [if_pos hs, z (acc ++ [f x]) (fun y hy => h y (List.mem_cons_of_mem _ hy)) (by simp; omega)]
              simp [e]
theorem compL_map (g f : α → PyData) (xs : List α) (h : ∀ x ∈ xs, ((T (g x) ρ).bind fun ρ2 => valR (F ρ2)) = some (f x)) (hl : xs.length ≤ 16777216) : compL T yesT F ρ (xs.map g) [] = some (xs.map f) := by
  have z := compL_filter (T := T) (Tt := yesT) (F := F) (ρ := ρ) (fun _ => true) g f xs [] (fun x hx => by
    have h1 := h x hx
    unfold stepC yesT
    cases e1 : T (g x) ρ with
    | none => rw [e1] at h1; cases h1
    | some ρ2 =>
      rw [e1, Option.bind_some] at h1
      rw [Option.bind_some]
      dsimp only
      rw [h1]
      rfl) (by simpa using hl)
  rw [z, List.filter_eq_self.mpr (fun _ _ => rfl)]
  rfl
end
abbrev Pt := Str × Qn
abbrev pD (p : Pt) : PyData := .tuple [.str p.1, .tuple [.int p.2.1, .int p.2.2]]
abbrev psD (ps : List Pt) : PyData := .tuple (ps.map pD)
abbrev Rw := List Pt × Str × Qn
abbrev rD (r : Rw) : PyData := .tuple [psD r.1, .str r.2.1, .tuple [.int r.2.2.1, .int r.2.2.2]]
def scaleM (r : Rw) (f : Qn) : Rw := (r.1.map fun p => (p.1, qmul p.2 f), r.2.1, qmul r.2.2 f)
structure SzR (n : Nat) (r : Rw) : Prop where
  ps : ∀ p ∈ r.1, Sz n p.2
  bd : Sz n r.2.2
theorem SzR.mono {n m : Nat} {r : Rw} (h : SzR n r) (k : n ≤ m) : SzR m r := ⟨fun p hp => (h.ps p hp).mono k, h.bd.mono k⟩
@[simp] theorem lcF_apc {vs : List Nat} {Fi : Rho → Res (List PyData)} {T : Tg} {Tt : Rho → Res Bool} {F : Rho → Res PyData} {e0 : Ent} {ρ : Rho} : lcF vs Fi T Tt F (e0 :: ρ) = (Fi (e0 :: ρ)).bind fun ds ρ1 =>
  if (∀ v ∈ vs, v < ρ1.length) then (match compL T Tt F (wipeR (blkR ρ1) vs) ds [] with
    | some r => .ok (.list r) (frz ρ1)
    | none => .bad) else .bad := id rfl
section
variable {xs : List PyData} {x : PyData} {e : Ent} {ρ : Rho} {v : Nat} {vs : List Nat} {kvs : List (Key × PyData)}
@[simp] theorem frzE_d : frzE (.d x) = .d x := id rfl
@[simp] theorem frzE_un : frzE .un = .un := id rfl
@[simp] theorem frzE_own : frzE (.own xs) = .d (.list xs) := id rfl
@[simp] theorem frzE_dct : frzE (.dct kvs) = .dct kvs := id rfl
@[simp] theorem roE_d : roE (.d x) = .d x := id rfl
@[simp] theorem roE_un : roE .un = .un := id rfl
@[simp] theorem roE_dct : roE (.dct kvs) = .rdd kvs := id rfl
@[simp] theorem frz_nil : frz [] = [] := id rfl
@[simp] theorem frz_cons : frz (e :: ρ) = frzE e :: frz ρ := id rfl
@[simp] theorem blkR_nil : blkR [] = [] := id rfl
@[simp] theorem blkR_cons : blkR (e :: ρ) = roE (frzE e) :: blkR ρ := id rfl
@[simp] theorem wipeR_nil : wipeR ρ [] = ρ := id rfl
@[simp] theorem wipeR_cons : wipeR ρ (v :: vs) = (wipeR ρ vs).set v .un := id rfl
end
theorem str_shaped {a : Str} (h : PySem.PyData.strOk a = true) : SeqAt.shaped (.str a) = true := by
  simp [SeqAt.shaped, PyData.canLay0, h, PyData.depth]
theorem dEq_s {a b : Str} (ha : PySem.PyData.strOk a = true) (hb : PySem.PyData.strOk b = true) : dEq (.str a) (.str b) = some (.bool (a == b)) := by
  simp [dEq, str_shaped, ha, hb, PyData.eqv]
theorem dNe_s {a b : Str} (ha : PySem.PyData.strOk a = true) (hb : PySem.PyData.strOk b = true) : dNe (.str a) (.str b) = some (.bool (!(a == b))) := by
  simp [dNe, str_shaped, ha, hb, PyData.eqv]
def Sgn (s : Str) : Prop := s = "<=" ∨ s = "<" ∨ s = "="
theorem ok_eq : PySem.PyData.strOk "=" = true := by decide +kernel
theorem ok_lt : PySem.PyData.strOk "<" = true := by decide +kernel
theorem ok_le : PySem.PyData.strOk "<=" = true := by decide +kernel
theorem ok_gt : PySem.PyData.strOk ">" = true := by decide +kernel
theorem ok_ge : PySem.PyData.strOk ">=" = true := by decide +kernel
theorem Sgn.ok {s : Str} (h : Sgn s) : PySem.PyData.strOk s = true := by rcases h with rfl | rfl | rfl <;> first | exact ok_le | exact ok_lt | exact ok_eq
theorem lh_scaled {r : Rw} {f : Qn} (h : SzR 4000 r) (hf : Sz 4000 f) (hl : r.1.length ≤ 1000) : LH.B_scaled (rD r) (N f) = .ok (rD (scaleM r f)) := by
  have c : compL (tupT 2 (consTs (nameT 2) (consTs (nameT 3) nilTs))) yesT (tupF (consA (varF 2) (consA (callF LH.m_mul (consA (varF 3) (consA (varF 1) nilA))) nilA))) [.d (rD r), .d (N f), .un, .un] (r.1.map pD) [] = some ((scaleM r f).1.map pD) := by
    rw [compL_map pD (fun p => pD (p.1, qmul p.2 f)) r.1 (fun p hp => ?_) (by omega)]
    · simp [scaleM]
    · have e : LH.m_mul [.tuple [.int p.2.1, .int p.2.2], .tuple [.int f.1, .int f.2]] = .ok (N (qmul p.2 f)) := lh_mul (h.ps p hp) hf
      simp [e]
  have e : LH.m_mul [.tuple [.int r.2.2.1, .int r.2.2.2], .tuple [.int f.1, .int f.2]] = .ok (N (qmul r.2.2 f)) := lh_mul h.bd hf
  simp [LH.B_scaled, LH.S_scaled, e, c]
  simp [scaleM]
def comM (ps : List Pt) (c : Int) : Int := ps.foldl (fun c p => c * p.2.2) c
def shM (C : Int) (ps : List Pt) (s : Nat) : Nat := ps.foldl (fun s p => Nat.gcd s (p.2.1.natAbs * (C / p.2.2).natAbs)) s
def sgnM (b : Bool) (f : Qn) : Qn := if b = true then qmul f (-1, 1) else f
def factorM (r : Rw) : Qn := match r.1 with
  | [] => if r.2.2.1 = 0 then (1, 1) else sgnM (r.2.1 == "=" && decide (r.2.2.1 < 0)) (qdiv (1, 1) (nrm (r.2.2.1.natAbs : Int) r.2.2.2))
  | p :: ps => sgnM (r.2.1 == "=" && decide (p.2.1 < 0)) (nrm (comM (p :: ps) 1) (shM (comM (p :: ps) 1) (p :: ps) 0))
theorem comM_pos : ∀ (ps : List Pt) {c : Int} {n : Nat}, (∀ p ∈ ps, Sz n p.2) → 0 < c → 0 < comM ps c
  | [], c, _, _, h => h
  | p :: ps, c, n, hp, h => comM_pos ps (c := c * p.2.2) (n := n) (fun q hq => hp q (List.mem_cons_of_mem _ hq)) (Int.mul_pos h (hp p List.mem_cons_self).pos)
theorem comM_bt : ∀ (ps : List Pt) {c : Int} {n k : Nat}, (∀ p ∈ ps, Sz n p.2) → Bt k c → Bt (k + n * ps.length) (comM ps c)
  | [], c, n, k, _, h => by simpa [comM] using h
  | p :: ps, c, n, k, hp, h => by
    have z := comM_bt ps (c := c * p.2.2) (n := n) (k := k + n) (fun q hq => hp q (List.mem_cons_of_mem _ hq)) (h.mul (hp p List.mem_cons_self).b2)
    have e : k + n * (p :: ps).length = k + n + n * ps.length := by rw [List.length_cons, Nat.mul_succ]; omega
    rw [e]
    exact z
section
variable {d0 d1 d2 d3 e4 e8 e9 e10 : Ent}
theorem fac1 : ∀ (ps : List Pt) {c : Int} {n k : Nat} (e6 e7 : Ent), (∀ p ∈ ps, Sz n p.2) → Bt k c → k + n * ps.length ≤ 40000 →
    ∃ e6' e7', loopS (tupT 2 (consTs (nameT 6) (consTs (nameT 7) nilTs))) LH.L_factor_1 (ps.map pD) [d0, d1, d2, d3, e4, .d (.int c), e6, e7, e8, e9, e10] = .nx [d0, d1, d2, d3, e4, .d (.int (comM ps c)), e6', e7', e8, e9, e10]
  | [], c, n, k, e6, e7, _, _, _ => ⟨e6, e7, rfl⟩
  | p :: ps, c, n, k, e6, e7, hp, h, hk => by
    have h1 := hp p List.mem_cons_self
    have hk' : k + n * (ps.length + 1) ≤ 40000 := hk
    rw [Nat.mul_succ] at hk'
    obtain ⟨e6', e7', z⟩ := fac1 ps (c := c * p.2.2) (n := n) (k := k + n) (.d (.str p.1)) (.d (N p.2)) (fun q hq => hp q (List.mem_cons_of_mem _ hq)) (h.mul h1.b2) (by omega)
    refine ⟨e6', e7', ?_⟩
    rw [List.map_cons, loopS_cons (ρ1 := [d0, d1, d2, d3, e4, .d (.int c), .d (.str p.1), .d (N p.2), e8, e9, e10]) (by simp)]
    simp [LH.L_factor_1, dMul_ok, h.sm (by omega), h1.b2.sm (by omega)]
    exact z
end
theorem euclid9 (e0 e1 e2 e3 e4 e5 e6 e7 e8 : Ent) : ∀ (n : Nat) (m : Nat), whileS (testF (binF dNe (varF 10) (cF (.int 0)))) LH.L_factor_2 [e0, e1, e2, e3, e4, e5, e6, e7, e8, .d (.int (m : Int)), .d (.int (n : Int))] =
    .nx [e0, e1, e2, e3, e4, e5, e6, e7, e8, .d (.int (Nat.gcd n m : Int)), .d (.int 0)] := by
  intro n
  induction n using Nat.strongRecOn with
  | _ n ih =>
    intro m
    rw [whileS_eq]
    by_cases h : n = 0
    · subst h
      simp
    · have h' : (n : Int) ≠ 0 := by omega
      have e : (m : Int).fmod (n : Int) = ((m % n : Nat) : Int) := by
        rw [Int.fmod_eq_emod_of_nonneg _ (by omega)]
        simp
      simp [LH.L_factor_2, h, dMod_ok, h', e]
      have q := ih (m % n) (Nat.mod_lt _ (by omega)) n
      rw [Nat.gcd_rec n m]
      simpa [LH.L_factor_2] using q
theorem max_abs (t : Int) : (if t < -t then -t else t) = ((t.natAbs : Nat) : Int) := by split <;> omega
section
variable {d0 d1 d2 d3 e4 : Ent}
theorem fac3 {C : Int} (hC : 0 < C) (bC : Bt 4000 C) : ∀ (ps : List Pt) (s : Nat) (e6 e7 e9 e10 : Ent), (∀ p ∈ ps, Sz 4000 p.2) →
    ∃ e6' e7' e9' e10', loopS (tupT 2 (consTs (nameT 6) (consTs (nameT 7) nilTs))) LH.L_factor_3 (ps.map pD) [d0, d1, d2, d3, e4, .d (.int C), e6, e7, .d (.int (s : Int)), e9, e10] = .nx [d0, d1, d2, d3, e4, .d (.int C), e6', e7', .d (.int (shM C ps s : Int)), e9', e10']
  | [], s, e6, e7, e9, e10, _ => ⟨e6, e7, e9, e10, rfl⟩
  | p :: ps, s, e6, e7, e9, e10, hp => by
    have h1 := hp p List.mem_cons_self
    have sd : Sd p.2.2 := h1.b2.sd h1.ne (by decide) (by decide)
    have f1 : C.fdiv p.2.2 = C / p.2.2 := Int.fdiv_eq_ediv_of_nonneg _ (by have := h1.pos; omega)
    have f0 : 0 ≤ C / p.2.2 := Int.ediv_nonneg (by omega) (by have := h1.pos; omega)
    obtain ⟨m, hm⟩ : ∃ m : Nat, m = p.2.1.natAbs * (C / p.2.2).natAbs := ⟨_, rfl⟩
    have e1 : ((p.2.1.natAbs : Nat) : Int) * (C / p.2.2) = (m : Int) := by
      rw [hm, Int.natCast_mul]
      congr 1
      omega
    have sm1 : Sm ((p.2.1.natAbs : Nat) : Int) := (Bt.le (n := 4000) h1.b1 (by simp)).sm (by decide)
    have sm2 : Sm (C / p.2.2) := (Bt.le (n := 4000) bC (by rw [Int.natAbs_ediv_of_nonneg (by omega)]; exact Nat.div_le_self _ _)).sm (by decide)
    obtain ⟨e6', e7', e9', e10', z⟩ := fac3 hC bC ps (Nat.gcd s m) (.d (.str p.1)) (.d (N p.2)) (.d (.int (Nat.gcd s m : Int))) (.d (.int 0)) (fun q hq => hp q (List.mem_cons_of_mem _ hq))
    refine ⟨e6', e7', e9', e10', ?_⟩
    have W := euclid9 d0 d1 d2 d3 e4 (.d (.int C)) (.d (.str p.1)) (.d (N p.2)) (.d (.int (s : Int))) s m
    have e2 : shM C (p :: ps) s = shM C ps (Nat.gcd s m) := by rw [hm]; rfl
    rw [e2]
    rw [List.map_cons, loopS_cons (ρ1 := [d0, d1, d2, d3, e4, .d (.int C), .d (.str p.1), .d (N p.2), .d (.int (s : Int)), e9, e10]) (by simp)]
    simp [LH.L_factor_3, max_abs, dDiv_ok, sd, f1, dMul_ok, sm1, sm2, e1, W]
    exact z
end
theorem shM_pos (C : Int) : ∀ (ps : List Pt) (s : Nat), 0 < s → 0 < shM C ps s
  | [], s, h => h
  | p :: ps, s, h => shM_pos C ps _ (Nat.gcd_pos_of_pos_left _ h)
theorem shM_le (C : Int) : ∀ (ps : List Pt) (s : Nat), 0 < s → shM C ps s ≤ s
  | [], s, h => Nat.le_refl _
  | p :: ps, s, h => Nat.le_trans (shM_le C ps _ (Nat.gcd_pos_of_pos_left _ h)) (Nat.gcd_le_left _ h)
end DL
namespace DL
open PySem PySem.Spec PyProof.Rows L2 RT
theorem Sz.sgn {n : Nat} {f : Qn} (b : Bool) (h : Sz n f) : Sz (n + 1) (sgnM b f) := by
  unfold sgnM
  cases b with
  | true => rw [if_pos rfl]; exact h.mul szm1
  | false => rw [if_neg (by decide)]; exact h.mono (by omega)
theorem bt_nat {n : Nat} {a : Int} (h : Bt n a) : Bt n (a.natAbs : Int) := h.le (by simp)
theorem shM_bt {C : Int} (hC : 0 < C) {k n : Nat} (bC : Bt k C) {p : Pt} {ps : List Pt} (hp : Sz n p.2) (p0 : p.2.1 ≠ 0) (hb : p.2.2 ∣ C) : (0 < shM C (p :: ps) 0) ∧ Bt (n + k) (shM C (p :: ps) 0 : Int) := by
  have e : shM C (p :: ps) 0 = shM C ps (p.2.1.natAbs * (C / p.2.2).natAbs) := by
    show shM C ps (Nat.gcd 0 _) = _
    rw [Nat.gcd_zero_left]
  have f0 : 0 < C / p.2.2 := by
    obtain ⟨y, hy⟩ := hb
    have := hp.pos
    rw [hy, Int.mul_ediv_cancel_left _ (by omega)]
    apply Classical.byContradiction
    intro z
    have : 0 ≤ p.2.2 * (-y) := Int.mul_nonneg (by omega) (by omega)
    rw [Int.mul_neg] at this
    omega
  have m0 : 0 < p.2.1.natAbs * (C / p.2.2).natAbs := Nat.mul_pos (by omega) (by omega)
  rw [e]
  refine ⟨shM_pos C ps _ m0, ?_⟩
  have b1 : Bt (n + k) (p.2.1 * (C / p.2.2)) := hp.b1.mul (Bt.le bC (by rw [Int.natAbs_ediv_of_nonneg (by omega)]; exact Nat.div_le_self _ _))
  refine b1.le ?_
  rw [Int.natAbs_mul, Int.natAbs_natCast]
  exact shM_le C ps _ m0
theorem comM_dvd : ∀ (ps : List Pt) (c : Int), c ∣ comM ps c
  | [], c => Int.dvd_refl c
  | p :: ps, c => Int.dvd_trans (Int.dvd_mul_right c p.2.2) (comM_dvd ps (c * p.2.2))
theorem comM_head (p : Pt) (ps : List Pt) : p.2.2 ∣ comM (p :: ps) 1 := by
  have := comM_dvd ps (1 * p.2.2)
  rw [Int.one_mul] at this
  show p.2.2 ∣ comM ps (1 * p.2.2)
  rw [Int.one_mul]
  exact this
theorem lh_factor {r : Rw} {n : Nat} (h : SzR n r) (hs : PySem.PyData.strOk r.2.1 = true) (nz : ∀ p ∈ r.1, p.2.1 ≠ 0) (hl : r.1.length ≤ 1000) (hn : n * (r.1.length + 1) + 4 ≤ 3900) :
    LH.B_factor (rD r) = .ok (N (factorM r)) ∧ Sz (n * (r.1.length + 1) + 4) (factorM r) := by
  obtain ⟨ps, sg, bd⟩ := r
  simp only at h hs nz hl hn ⊢
  have n1 : n ≤ 3900 := by
    have : n * 1 ≤ n * (ps.length + 1) := Nat.mul_le_mul_left _ (by omega)
    omega
  have hb := h.bd
  simp only at hb
  cases ps with
  | nil =>
    by_cases b0 : bd.1 = 0
    · constructor
      · simp [LH.B_factor, LH.S_factor, b0, factorM]
      · simp only [factorM, if_pos b0]
        exact sz11.mono (by simp)
    · have bt1 : Bt n bd.2 := hb.b2
      have e1 : lm_f [.int (bd.1.natAbs : Int), .int bd.2] = .ok (N (nrm (bd.1.natAbs : Int) bd.2)) := lawf_ok hb.ne (n := 3901) (by omega) (by omega) (bt1.mono (by omega))
      have z1 : Sz n (nrm (bd.1.natAbs : Int) bd.2) := .nrm hb.ne (bt_nat hb.b1) hb.b2
      have z0 : (nrm (bd.1.natAbs : Int) bd.2).1 ≠ 0 := by
        intro z
        have := nrm_cross (t := (bd.1.natAbs : Int)) hb.ne
        rw [z, Int.zero_mul] at this
        have q : (bd.1.natAbs : Int) ≠ 0 := by omega
        have := Int.mul_ne_zero q z1.ne
        omega
      have e2 : LH.m_div [.tuple [.int 1, .int 1], .tuple [.int (nrm (bd.1.natAbs : Int) bd.2).1, .int (nrm (bd.1.natAbs : Int) bd.2).2]] = .ok (N (qdiv (1, 1) (nrm (bd.1.natAbs : Int) bd.2))) := lh_div (sz11.mono (by decide)) (z1.mono (by omega)) z0
      have z2 := sz11.div z1 z0
      have e3 : LH.m_mul [.tuple [.int (qdiv (1, 1) (nrm (bd.1.natAbs : Int) bd.2)).1, .int (qdiv (1, 1) (nrm (bd.1.natAbs : Int) bd.2)).2], .tuple [.int (-1), .int 1]] = .ok (N (qmul (qdiv (1, 1) (nrm (bd.1.natAbs : Int) bd.2)) (-1, 1))) := lh_mul (z2.mono (by omega)) (szm1.mono (by decide))
      constructor
      · simp only [factorM, if_neg b0]
        cases hq : (sg == "=") with
        | false => simp [LH.B_factor, LH.S_factor, b0, max_abs, e1, e2, dEq_s hs ok_eq, hq, sgnM]
        | true =>
          by_cases h0 : bd.1 < 0
          · simp [LH.B_factor, LH.S_factor, b0, max_abs, e1, e2, dEq_s hs ok_eq, hq, sgnM, h0, e3]
          · simp [LH.B_factor, LH.S_factor, b0, max_abs, e1, e2, dEq_s hs ok_eq, hq, sgnM, h0]
      · simp only [factorM, if_neg b0]
        exact (z2.sgn _).mono (by simp; omega)
  | cons p ps =>
    have hp := h.ps
    simp only at hp
    have C0 := comM_pos (p :: ps) (c := 1) hp (by decide)
    have bC := comM_bt (p :: ps) (c := 1) (k := 1) hp (by unfold Bt; decide)
    have e0 : n * ((p :: ps).length + 1) = n * (p :: ps).length + n := Nat.mul_succ _ _
    rw [e0] at hn ⊢
    have hm : n * (p :: ps).length ≤ 3900 := by omega
    obtain ⟨s0, sB⟩ := shM_bt C0 bC (ps := ps) (hp p List.mem_cons_self) (nz p List.mem_cons_self) (comM_head p ps)
    have W1 := fun d0 d1 d2 d3 e4 e8 e9 e10 e6 e7 => fac1 (d0 := d0) (d1 := d1) (d2 := d2) (d3 := d3) (e4 := e4) (e8 := e8) (e9 := e9) (e10 := e10) (p :: ps) (c := 1) (k := 1) e6 e7 hp (by unfold Bt; decide) (by omega)
    generalize hCC : comM (p :: ps) 1 = C at *
    have W2 := fun d0 d1 d2 d3 e4 e6 e7 e9 e10 => fac3 (d0 := d0) (d1 := d1) (d2 := d2) (d3 := d3) (e4 := e4) C0 (bC.mono (by omega)) (p :: ps) 0 e6 e7 e9 e10 (fun q hq => (hp q hq).mono (by omega))
    obtain ⟨a6, a7, W1⟩ := W1 (.d (rD (p :: ps, sg, bd))) (.d (psD (p :: ps))) (.d (.str sg)) (.d (N bd)) .un .un .un .un .un .un
    obtain ⟨a6', a7', a9', a10', W2⟩ := W2 (.d (rD (p :: ps, sg, bd))) (.d (psD (p :: ps))) (.d (.str sg)) (.d (N bd)) .un a6 a7 .un .un
    have Fs : factorM (p :: ps, sg, bd) = sgnM (sg == "=" && decide (p.2.1 < 0)) (nrm C (shM C (p :: ps) 0)) := by
      simp only [factorM]
      rw [hCC]
    rw [Fs]
    generalize shM C (p :: ps) 0 = S at *
    have e1 : lm_f [.int C, .int (S : Int)] = .ok (N (nrm C (S : Int))) := lawf_ok (by omega) (n := 9000) (by omega) (by omega) (sB.mono (by omega))
    have z1 : Sz (n + (1 + n * (p :: ps).length)) (nrm C (S : Int)) := .nrm (by omega) (bC.mono (by omega)) sB
    have e3 : LH.m_mul [.tuple [.int (nrm C (S : Int)).1, .int (nrm C (S : Int)).2], .tuple [.int (-1), .int 1]] = .ok (N (qmul (nrm C (S : Int)) (-1, 1))) := lh_mul (z1.mono (by omega)) (szm1.mono (by decide))
    have hl2 : ¬ ((ps.length : Int) + 1 = 0) := by omega
    have hi : dIx (psD (p :: ps)) (.int 0) = some (pD p) := dIx_t0
    rw [show ((0 : Nat) : Int) = 0 from rfl] at W2
    simp only [List.map_cons] at W1 W2
    constructor
    · cases hq : (sg == "=") with
      | false => simp [LH.B_factor, LH.S_factor, hl2, hi, e1, W1, W2, dEq_s hs ok_eq, hq, sgnM]
      | true =>
        by_cases h0 : p.2.1 < 0
        · simp [LH.B_factor, LH.S_factor, hl2, hi, e1, W1, W2, dEq_s hs ok_eq, hq, sgnM, h0, e3]
        · simp [LH.B_factor, LH.S_factor, hl2, hi, e1, W1, W2, dEq_s hs ok_eq, hq, sgnM, h0]
    · exact (z1.sgn _).mono (by omega)
end DL
namespace DL
open PySem PySem.Spec PyProof.Rows L2 RT
def normM (r : Rw) : Rw := scaleM r (factorM r)
theorem lh_normal {r : Rw} {n : Nat} (h : SzR n r) (hs : PySem.PyData.strOk r.2.1 = true) (nz : ∀ p ∈ r.1, p.2.1 ≠ 0) (hl : r.1.length ≤ 1000) (hn : n * (r.1.length + 1) + 4 ≤ 3900) :
    LH.B_normal (rD r) = .ok (rD (normM r)) := by
  obtain ⟨e, z⟩ := lh_factor h hs nz hl hn
  have n1 : n ≤ 3900 := by
    have : n * 1 ≤ n * (r.1.length + 1) := Nat.mul_le_mul_left _ (by omega)
    omega
  have e1 : LH.m_factor [rD r] = .ok (N (factorM r)) := e
  have e2 : LH.m_scaled [rD r, N (factorM r)] = .ok (rD (normM r)) := lh_scaled (h.mono (by omega)) (z.mono (by omega)) hl
  simp [LH.B_normal, LH.S_normal, e1, e2]
theorem SzR.norm {r : Rw} {n : Nat} (h : SzR n r) (hs : PySem.PyData.strOk r.2.1 = true) (nz : ∀ p ∈ r.1, p.2.1 ≠ 0) (hl : r.1.length ≤ 1000) (hn : n * (r.1.length + 1) + 4 ≤ 3900) : SzR (n + (n * (r.1.length + 1) + 4)) (normM r) := by
  obtain ⟨e, z⟩ := lh_factor h hs nz hl hn
  refine ⟨fun p hp => ?_, h.bd.mul z⟩
  obtain ⟨q, hq, rfl⟩ := List.mem_map.mp hp
  exact (h.ps q hq).mul z
def getQ (kvs : List Pt) (x : Str) : Qn := ((kvs.find? fun kv => decide (kv.1 = x)).map (·.2)).getD (0, 1)
def putQ (kvs : List Pt) (x : Str) (v : Qn) : List Pt :=
  if (kvs.any fun kv => decide (kv.1 = x)) = true then kvs.map (fun kv => if kv.1 = x then (kv.1, v) else kv) else kvs ++ [(x, v)]
def dQ (kvs : List Pt) : List (Key × PyData) := kvs.map fun p => (Sum.inr p.1, N p.2)
theorem valD_dQ : ∀ (kvs : List Pt) (x : Str), (valD (dQ kvs) (.inr x)).getD (N (0, 1)) = N (getQ kvs x)
  | [], x => rfl
  | p :: kvs, x => by
    have z := valD_dQ kvs x
    by_cases h : p.1 = x
    · simp [dQ, valD, getQ, h]
    · simp [dQ, valD, getQ, h] at z ⊢
      exact z
theorem valD_dQ2 : ∀ (kvs : List Pt) (x : Str), x ∈ kvs.map (·.1) → valD (dQ kvs) (.inr x) = some (N (getQ kvs x))
  | p :: kvs, x, hx => by
    by_cases h : p.1 = x
    · simp [dQ, valD, getQ, h]
    · have z := valD_dQ2 kvs x (by simpa [Ne.symm h] using hx)
      simp [dQ, valD, getQ, h] at z ⊢
      exact z
theorem putD_dQ (kvs : List Pt) (x : Str) (v : Qn) : putD (dQ kvs) (.inr x) (N v) = dQ (putQ kvs x v) := by
  unfold putD putQ
  have e : ((dQ kvs).any fun kv => decide (kv.1 = Sum.inr x)) = (kvs.any fun kv => decide (kv.1 = x)) := by simp [dQ, List.any_map, Function.comp_def]
  rw [e]
  split
  · simp only [dQ, List.map_map]
    apply List.map_congr_left
    intro p _
    by_cases h : p.1 = x <;> simp [h]
  · simp [dQ]
def addQ (kvs : List Pt) (p : Pt) : List Pt := putQ kvs p.1 (qadd (getQ kvs p.1) p.2)
def sumQ (ps kvs : List Pt) : List Pt := ps.foldl addQ kvs
def partsM (ps : List Pt) : List Pt := ((sortS ((sumQ ps []).map (·.1))).map fun x => (x, getQ (sumQ ps []) x)).filter fun p => decide (p.2.1 ≠ 0)
theorem putQ_len (kvs : List Pt) (x : Str) (v : Qn) : (putQ kvs x v).length ≤ kvs.length + 1 := by
  unfold putQ
  split <;> simp
theorem mem_putQ {kvs : List Pt} {x : Str} {v : Qn} {p : Pt} (h : p ∈ putQ kvs x v) : p ∈ kvs ∨ p = (x, v) := by
  unfold putQ at h
  split at h
  · obtain ⟨q, hq, e⟩ := List.mem_map.mp h
    by_cases z : q.1 = x
    · rw [if_pos z] at e
      right; rw [← e, z]
    · rw [if_neg z] at e
      left; rw [← e]; exact hq
  · rcases List.mem_append.mp h with h | h
    · exact .inl h
    · right; simpa using h
theorem getQ_mem {kvs : List Pt} {x : Str} : getQ kvs x = (0, 1) ∨ ∃ p ∈ kvs, p.1 = x ∧ getQ kvs x = p.2 := by
  unfold getQ
  cases e : kvs.find? fun kv => decide (kv.1 = x) with
  | none => left; rfl
  | some p =>
    right
    exact ⟨p, List.mem_of_find?_eq_some e, by simpa using List.find?_some e, rfl⟩
theorem Sz.get {n : Nat} {kvs : List Pt} (h : ∀ p ∈ kvs, Sz (n + 1) p.2) (x : Str) : Sz (n + 1) (getQ kvs x) := by
  rcases getQ_mem (kvs := kvs) (x := x) with e | ⟨p, hp, _, e⟩
  · rw [e]; exact sz01.mono (by omega)
  · rw [e]; exact h p hp
theorem Sz.addQ {n k : Nat} {kvs : List Pt} (h : ∀ p ∈ kvs, Sz (k + 1) p.2) {p : Pt} (hp : Sz n p.2) : ∀ q ∈ addQ kvs p, Sz (k + (n + 1) + 1) q.2 := by
  intro q hq
  rcases mem_putQ hq with hq | rfl
  · exact (h q hq).mono (by omega)
  · exact ((Sz.get h p.1).add hp).mono (by omega)
theorem Sz.sumQ {n : Nat} : ∀ (ps : List Pt) {k : Nat} {kvs : List Pt}, (∀ p ∈ kvs, Sz (k + 1) p.2) → (∀ p ∈ ps, Sz n p.2) → ∀ q ∈ sumQ ps kvs, Sz (k + (n + 1) * ps.length + 1) q.2
  | [], k, kvs, h, _ => by simpa [DL.sumQ] using h
  | p :: ps, k, kvs, h, hp => by
    have z := Sz.sumQ (n := n) ps (k := k + (n + 1)) (kvs := DL.addQ kvs p) (Sz.addQ h (hp p List.mem_cons_self)) (fun q hq => hp q (List.mem_cons_of_mem _ hq))
    have e : k + (n + 1) * (p :: ps).length + 1 = k + (n + 1) + (n + 1) * ps.length + 1 := by rw [List.length_cons, Nat.mul_succ]; omega
    rw [e]
    exact z
theorem sumQ_len : ∀ (ps kvs : List Pt), (sumQ ps kvs).length ≤ kvs.length + ps.length
  | [], kvs => by simp [sumQ]
  | p :: ps, kvs => by
    have z := sumQ_len ps (addQ kvs p)
    have := putQ_len kvs p.1 (qadd (getQ kvs p.1) p.2)
    simp only [sumQ, List.foldl_cons, List.length_cons] at z ⊢
    unfold addQ at z ⊢
    omega
theorem Sz.parts {n : Nat} {ps : List Pt} (h : ∀ p ∈ ps, Sz n p.2) : ∀ q ∈ partsM ps, Sz ((n + 1) * ps.length + 1) q.2 := by
  intro q hq
  obtain ⟨q1, _⟩ := List.mem_filter.mp hq
  obtain ⟨x, hx, rfl⟩ := List.mem_map.mp q1
  have z := Sz.sumQ (n := n) ps (k := 0) (kvs := []) (fun _ h => by cases h) h
  simp only [Nat.zero_add] at z
  exact Sz.get z x
theorem partsM_nz {ps : List Pt} : ∀ q ∈ partsM ps, q.2.1 ≠ 0 := fun q hq => by simpa using (List.mem_filter.mp hq).2
theorem partsM_len (ps : List Pt) : (partsM ps).length ≤ ps.length := by
  have z := sumQ_len ps []
  have := List.length_filter_le (fun p : Pt => decide (p.2.1 ≠ 0)) ((sortS ((sumQ ps []).map (·.1))).map fun x => (x, getQ (sumQ ps []) x))
  unfold partsM
  rw [List.length_map, (sortS_perm _).length_eq, List.length_map] at this
  simp only [List.length_nil] at z
  omega
theorem keysS_dQ : ∀ kvs : List Pt, keysS (dQ kvs) = some (kvs.map (·.1))
  | [] => rfl
  | p :: kvs => by
    have z := keysS_dQ kvs
    simp only [dQ, List.map_cons, keysS] at z ⊢
    rw [z]
    rfl
section
variable {e0 : Ent} (PS : Rho → Out)
theorem sum_loop (A : Fn) (hA : ∀ p q : Qn, Sz 4000 p → Sz 4000 q → A [N p, N q] = .ok (N (qadd p q))) (Z : Rho → Res PyData) (hZ : ∀ e0 ρ, Z (e0 :: ρ) = .ok (N (0, 1)) (e0 :: ρ))
    (hPS : PS = putS 1 (varF 2) (callF A (consA (dgetF 1 (varF 2) Z) (consA (varF 3) nilA)))) : ∀ (ps kvs : List Pt) {n k : Nat} (e2 e3 : Ent), (∀ p ∈ kvs, Sz (k + 1) p.2) → (∀ p ∈ ps, Sz n p.2) → k + (n + 1) * ps.length + 1 ≤ 3900 → n ≤ 3900 → kvs.length + ps.length ≤ 1000 →
    ∃ e2' e3', loopS (tupT 2 (consTs (nameT 2) (consTs (nameT 3) nilTs))) PS (ps.map pD) [e0, .dct (dQ kvs), e2, e3] = .nx [e0, .dct (dQ (sumQ ps kvs)), e2', e3']
  | [], kvs, n, k, e2, e3, _, _, _, _, _ => ⟨e2, e3, rfl⟩
  | p :: ps, kvs, n, k, e2, e3, hk, hp, hn, hn1, hl => by
    have e : (n + 1) * (p :: ps).length = (n + 1) * ps.length + (n + 1) := Nat.mul_succ _ _
    rw [e] at hn
    have hl' : kvs.length + (ps.length + 1) ≤ 1000 := hl
    have h1 := hp p List.mem_cons_self
    have hlen : (addQ kvs p).length ≤ kvs.length + 1 := putQ_len _ _ _
    obtain ⟨e2', e3', z⟩ := sum_loop A hA Z hZ hPS ps (addQ kvs p) (n := n) (k := k + (n + 1)) (.d (.str p.1)) (.d (N p.2)) (Sz.addQ hk h1) (fun q hq => hp q (List.mem_cons_of_mem _ hq)) (by omega) hn1 (by omega)
    refine ⟨e2', e3', ?_⟩
    have c : A [N (getQ kvs p.1), N p.2] = .ok (N (qadd (getQ kvs p.1) p.2)) := hA _ _ ((Sz.get hk p.1).mono (by omega)) (h1.mono (by omega))
    have v := valD_dQ kvs p.1
    have hq : (dQ kvs).length < 16777216 := by simp [dQ]; omega
    rw [List.map_cons, loopS_cons (ρ1 := [e0, .dct (dQ kvs), .d (.str p.1), .d (N p.2)]) (by simp)]
    simp only [N] at c v hZ z
    have g : putD (dQ kvs) (.inr p.1) (.tuple [.int (qadd (getQ kvs p.1) p.2).1, .int (qadd (getQ kvs p.1) p.2).2]) = dQ (addQ kvs p) := putD_dQ kvs p.1 _
    have zz : loopS (tupT 2 (consTs (nameT 2) (consTs (nameT 3) nilTs))) PS (ps.map pD) [e0, .dct (dQ (addQ kvs p)), .d (.str p.1), .d (N p.2)] = _ := z
    rw [hPS] at zz ⊢
    simp [hZ, v, c, hq, g]
    exact zz
theorem keys_part (Z : Rho → Res Bool) (kvs : List Pt) {e2 e3 : Ent} (hZ : ∀ x ∈ kvs.map (·.1), Z [e0, .rdd (dQ kvs), .d (.str x), e3] = .ok (decide ((getQ kvs x).1 ≠ 0)) [e0, .rdd (dQ kvs), .d (.str x), e3]) (hl : kvs.length ≤ 1000) :
    compL (nameT 2) Z (tupF (consA (varF 2) (consA (dixF 1 (varF 2)) nilA))) [e0, .rdd (dQ kvs), .un, e3] ((sortS (kvs.map (·.1))).map PyData.str) [] = some ((((sortS (kvs.map (·.1))).map fun x => (x, getQ kvs x)).filter fun p => decide (p.2.1 ≠ 0)).map pD) := by
  have hm : ∀ x ∈ sortS (kvs.map (·.1)), x ∈ kvs.map (·.1) := fun x hx => (sortS_perm _).mem_iff.mp hx
  have hlen : (sortS (kvs.map (·.1))).length = kvs.length := by rw [(sortS_perm _).length_eq, List.length_map]
  rw [compL_filter (fun x => decide ((getQ kvs x).1 ≠ 0)) PyData.str (fun x => pD (x, getQ kvs x)) _ _ (fun x hx => ?_) (by simp only [List.length_nil, hlen]; omega)]
  · simp [List.filter_map, Function.comp_def]
  · have v := valD_dQ2 kvs x (hm x hx)
    simp only [N] at v
    have hz := hZ x (hm x hx)
    unfold stepC
    by_cases h0 : (getQ kvs x).1 = 0
    · simp [h0] at hz
      simp [hz, h0]
    · simp [h0] at hz
      simp [hz, h0, v]
end
theorem lh_parts {ps : List Pt} {n : Nat} (c : List PyData → PyData) (hc : c = PyData.list ∨ c = PyData.tuple) (h : ∀ p ∈ ps, Sz n p.2) (hn : (n + 1) * ps.length + 1 ≤ 3900) (hn1 : n ≤ 3900) (hl : ps.length < 60) : LH.B_parts (c (ps.map pD)) = .ok (psD (partsM ps)) := by
  have L := sum_loop (e0 := .d (c (ps.map pD))) LH.L_parts_1 LH.m_add (fun p q hp hq => lh_add hp hq) (tupF (consA (cF (.int 0)) (consA (cF (.int 1)) nilA))) (fun e0 ρ => by simp) rfl ps [] (n := n) (k := 0) .un .un (fun _ h => by cases h) h (by omega) hn1 (by simp; omega)
  obtain ⟨e2', e3', L⟩ := L
  have hlen := sumQ_len ps []
  simp only [List.length_nil, Nat.zero_add] at hlen
  have Kp := keys_part (e0 := .d (c (ps.map pD))) (testF (binF dNe (binF dIx (dixF 1 (varF 2)) (cF (.int 0))) (cF (.int 0)))) (sumQ ps []) (e2 := e2') (e3 := frzE e3' |> roE) (fun x hx => by
    have v := valD_dQ2 (sumQ ps []) x hx
    simp only [N] at v
    simp [v]
    by_cases h0 : (getQ (sumQ ps []) x).1 = 0 <;> simp [h0]) (by omega)
  have k1 := keysS_dQ (sumQ ps [])
  have hl2 : (sumQ ps []).length < 64 := by omega
  simp only [show dQ [] = [] from rfl] at L
  rcases hc with rfl | rfl
  · simp [LH.B_parts, LH.S_parts, L, k1, hl2, Kp]
    simp [partsM]
  · simp [LH.B_parts, LH.S_parts, L, k1, hl2, Kp]
    simp [partsM]
end DL
namespace DL
open PySem PySem.Spec PyProof.Rows L2 RT
def rowM (ps : List Pt) (sg : Str) (b : Qn) : Rw := normM (partsM ps, sg, b)
def flipM (ps : List Pt) : List Pt := ps.map fun p => (p.1, qsub (0, 1) p.2)
def Nam (x : Str) : Prop := x = "x" ∨ x = "b1" ∨ x = "total"
def Good (r : Rw) : Prop := ∃ ps sg b, r = rowM ps sg b ∧ Sgn sg ∧ (∀ p ∈ ps, Sz 6 p.2 ∧ Nam p.1) ∧ ps.length ≤ 3 ∧ Sz 6 b
theorem szR_parts {ps : List Pt} {sg : Str} {b : Qn} {n : Nat} (h : ∀ p ∈ ps, Sz n p.2) (hb : Sz n b) : SzR ((n + 1) * ps.length + 1 + n) (partsM ps, sg, b) :=
  ⟨fun p hp => (Sz.parts h p hp).mono (by omega), hb.mono (by show n ≤ _; omega)⟩
theorem lh_normal_parts {ps : List Pt} {sg : Str} {b : Qn} (h : ∀ p ∈ ps, Sz 6 p.2) (hb : Sz 6 b) (hl : ps.length ≤ 20) (hs : PySem.PyData.strOk sg = true) :
    LH.B_normal (rD (partsM ps, sg, b)) = .ok (rD (rowM ps sg b)) := by
  have hl2 := partsM_len ps
  have z : SzR 150 (partsM ps, sg, b) := (szR_parts (n := 6) h hb).mono (by omega)
  refine lh_normal (n := 150) z hs (fun p hp => partsM_nz p hp) (by show (partsM ps).length ≤ _; omega) ?_
  show 150 * ((partsM ps).length + 1) + 4 ≤ 3900
  have : 150 * ((partsM ps).length + 1) ≤ 150 * 21 := Nat.mul_le_mul_left _ (by omega)
  omega
theorem lh_row0 {ps : List Pt} {sg : Str} {b : Qn} (h : ∀ p ∈ ps, Sz 6 p.2) (hb : Sz 6 b) (hl : ps.length ≤ 20) (hs : Sgn sg) :
    LH.B_row (.list (ps.map pD)) (.str sg) (N b) = .ok (rD (rowM ps sg b)) := by
  have e1 : LH.m_parts [.list (ps.map pD)] = .ok (psD (partsM ps)) := lh_parts (n := 6) PyData.list (.inl rfl) h (by omega) (by decide) (by omega)
  have e2 : LH.m_normal [.tuple [psD (partsM ps), .str sg, .tuple [.int b.1, .int b.2]]] = .ok (rD (rowM ps sg b)) := lh_normal_parts h hb hl hs.ok
  have n1 : (sg == ">=") = false := by rcases hs with rfl | rfl | rfl <;> decide
  have n2 : (sg == ">") = false := by rcases hs with rfl | rfl | rfl <;> decide
  simp [LH.B_row, LH.S_row, e1, e2, dEq_s hs.ok ok_ge, dEq_s hs.ok ok_gt, n1, n2]
theorem lcS_apc {i : Nat} {vs : List Nat} {Fi : Rho → Res (List PyData)} {T : Tg} {Tt : Rho → Res Bool} {F : Rho → Res PyData} {e0 : Ent} {ρ : Rho} : lcS i vs Fi T Tt F (e0 :: ρ) = (Fi (e0 :: ρ)).out fun ds ρ1 =>
  if (∀ v ∈ vs, v < ρ1.length) ∧ i < ρ1.length then (match compL T Tt F (wipeR (blkR ρ1) vs) ds [] with
    | some r => .nx ((frz ρ1).set i (.own r))
    | none => .bad) else .bad := id rfl
theorem disp_ge : valD (mergeD [] (kvD [(">=", "<="), (">", "<")])) (.inr ">=") = some (.str "<=") := by rfl
theorem disp_gt : valD (mergeD [] (kvD [(">=", "<="), (">", "<")])) (.inr ">") = some (.str "<") := by rfl
theorem lh_row1 {ps : List Pt} {sg sg2 : Str} {b : Qn} (h : ∀ p ∈ ps, Sz 4 p.2) (hb : Sz 4 b) (hl : ps.length ≤ 20) (hs : (sg = ">=" ∧ sg2 = "<=") ∨ (sg = ">" ∧ sg2 = "<")) :
    LH.B_row (.list (ps.map pD)) (.str sg) (N b) = .ok (rD (rowM (flipM ps) sg2 (qsub (0, 1) b))) := by
  have hf : ∀ p ∈ flipM ps, Sz 6 p.2 := fun p hp => by
    obtain ⟨q, hq, rfl⟩ := List.mem_map.mp hp
    exact sz01.sub (h q hq)
  have hfl : (flipM ps).length = ps.length := by simp [flipM]
  have e1 : LH.m_parts [.list ((flipM ps).map pD)] = .ok (psD (partsM (flipM ps))) := lh_parts (n := 6) PyData.list (.inl rfl) hf (by omega) (by decide) (by omega)
  have s2 : Sgn sg2 := by rcases hs with ⟨_, rfl⟩ | ⟨_, rfl⟩ <;> simp [Sgn]
  have e2 : LH.m_normal [.tuple [psD (partsM (flipM ps)), .str sg2, .tuple [.int (qsub (0, 1) b).1, .int (qsub (0, 1) b).2]]] = .ok (rD (rowM (flipM ps) sg2 (qsub (0, 1) b))) := lh_normal_parts hf (sz01.sub hb) (by omega) s2.ok
  have e3 : LH.m_sub [.tuple [.int 0, .int 1], .tuple [.int b.1, .int b.2]] = .ok (N (qsub (0, 1) b)) := lh_sub (sz01.mono (by decide)) (hb.mono (by decide))
  have c : compL (tupT 2 (consTs (nameT 3) (consTs (nameT 4) nilTs))) yesT (tupF (consA (varF 3) (consA (callF LH.m_sub (consA (tupF (consA (cF (.int 0)) (consA (cF (.int 1)) nilA))) (consA (varF 4) nilA))) nilA))) [.d (.list (ps.map pD)), .d (.str sg), .d (N b), .un, .un] (ps.map pD) [] = some ((flipM ps).map pD) := by
    rw [compL_map pD (fun p => pD (p.1, qsub (0, 1) p.2)) ps (fun p hp => ?_) (by omega)]
    · simp [flipM]
    · have e : LH.m_sub [.tuple [.int 0, .int 1], .tuple [.int p.2.1, .int p.2.2]] = .ok (N (qsub (0, 1) p.2)) := lh_sub (sz01.mono (by decide)) ((h p hp).mono (by decide))
      simp [e]
  rcases hs with ⟨rfl, rfl⟩ | ⟨rfl, rfl⟩
  · simp [LH.B_row, LH.S_row, lcS_apc, dEq_s ok_ge ok_ge, c, e3, disp_ge, e1, e2]
  · have n1 : ((">" : Str) == ">=") = false := by decide
    simp [LH.B_row, LH.S_row, lcS_apc, dEq_s ok_gt ok_ge, dEq_s ok_gt ok_gt, n1, c, e3, disp_gt, e1, e2]
theorem sd5 : Sd 5 := Bt.sd (n := 31) (by unfold Bt; decide) (by decide) (by decide) (by decide)
theorem loopS_name {i : Nat} {S1 : Rho → Out} {d : PyData} {ds : List PyData} {ρ : Rho} (h : i < ρ.length) : loopS (nameT i) S1 (d :: ds) ρ = match S1 (ρ.set i (.d d)) with
      | .nx ρ2 => loopS (nameT i) S1 ds ρ2
      | .ct ρ2 => loopS (nameT i) S1 ds ρ2
      | .bk ρ2 => .nx ρ2
      | o => o := by
  rw [loopS_cons (ρ1 := ρ.set i (.d d)) (by rw [nameT_ap, if_pos h])] <;> rfl
end DL
namespace DL
open PySem PySem.Spec PyProof.Rows L2 RT
section
variable {F : Rho → Res PyData} {L U : Po} {ρ : Rho} {e0 : Ent}
theorem cutF_apc : cutF F L U (e0 :: ρ) = (F (e0 :: ρ)).bind fun d ρ => (L ρ).bind fun l ρ => (U ρ).bind fun u ρ => optR (dCut d l u) ρ := id rfl
theorem noP_apc : noP (e0 :: ρ) = .ok none (e0 :: ρ) := id rfl
theorem someP_apc : someP F (e0 :: ρ) = (F (e0 :: ρ)).bind fun d ρ => match d with
  | .int i => .ok (some i) ρ
  | _ => .bad := id rfl
theorem repF_apc {A : Rho → Res (List PyData)} {ds : List PyData} {k : Nat} {ρ1 ρ2 : Rho} (h1 : A ρ = .ok ds ρ1) (h2 : F ρ1 = .ok (.int (k : Int)) ρ2) (hk : k ≤ 1000) (hd : ds.length ≤ 1000) : repF A F ρ = .ok (.list (List.replicate k ds).flatten) ρ2 := by
  unfold repF
  rw [h1, bind_ok, if_pos (by omega), h2, bind_ok]
  have : ds.length * k ≤ 1000 * 1000 := Nat.mul_le_mul hd hk
  exact iteC_pos (by simp only [Int.toNat_natCast]; omega)
end
theorem dAdd_ll {xs ys : List PyData} (h : xs.length + ys.length ≤ 16777216) : dAdd (.list xs) (.list ys) = some (.list (xs ++ ys)) := if_pos (by rw [sizeLine_eq]; exact h)
theorem Dig.drop : ∀ {ds zs : List Int} (n : Nat), Dig ds zs → Dig (ds.drop n) (zs.drop n)
  | _, _, 0, h => h
  | [], [], _ + 1, _ => trivial
  | _ :: _, _ :: _, n + 1, h => Dig.drop n h.2
  | [], _ :: _, _ + 1, h => h.elim
  | _ :: _, [], _ + 1, h => h.elim
theorem Dig.take : ∀ {ds zs : List Int} (n : Nat), Dig ds zs → Dig (ds.take n) (zs.take n)
  | _, _, 0, _ => trivial
  | [], [], _ + 1, _ => trivial
  | _ :: _, _ :: _, n + 1, h => ⟨h.1, Dig.take n h.2⟩
  | [], _ :: _, _ + 1, h => h.elim
  | _ :: _, [], _ + 1, h => h.elim
theorem cutD_nat {xs : List PyData} {a b : Nat} (h : a ≤ b) (hb : b ≤ xs.length) : cutD xs (some (a : Int)) (some (b : Int)) = (xs.drop a).take (b - a) := by
  unfold cutD
  rw [HT.sIx_nat, HT.sIx_nat, Nat.min_eq_left (show a ≤ xs.length by omega), Nat.min_eq_left hb]
def sysZ (most : Int) : List Int := [most, 4] ++ (List.replicate 6 [7, 7, 7, 7, 6, 11, 2]).flatten
theorem sysZ_line (most : Int) : ∀ j : Nat, j < 6 → ((sysZ most).drop (2 + 7 * j)).take 7 = [7, 7, 7, 7, 6, 11, 2]
  | 0, _ => rfl
  | 1, _ => rfl
  | 2, _ => rfl
  | 3, _ => rfl
  | 4, _ => rfl
  | 5, _ => rfl
  | n + 6, h => by omega
theorem sd2 : Sd 2 := Bt.sd (n := 31) (by unfold Bt; decide) (by decide) (by decide) (by decide)
end DL
namespace DL
open PySem PySem.Spec PyProof.Rows L2 RT
abbrev Pa := Int × Qn
abbrev aD (p : Pa) : PyData := .tuple [.int p.1, .tuple [.int p.2.1, .int p.2.2]]
def sgAt (rows : List Rw) (i : Int) : Str := ((rows[i.toNat]?).map (·.2.1)).getD ""
theorem qcmp0 {q : Qn} : qcmp q (0, 1) = if q.1 < 0 then -1 else if 0 < q.1 then 1 else 0 := by
  unfold qcmp
  simp
section
variable {rows : List Rw} (hs : ∀ r ∈ rows, PySem.PyData.strOk r.2.1 = true) {e1 : Ent}
include hs
end
end DL
namespace DL
open PySem PySem.Spec PyProof.Rows L2 RT
theorem Dig.get : ∀ {ds zs : List Int} {i : Nat} {z : Int}, Dig ds zs → zs[i]? = some z → ∃ d, ds[i]? = some d ∧ 0 ≤ d ∧ d < z
  | d :: ds, z :: zs, 0, _, h, e => by cases e; exact ⟨d, rfl, h.1⟩
  | d :: ds, z :: zs, i + 1, _, h, e => Dig.get (i := i) h.2 e
  | [], [], _, _, _, e => by cases e
  | [], _ :: _, _, _, h, _ => h.elim
  | _ :: _, [], _, _, h, _ => h.elim
theorem Dig.ix {ds zs : List Int} {i : Nat} {z : Int} (h : Dig ds zs) (e : zs[i]? = some z) : ∃ d, dIx (iL ds) (.int (i : Int)) = some (.int d) ∧ 0 ≤ d ∧ d < z := by
  obtain ⟨d, e1, e2⟩ := h.get e
  exact ⟨d, dIx_l (by rw [List.getElem?_map, e1]; rfl), e2⟩
structure PaOk (rows : List Rw) (pa : List Pa) : Prop where
  each : ∀ p ∈ pa, (0 ≤ p.1 ∧ p.1 < rows.length) ∧ p.2.1 ≠ 0 ∧ (p.2.1 < 0 → sgAt rows p.1 = "=") ∧ Sz 5 p.2
  asc : pa.Pairwise fun a b => a.1 < b.1
theorem Good.ok {r : Rw} (h : Good r) : PySem.PyData.strOk r.2.1 = true := by
  obtain ⟨ps, sg, b, rfl, hs, _⟩ := h
  exact hs.ok
end DL
namespace DL
open PySem PySem.Spec PyProof.Rows L2 RT
section
variable {X : L2.Cx} {B : Bx} {W : WX} {e : Expr} {pos : Pos} {F : Rho → Res PyData}
def lenO (i : Nat) : Rho → Res PyData := fun ρ => match ρ[i]? with
  | some (.own xs) => .ok (.int xs.length) ρ
  | some (.d d) => optR (bLen d) ρ
  | _ => .bad
def ixO (i : Nat) (F : Rho → Res PyData) : Rho → Res PyData := fun ρ => match ρ[i]? with
  | some (.own _) => (F ρ).bind fun k ρ => (match ρ[i]? with
    | some (.own xs) => optR (dIx (.list xs) k) ρ
    | _ => .bad)
  | some (.d d) => (F ρ).bind fun k ρ => optR (dIx d k) ρ
  | _ => .bad
@[simp] theorem lenO_apc {i : Nat} {e0 : Ent} {ρ : Rho} : lenO i (e0 :: ρ) = match (e0 :: ρ)[i]? with
  | some (.own xs) => .ok (.int xs.length) (e0 :: ρ)
  | some (.d d) => optR (bLen d) (e0 :: ρ)
  | _ => .bad := by unfold lenO; exact id rfl
theorem pd_lenO (i : Nat) {x : Str} {p px : Pos} (hm : X.mg "len" = none) (hN : X.N[i]? = some x := by rfl) (hvs : Vis X.env.scope x := by first | exact Or.inl rfl | exact Or.inr (Or.inl rfl) | exact Or.inr (Or.inr rfl)) (hd : (x == ("__debug__" : Str)) = false := by decide)
    (hcd : (x == ("__classdict__" : Str)) = false := by decide) (hg : Gl X "len" := by rfl) (he : starEach [(.Name x px : Expr)] X.env = (false, eval (.Name x px) X.env) :: starEach [] X.env := by rfl) (hpl : (backTo pos (starEach [] X.env)).any (·.1) = false := by rfl)
    (hpl2 : (backTo pos (starEach [(.Name x px : Expr)] X.env)).any (·.1) = false := by rfl) :
    PE X (.Call (.Name "len" p) [.Name x px] [] pos) (tD (km X) B W (lenO i)) := by
  refine (pe_callB call_len hg hm (by decide +kernel) (pa_cons (pe_var hN hvs hd hcd) pa_nil he) (by decide) (by decide) he hpl).of ?_
  rintro σ H Q ⟨G, ρ, E, S⟩
  unfold lenO at S
  cases e1 : ρ[i]? with
  | none => rw [e1] at S; exact S.elim
  | some en =>
    have q := E.ent i _ e1
    generalize hσ : σ[i]? = o at q
    rw [e1] at S
    cases q with
    | un => exact S.elim
    | d dp =>
      obtain ⟨z, hz, q⟩ := sat_opt S
      refine ⟨_, hσ, ?_⟩
      exact rd_len G H _ [_] z Q E.base.gh (.cons dp .nil) hz fun v G3 H3 ext dp3 => q v G3 H3 (E.ext ext) ext.g dp3
    | own z1 z2 z3 z4 =>
      refine ⟨_, hσ, ⟨_, _, rfl, .inl ⟨_, SqL.of z1, rfl⟩, ?_⟩⟩
      rw [z4.len]
      exact S _ G H E (Same.refl _) (.int _)
    | dct _ _ _ _ => exact S.elim
    | rdd _ _ => exact S.elim
    | exv => exact S.elim
    | ndc _ _ _ _ => exact S.elim
end
end DL
namespace DL
def rv (q : Qn) : Rat := (q.1 : Rat) / (q.2 : Rat)
structure Low (q : Qn) : Prop where
  pos : 0 < q.2
  co : Nat.gcd q.1.natAbs q.2.natAbs = 1
theorem rc {b : Int} (h : b ≠ 0) : (b : Rat) ≠ 0 := by
  intro e
  exact h (by exact_mod_cast e)
theorem rv_nrm {t b : Int} (hb : b ≠ 0) : rv (nrm t b) = (t : Rat) / (b : Rat) := by
  have h := nrm_cross (t := t) hb
  have hp := nrm_pos (t := t) hb
  have h1 := rc hb
  have h2 : ((nrm t b).2 : Rat) ≠ 0 := rc (by omega)
  have h3 : ((nrm t b).1 : Rat) * (b : Rat) = (t : Rat) * ((nrm t b).2 : Rat) := by exact_mod_cast h
  unfold rv
  grind
theorem low_nrm {t b : Int} (hb : b ≠ 0) : Low (nrm t b) := by
  refine ⟨nrm_pos hb, ?_⟩
  have g0 : 0 < Nat.gcd t.natAbs b.natAbs := Nat.gcd_pos_of_pos_right _ (by omega)
  have e1 : (nrm t b).1.natAbs = t.natAbs / Nat.gcd t.natAbs b.natAbs ∧ (nrm t b).2.natAbs = b.natAbs / Nat.gcd t.natAbs b.natAbs := by
    obtain ⟨x, hx⟩ := gcd_dvd_t (t := t) (b := b)
    obtain ⟨y, hy⟩ := gcd_dvd_b (t := t) (b := b)
    unfold nrm
    generalize hg : Nat.gcd t.natAbs b.natAbs = g at *
    have gp : (0 : Int) < (g : Int) := by omega
    have ex : t.natAbs / g = x.natAbs := by rw [hx, Int.natAbs_mul, Int.natAbs_natCast, Nat.mul_div_cancel_left _ g0]
    have ey : b.natAbs / g = y.natAbs := by rw [hy, Int.natAbs_mul, Int.natAbs_natCast, Nat.mul_div_cancel_left _ g0]
    have q1 : t / (g : Int) = x := by rw [hx, Int.mul_ediv_cancel_left _ (by omega)]
    have q2 : b / (g : Int) = y := by rw [hy, Int.mul_ediv_cancel_left _ (by omega)]
    have q3 : -t / (g : Int) = -x := by rw [hx, ← Int.mul_neg, Int.mul_ediv_cancel_left _ (by omega)]
    have q4 : -b / (g : Int) = -y := by rw [hy, ← Int.mul_neg, Int.mul_ediv_cancel_left _ (by omega)]
    split
    · simp [q3, q4, ex, ey]
    · simp [q1, q2, ex, ey]
  rw [e1.1, e1.2]
  exact Nat.gcd_div_gcd_div_gcd_of_pos_right (by omega)
theorem rv_ext {p q : Qn} (hp : Low p) (hq : Low q) (h : rv p = rv q) : p = q := by
  obtain ⟨a, b⟩ := p
  obtain ⟨c, d⟩ := q
  obtain ⟨b0, hb⟩ := hp
  obtain ⟨d0, hd⟩ := hq
  simp only at b0 hb d0 hd
  unfold rv at h
  simp only at h
  have h1 : (b : Rat) ≠ 0 := rc (by omega)
  have h2 : (d : Rat) ≠ 0 := rc (by omega)
  have h3 : (a : Rat) * (d : Rat) = (c : Rat) * (b : Rat) := by grind
  have h4 : a * d = c * b := by exact_mod_cast h3
  have n1 : a.natAbs * d.natAbs = c.natAbs * b.natAbs := by rw [← Int.natAbs_mul, ← Int.natAbs_mul, h4]
  have hb' : Nat.Coprime a.natAbs b.natAbs := hb
  have hd' : Nat.Coprime c.natAbs d.natAbs := hd
  have k1 : b.natAbs ∣ d.natAbs := by
    have : b.natAbs ∣ a.natAbs * d.natAbs := ⟨c.natAbs, by rw [n1, Nat.mul_comm]⟩
    exact Nat.Coprime.dvd_of_dvd_mul_left hb'.symm this
  have k2 : d.natAbs ∣ b.natAbs := by
    have : d.natAbs ∣ c.natAbs * b.natAbs := ⟨a.natAbs, by rw [← n1, Nat.mul_comm]⟩
    exact Nat.Coprime.dvd_of_dvd_mul_left hd'.symm this
  have k3 : b.natAbs = d.natAbs := Nat.dvd_antisymm k1 k2
  have k4 : b = d := by omega
  subst k4
  have : a = c := Int.eq_of_mul_eq_mul_right (by omega) h4
  rw [this]
section
variable {p q : Qn}
theorem rv_add (hp : q.2 ≠ 0) (hq : p.2 ≠ 0) : rv (qadd p q) = rv p + rv q := by
  unfold qadd
  rw [rv_nrm (Int.mul_ne_zero hq hp)]
  have h1 := rc hp
  have h2 := rc hq
  unfold rv
  push_cast
  grind
theorem rv_sub (hp : q.2 ≠ 0) (hq : p.2 ≠ 0) : rv (qsub p q) = rv p - rv q := by
  unfold qsub
  rw [rv_nrm (Int.mul_ne_zero hq hp)]
  have h1 := rc hp
  have h2 := rc hq
  unfold rv
  push_cast
  grind
theorem rv_mul (hp : q.2 ≠ 0) (hq : p.2 ≠ 0) : rv (qmul p q) = rv p * rv q := by
  unfold qmul
  rw [rv_nrm (Int.mul_ne_zero hq hp)]
  have h1 := rc hp
  have h2 := rc hq
  unfold rv
  push_cast
  grind
theorem rv_div (hp : q.1 ≠ 0) (hq : p.2 ≠ 0) (h0 : q.2 ≠ 0) : rv (qdiv p q) = rv p / rv q := by
  unfold qdiv
  rw [rv_nrm (Int.mul_ne_zero hq hp)]
  have h1 := rc hp
  have h2 := rc hq
  have h3 := rc h0
  unfold rv
  push_cast
  grind
theorem rv_zero : rv q = 0 ↔ q.1 = 0 ∨ q.2 = 0 := by
  unfold rv
  constructor
  · intro h
    by_cases h2 : q.2 = 0
    · exact .inr h2
    · have h1 := rc h2
      left
      have : (q.1 : Rat) = 0 := by grind
      exact_mod_cast this
  · rintro (h | h) <;> rw [h] <;> grind
theorem rv_lt (hp : 0 < p.2) (hq : 0 < q.2) : rv p < rv q ↔ p.1 * q.2 < q.1 * p.2 := by
  have h1 : (0 : Rat) < (p.2 : Rat) := by exact_mod_cast hp
  have h2 : (0 : Rat) < (q.2 : Rat) := by exact_mod_cast hq
  have e1 : rv p * (p.2 : Rat) = (p.1 : Rat) := by unfold rv; grind
  have e2 : rv q * (q.2 : Rat) = (q.1 : Rat) := by unfold rv; grind
  have h3 : (0 : Rat) < (p.2 : Rat) * (q.2 : Rat) := Rat.mul_pos h1 h2
  have e3 : ((p.1 * q.2 : Int) : Rat) < ((q.1 * p.2 : Int) : Rat) ↔ p.1 * q.2 < q.1 * p.2 := by exact_mod_cast Iff.rfl
  rw [← e3]
  push_cast
  rw [← e1, ← e2]
  generalize rv p = x
  generalize rv q = y
  generalize (p.2 : Rat) = b at *
  generalize (q.2 : Rat) = d at *
  constructor
  · intro h
    have : 0 < (y - x) * (b * d) := Rat.mul_pos (by grind) h3
    grind
  · intro h
    apply Classical.byContradiction
    intro z
    have : 0 ≤ (x - y) * (b * d) := Rat.mul_nonneg (by grind) (by grind)
    grind
theorem rv_eq (hp : 0 < p.2) (hq : 0 < q.2) : rv p = rv q ↔ p.1 * q.2 = q.1 * p.2 := by
  have h1 : (p.2 : Rat) ≠ 0 := rc (by omega)
  have h2 : (q.2 : Rat) ≠ 0 := rc (by omega)
  have e3 : ((p.1 * q.2 : Int) : Rat) = ((q.1 * p.2 : Int) : Rat) ↔ p.1 * q.2 = q.1 * p.2 := by exact_mod_cast Iff.rfl
  rw [← e3]
  push_cast
  unfold rv
  constructor <;> intro h <;> grind
end
def gcdL (ns : List Int) : Nat := ns.foldr (fun n g => Nat.gcd n.natAbs g) 0
theorem gcdL_dvd : ∀ {ns : List Int} {n : Int}, n ∈ ns → (gcdL ns : Int) ∣ n
  | m :: ns, n, h => by
    have e : gcdL (m :: ns) = Nat.gcd m.natAbs (gcdL ns) := rfl
    rcases List.mem_cons.mp h with rfl | h
    · rw [e]; exact Int.natAbs_dvd_natAbs.mp (by simpa using Nat.gcd_dvd_left _ _)
    · exact Int.dvd_trans (by rw [e]; exact_mod_cast Nat.gcd_dvd_right _ _) (gcdL_dvd h)
theorem dvd_gcdL : ∀ {ns : List Int} {d : Nat}, (∀ n ∈ ns, (d : Int) ∣ n) → d ∣ gcdL ns
  | [], d, _ => Nat.dvd_zero d
  | m :: ns, d, h => by
    have e : gcdL (m :: ns) = Nat.gcd m.natAbs (gcdL ns) := rfl
    rw [e]
    refine Nat.dvd_gcd ?_ (dvd_gcdL fun n hn => h n (List.mem_cons_of_mem _ hn))
    have := Int.natAbs_dvd_natAbs.mpr (h m List.mem_cons_self)
    simpa using this
structure Prim (f : Rat) (xs : List Rat) : Prop where
  pos : 0 < f
  who : ∃ ns : List Int, xs.map (f * ·) = ns.map (fun n : Int => (n : Rat)) ∧ gcdL ns = 1
theorem rat_num_den (c : Rat) : c * (c.den : Rat) = (c.num : Rat) := by
  have h := Rat.num_divInt_den c
  rw [Rat.divInt_eq_div] at h
  have d0 : ((c.den : Int) : Rat) ≠ 0 := rc (by have := c.den_pos; omega)
  have e : ((c.den : Int) : Rat) = (c.den : Rat) := by push_cast; rfl
  rw [e] at h d0
  grind
theorem Prim.unique {f f' : Rat} {xs : List Rat} (h : Prim f xs) (h' : Prim f' xs) : f = f' := by
  obtain ⟨ns, e, g⟩ := h.who
  obtain ⟨ns', e', g'⟩ := h'.who
  have fp := h.pos
  have fp' := h'.pos
  obtain ⟨c, hc⟩ : ∃ c : Rat, c = f / f' := ⟨_, rfl⟩
  have hcf : c * f' = f := by rw [hc]; grind
  have c0 : 0 < c := by
    rw [hc, Rat.div_def]
    exact Rat.mul_pos fp (by exact Rat.inv_pos.mpr fp')
  have hl : ns.length = ns'.length := by
    have h1 := congrArg List.length e
    have h2 := congrArg List.length e'
    simp at h1 h2
    omega
  have key : ∀ (xs : List Rat) (ns ns' : List Int), xs.map (f * ·) = ns.map (fun n : Int => (n : Rat)) → xs.map (f' * ·) = ns'.map (fun n : Int => (n : Rat)) → ∀ (i : Nat) (n n' : Int), ns[i]? = some n → ns'[i]? = some n' → (n : Rat) = c * (n' : Rat) := by
    intro xs ns ns' e e' i n n' hn hn'
    have h1 := congrArg (·[i]?) e
    have h2 := congrArg (·[i]?) e'
    simp only [List.getElem?_map, hn, hn', Option.map_some] at h1 h2
    cases hx : xs[i]? with
    | none => rw [hx] at h1; cases h1
    | some x =>
      rw [hx] at h1 h2
      simp only [Option.map_some, Option.some.injEq] at h1 h2
      rw [← h1, ← h2, ← hcf]
      grind
  have k := key xs ns ns' e e'
  have cn := rat_num_den c
  have dd : (0 : Int) < (c.den : Int) := by have := c.den_pos; omega
  have num0 : 0 < c.num := by
    have h1 : 0 ≤ c.num := Rat.num_nonneg.mpr (by grind)
    have h2 : c.num ≠ 0 := fun z => by have := Rat.num_eq_zero.mp z; grind
    omega
  have step : ∀ (i : Nat) (n n' : Int), ns[i]? = some n → ns'[i]? = some n' → n * (c.den : Int) = c.num * n' := by
    intro i n n' hn hn'
    have z := k i n n' hn hn'
    have : (n : Rat) * (c.den : Rat) = (c.num : Rat) * (n' : Rat) := by rw [z, ← cn]; grind
    exact_mod_cast this
  have cop : Nat.Coprime c.num.natAbs c.den := c.reduced
  have d1 : c.num.natAbs ∣ gcdL ns := dvd_gcdL fun n hn => by
    obtain ⟨i, hi⟩ := List.mem_iff_getElem?.mp hn
    obtain ⟨n', hn'⟩ : ∃ n', ns'[i]? = some n' := by
      have : i < ns.length := by
        apply Classical.byContradiction
        intro z
        rw [List.getElem?_eq_none (by omega)] at hi
        cases hi
      exact ⟨_, List.getElem?_eq_getElem (by omega)⟩
    have z := step i n n' hi hn'
    have z2 : c.num.natAbs ∣ n.natAbs * c.den := ⟨n'.natAbs, by
      have := congrArg Int.natAbs z
      rw [Int.natAbs_mul, Int.natAbs_mul, Int.natAbs_natCast] at this
      exact this⟩
    have z3 := Nat.Coprime.dvd_of_dvd_mul_right cop z2
    exact Int.natAbs_dvd_natAbs.mp (by simpa using z3)
  have d2 : c.den ∣ gcdL ns' := dvd_gcdL fun n' hn' => by
    obtain ⟨i, hi⟩ := List.mem_iff_getElem?.mp hn'
    obtain ⟨n, hn⟩ : ∃ n, ns[i]? = some n := by
      have : i < ns'.length := by
        apply Classical.byContradiction
        intro z
        rw [List.getElem?_eq_none (by omega)] at hi
        cases hi
      exact ⟨_, List.getElem?_eq_getElem (by omega)⟩
    have z := step i n n' hn hi
    have z2 : c.den ∣ c.num.natAbs * n'.natAbs := ⟨n.natAbs, by
      have := congrArg Int.natAbs z
      rw [Int.natAbs_mul, Int.natAbs_mul, Int.natAbs_natCast] at this
      rw [Nat.mul_comm c.den, this]⟩
    have z3 := Nat.Coprime.dvd_of_dvd_mul_left cop.symm z2
    exact Int.natAbs_dvd_natAbs.mp (by simpa using z3)
  rw [g] at d1
  rw [g'] at d2
  have n1 : c.num = 1 := by have := Nat.dvd_one.mp d1; omega
  have n2 : c.den = 1 := Nat.dvd_one.mp d2
  rw [n1, n2] at cn
  have : c = 1 := by simpa using cn
  rw [← hcf, this]
  grind
theorem gcdL_neg : ∀ ns : List Int, gcdL (ns.map fun n => -n) = gcdL ns
  | [] => rfl
  | n :: ns => by
    have z := gcdL_neg ns
    simp only [gcdL, List.map_cons, List.foldr_cons, Int.natAbs_neg] at z ⊢
    rw [z]
theorem Prim.scale {f s : Rat} {xs : List Rat} (h : Prim f (xs.map (s * ·))) (hs : 0 < s) : Prim (f * s) xs := by
  obtain ⟨ns, e, g⟩ := h.who
  refine ⟨Rat.mul_pos h.pos hs, ns, ?_, g⟩
  rw [← e, List.map_map]
  apply List.map_congr_left
  intro x _
  simp only [Function.comp_apply]
  grind
theorem Prim.scale_neg {f s : Rat} {xs : List Rat} (h : Prim f (xs.map (s * ·))) (hs : s < 0) : Prim (f * -s) xs := by
  obtain ⟨ns, e, g⟩ := h.who
  refine ⟨Rat.mul_pos h.pos (by grind), ns.map fun n => -n, ?_, by rw [gcdL_neg, g]⟩
  have e2 := congrArg (List.map fun x : Rat => -x) e
  rw [List.map_map, List.map_map, List.map_map] at e2
  rw [List.map_map]
  refine Eq.trans (List.map_congr_left ?_) (e2.trans (List.map_congr_left ?_))
  · intro x _
    simp only [Function.comp_apply]
    grind
  · intro n _
    simp only [Function.comp_apply]
    push_cast
    rfl
end DL
namespace DL
theorem gcdL_mul (k : Int) : ∀ ns : List Int, gcdL (ns.map (k * ·)) = k.natAbs * gcdL ns
  | [] => by simp [gcdL]
  | n :: ns => by
    have z := gcdL_mul k ns
    have e1 : gcdL ((n :: ns).map (k * ·)) = Nat.gcd (k * n).natAbs (gcdL (ns.map (k * ·))) := rfl
    have e2 : gcdL (n :: ns) = Nat.gcd n.natAbs (gcdL ns) := rfl
    rw [e1, e2, z, Int.natAbs_mul, Nat.gcd_mul_left]
theorem prim_of {qs : List Qn} {C : Int} {S : Nat} (hC : 0 < C) (hS0 : 0 < S) (hd : ∀ q ∈ qs, 0 < q.2 ∧ q.2 ∣ C) (hS : gcdL (qs.map fun q => q.1 * (C / q.2)) = S) : Prim ((C : Rat) / ((S : Int) : Rat)) (qs.map rv) := by
  have cS : ((S : Int) : Rat) ≠ 0 := rc (by omega)
  have cS0 : (0 : Rat) < ((S : Int) : Rat) := by exact_mod_cast (by omega : (0 : Int) < (S : Int))
  have cC0 : (0 : Rat) < (C : Rat) := by exact_mod_cast hC
  have dv : ∀ q ∈ qs, (S : Int) ∣ q.1 * (C / q.2) := fun q hq => by
    rw [← hS]
    exact gcdL_dvd (List.mem_map.mpr ⟨q, hq, rfl⟩)
  refine ⟨by rw [Rat.div_def]; exact Rat.mul_pos cC0 (Rat.inv_pos.mpr cS0), qs.map fun q => q.1 * (C / q.2) / (S : Int), ?_, ?_⟩
  · rw [List.map_map, List.map_map]
    apply List.map_congr_left
    intro q hq
    obtain ⟨q0, y, hy⟩ := hd q hq
    obtain ⟨n, hn⟩ := dv q hq
    have e1 : C / q.2 = y := by rw [hy, Int.mul_ediv_cancel_left _ (by omega)]
    simp only [Function.comp_apply]
    rw [hn, Int.mul_ediv_cancel_left _ (by omega)]
    rw [e1] at hn
    have h1 : (q.1 : Rat) * (y : Rat) = ((S : Int) : Rat) * (n : Rat) := by exact_mod_cast hn
    have h2 : (C : Rat) = (q.2 : Rat) * (y : Rat) := by exact_mod_cast hy
    have h3 : (q.2 : Rat) ≠ 0 := rc (by omega)
    unfold rv
    rw [h2]
    grind
  · have e : qs.map (fun q => q.1 * (C / q.2)) = (qs.map fun q => q.1 * (C / q.2) / (S : Int)).map ((S : Int) * ·) := by
      rw [List.map_map]
      apply List.map_congr_left
      intro q hq
      simp only [Function.comp_apply]
      rw [Int.mul_ediv_cancel' (dv q hq)]
    rw [e, gcdL_mul] at hS
    simp only [Int.natAbs_natCast] at hS
    exact Nat.eq_of_mul_eq_mul_left hS0 (by rw [hS, Nat.mul_one])
theorem shM_eq (C : Int) : ∀ (ps : List Pt) (s : Nat), (∀ p ∈ ps, 0 < p.2.2) → 0 ≤ C → shM C ps s = Nat.gcd s (gcdL (ps.map fun p => p.2.1 * (C / p.2.2)))
  | [], s, _, _ => by simp [shM, gcdL]
  | p :: ps, s, h, hC => by
    have z := shM_eq C ps (Nat.gcd s (p.2.1.natAbs * (C / p.2.2).natAbs)) (fun q hq => h q (List.mem_cons_of_mem _ hq)) hC
    have e2 : gcdL ((p :: ps).map fun p => p.2.1 * (C / p.2.2)) = Nat.gcd (p.2.1 * (C / p.2.2)).natAbs (gcdL (ps.map fun p => p.2.1 * (C / p.2.2))) := rfl
    show shM C ps (Nat.gcd s (p.2.1.natAbs * (C / p.2.2).natAbs)) = _
    rw [z, e2, Int.natAbs_mul, Nat.gcd_assoc]
theorem comM_mem : ∀ {ps : List Pt} {c : Int} {p : Pt}, p ∈ ps → p.2.2 ∣ comM ps c
  | q :: ps, c, p, h => by
    rcases List.mem_cons.mp h with rfl | h
    · exact Int.dvd_trans (Int.dvd_mul_left c p.2.2) (comM_dvd ps (c * p.2.2))
    · exact comM_mem (c := c * q.2.2) h
theorem law_prim {ps : List Pt} (hne : ps ≠ []) (h : ∀ p ∈ ps, 0 < p.2.2 ∧ p.2.1 ≠ 0) : Prim (rv (nrm (comM ps 1) (shM (comM ps 1) ps 0))) (ps.map fun p => rv p.2) ∧ 0 < shM (comM ps 1) ps 0 := by
  have cpos : ∀ (ps : List Pt) (c : Int), (∀ p ∈ ps, 0 < p.2.2) → 0 < c → 0 < comM ps c := by
    intro ps
    induction ps with
    | nil => intro c _ h; exact h
    | cons p ps ih => intro c h h0; exact ih (c * p.2.2) (fun q hq => h q (List.mem_cons_of_mem _ hq)) (Int.mul_pos h0 (h p List.mem_cons_self))
  have C0 := cpos ps 1 (fun p hp => (h p hp).1) (by decide)
  have S := shM_eq (comM ps 1) ps 0 (fun p hp => (h p hp).1) (by omega)
  rw [Nat.gcd_zero_left] at S
  have S0 : 0 < shM (comM ps 1) ps 0 := by
    rw [S]
    apply Nat.pos_of_ne_zero
    intro z
    obtain ⟨p, ps', rfl⟩ : ∃ p ps', ps = p :: ps' := by
      cases ps with
      | nil => exact absurd rfl hne
      | cons p ps' => exact ⟨p, ps', rfl⟩
    have d := gcdL_dvd (ns := ((p :: ps').map fun q => q.2.1 * (comM (p :: ps') 1 / q.2.2))) (n := p.2.1 * (comM (p :: ps') 1 / p.2.2)) (List.mem_map.mpr ⟨p, List.mem_cons_self, rfl⟩)
    rw [z] at d
    have d0 : p.2.1 * (comM (p :: ps') 1 / p.2.2) = 0 := by simpa using d
    obtain ⟨h1, h2⟩ := h p List.mem_cons_self
    obtain ⟨y, hy⟩ := comM_mem (c := 1) (List.mem_cons_self : p ∈ p :: ps')
    rw [hy] at C0 d0
    rw [Int.mul_ediv_cancel_left _ (by omega)] at d0
    rcases Int.mul_eq_zero.mp d0 with z | z
    · exact h2 z
    · rw [z, Int.mul_zero] at C0; omega
  refine ⟨?_, S0⟩
  rw [rv_nrm (by omega)]
  have e : (ps.map fun p => rv p.2) = (ps.map (·.2)).map rv := by rw [List.map_map]; rfl
  rw [e]
  refine prim_of C0 S0 (fun q hq => ?_) ?_
  · obtain ⟨p, hp, rfl⟩ := List.mem_map.mp hq
    exact ⟨(h p hp).1, comM_mem hp⟩
  · rw [S, List.map_map]
    rfl
def gl : List Qn → Nat × Nat
  | [] => (0, 1)
  | q :: qs => (Nat.gcd q.1.natAbs (gl qs).1, Nat.lcm q.2.natAbs (gl qs).2)
theorem gl_step {t b G L : Nat} (h1 : Nat.Coprime t b) (h2 : Nat.Coprime G L) (b0 : 0 < b) (L0 : 0 < L) : Nat.gcd (t * (Nat.lcm b L / b)) (G * (Nat.lcm b L / L)) = Nat.gcd t G ∧ Nat.Coprime (Nat.gcd t G) (Nat.lcm b L) := by
  constructor
  · have d0 : 0 < Nat.gcd b L := Nat.gcd_pos_of_pos_left _ b0
    obtain ⟨b', hb⟩ := Nat.gcd_dvd_left b L
    obtain ⟨l', hl⟩ := Nat.gcd_dvd_right b L
    generalize hd : Nat.gcd b L = d at *
    have e1 : Nat.lcm b L / b = l' := by
      unfold Nat.lcm
      rw [hd]
      have : b * L / d = b * l' := by
        conv => lhs; rw [hl, ← Nat.mul_assoc, Nat.mul_comm b d, Nat.mul_assoc]
        exact Nat.mul_div_cancel_left _ d0
      rw [this, Nat.mul_div_cancel_left _ b0]
    have e2 : Nat.lcm b L / L = b' := by
      unfold Nat.lcm
      rw [hd]
      have : b * L / d = b' * L := by
        conv => lhs; rw [hb, Nat.mul_assoc]
        exact Nat.mul_div_cancel_left _ d0
      rw [this, Nat.mul_div_cancel _ L0]
    have cb : Nat.Coprime b' l' := by
      have z := Nat.coprime_div_gcd_div_gcd (m := b) (n := L) (by omega)
      rw [hd] at z
      have q1 : b / d = b' := by rw [hb]; exact Nat.mul_div_cancel_left _ d0
      have q2 : L / d = l' := by rw [hl]; exact Nat.mul_div_cancel_left _ d0
      rw [q1, q2] at z
      exact z
    rw [e1, e2]
    have c1 : Nat.Coprime t b' := Nat.Coprime.coprime_dvd_right ⟨d, by rw [hb, Nat.mul_comm]⟩ h1
    have c2 : Nat.Coprime G l' := Nat.Coprime.coprime_dvd_right ⟨d, by rw [hl, Nat.mul_comm]⟩ h2
    have c3 : Nat.Coprime b' (t * l') := Nat.Coprime.mul_right c1.symm cb
    rw [Nat.Coprime.gcd_mul_right_cancel_right G c3, Nat.Coprime.gcd_mul_right_cancel t c2.symm]
  · have c1 : Nat.Coprime (Nat.gcd t G) b := Nat.Coprime.coprime_dvd_left (Nat.gcd_dvd_left t G) h1
    have c2 : Nat.Coprime (Nat.gcd t G) L := Nat.Coprime.coprime_dvd_left (Nat.gcd_dvd_right t G) h2
    exact Nat.Coprime.coprime_dvd_right (Nat.lcm_dvd_mul b L) (Nat.Coprime.mul_right c1 c2)
theorem gl_all : ∀ {qs : List Qn}, (∀ q ∈ qs, Low q) → 0 < (gl qs).2 ∧ Nat.Coprime (gl qs).1 (gl qs).2 ∧ (∀ q ∈ qs, q.2 ∣ ((gl qs).2 : Int)) ∧ gcdL (qs.map fun q => q.1 * (((gl qs).2 : Int) / q.2)) = (gl qs).1
  | [], _ => ⟨by decide, by decide, fun q h => (by cases h), rfl⟩
  | q :: qs, h => by
    obtain ⟨i1, i2, i3, i4⟩ := gl_all (qs := qs) fun x hx => h x (List.mem_cons_of_mem _ hx)
    have hq := h q List.mem_cons_self
    have qp := hq.pos
    have hb : 0 < q.2.natAbs := by omega
    have eb : ((q.2.natAbs : Nat) : Int) = q.2 := by omega
    have e1 : (gl (q :: qs)).1 = Nat.gcd q.1.natAbs (gl qs).1 := rfl
    have e2 : (gl (q :: qs)).2 = Nat.lcm q.2.natAbs (gl qs).2 := rfl
    rw [e1, e2]
    generalize (gl qs).1 = G at *
    generalize (gl qs).2 = L at *
    obtain ⟨s1, s2⟩ := gl_step (t := q.1.natAbs) (b := q.2.natAbs) (G := G) (L := L) hq.co i2 hb i1
    have M0 : 0 < Nat.lcm q.2.natAbs L := Nat.lcm_pos hb i1
    have dL := Nat.dvd_lcm_right q.2.natAbs L
    have db := Nat.dvd_lcm_left q.2.natAbs L
    generalize Nat.lcm q.2.natAbs L = M at *
    have dbI : q.2 ∣ (M : Int) := by rw [← eb]; exact_mod_cast db
    refine ⟨M0, s2, fun x hx => ?_, ?_⟩
    · rcases List.mem_cons.mp hx with rfl | hx
      · exact dbI
      · exact Int.dvd_trans (i3 x hx) (by exact_mod_cast dL)
    · obtain ⟨y, hy⟩ := dL
      have eM : qs.map (fun x => x.1 * ((M : Int) / x.2)) = (qs.map fun x => x.1 * ((L : Int) / x.2)).map ((y : Int) * ·) := by
        rw [List.map_map]
        apply List.map_congr_left
        intro x hx
        obtain ⟨z, hz⟩ := i3 x hx
        have x0 := (h x (List.mem_cons_of_mem _ hx)).pos
        simp only [Function.comp_apply]
        rw [hy, Int.natCast_mul, hz, Int.mul_assoc, Int.mul_ediv_cancel_left _ (by omega), Int.mul_ediv_cancel_left _ (by omega)]
        ac_rfl
      show Nat.gcd (q.1 * ((M : Int) / q.2)).natAbs (gcdL (qs.map fun x => x.1 * ((M : Int) / x.2))) = _
      rw [eM, gcdL_mul, i4, Int.natAbs_natCast, Int.natAbs_mul]
      have f1 : ((M : Int) / q.2).natAbs = M / q.2.natAbs := by
        rw [← eb]
        have : (M : Int) / ((q.2.natAbs : Nat) : Int) = ((M / q.2.natAbs : Nat) : Int) := by exact_mod_cast rfl
        rw [this, Int.natAbs_natCast, Int.natAbs_natCast]
      have f2 : y = M / L := by rw [hy, Nat.mul_div_cancel_left _ i1]
      rw [f1, f2, Nat.mul_comm (M / L) G]
      exact s1
theorem gl_pos {q : Qn} {qs : List Qn} (h : q.1 ≠ 0) : 0 < (gl (q :: qs)).1 := Nat.gcd_pos_of_pos_left _ (by omega)
theorem prog_prim {q : Qn} {qs : List Qn} (h : ∀ x ∈ q :: qs, Low x) (h0 : q.1 ≠ 0) : Prim (rv (nrm ((gl (q :: qs)).2 : Int) ((gl (q :: qs)).1 : Int))) ((q :: qs).map rv) := by
  obtain ⟨i1, i2, i3, i4⟩ := gl_all h
  have g0 := gl_pos (qs := qs) h0
  rw [rv_nrm (by omega)]
  exact prim_of (by omega) g0 (fun x hx => ⟨(h x hx).pos, i3 x hx⟩) i4
end DL
namespace DL
open PySem PySem.Spec PyProof.Rows L2 RT
theorem lcm_bt {a b : Nat} {n k : Nat} (ha : Bt n (a : Int)) (hb : Bt k (b : Int)) : Bt (n + k) ((Nat.lcm a b : Nat) : Int) := by
  have := ha.mul hb
  refine this.le ?_
  rw [Int.natAbs_mul, Int.natAbs_natCast, Int.natAbs_natCast, Int.natAbs_natCast]
  exact Nat.div_le_self _ _
theorem whole_loop {e0 : Ent} : ∀ (qs : List Qn) {n k : Nat} (G L : Nat) (e3 e4 : Ent), (∀ q ∈ qs, Sz n q) → Bt k (L : Int) → 0 < k → n ≤ 8000 → k + n * qs.length ≤ 8000 →
    ∃ e3' e4', loopS (tupT 2 (consTs (nameT 3) (consTs (nameT 4) nilTs))) PG.L_whole_factor_1 (qs.map N) [e0, .d (.int (G : Int)), .d (.int (L : Int)), e3, e4] = .nx [e0, .d (.int ((Nat.gcd G (gl qs).1 : Nat) : Int)), .d (.int ((Nat.lcm L (gl qs).2 : Nat) : Int)), e3', e4']
  | [], n, k, G, L, e3, e4, _, _, _, _, _ => ⟨e3, e4, by simp [gl]⟩
  | q :: qs, n, k, G, L, e3, e4, h, hb, k0, hn, hk => by
    have h1 := h q List.mem_cons_self
    have e : n * (q :: qs).length = n * qs.length + n := Nat.mul_succ _ _
    rw [e] at hk
    have hl : Bt (k + n) ((Nat.lcm L q.2.natAbs : Nat) : Int) := lcm_bt hb (bt_nat h1.b2)
    obtain ⟨e3', e4', z⟩ := whole_loop qs (n := n) (k := k + n) (Nat.gcd G q.1.natAbs) (Nat.lcm L q.2.natAbs) (.d (.int q.1)) (.d (.int q.2)) (fun x hx => h x (List.mem_cons_of_mem _ hx)) hl (by omega) hn (by omega)
    refine ⟨e3', e4', ?_⟩
    have c : bLcm (.int (L : Int)) (.int q.2) = some (.int ((Nat.lcm L q.2.natAbs : Nat) : Int)) := bLcm_ok (n := 9000) (hb.mono (by omega)) (h1.b2.mono (by omega)) (by decide) (by decide)
    rw [List.map_cons, loopS_cons (ρ1 := [e0, .d (.int (G : Int)), .d (.int (L : Int)), .d (.int q.1), .d (.int q.2)]) (by simp)]
    simp only [gl]
    rw [← Nat.gcd_assoc, ← Nat.lcm_assoc]
    simp [PG.L_whole_factor_1, c]
    exact z
theorem gl_bt : ∀ {qs : List Qn} {n : Nat}, (∀ q ∈ qs, Sz n q) → Bt (n * qs.length + 1) ((gl qs).2 : Int)
  | [], n, _ => by simp [gl]; unfold Bt; decide
  | q :: qs, n, h => by
    have z := gl_bt (qs := qs) (n := n) fun x hx => h x (List.mem_cons_of_mem _ hx)
    have e : n * (q :: qs).length + 1 = n + (n * qs.length + 1) := by rw [List.length_cons, Nat.mul_succ]; omega
    rw [e]
    exact lcm_bt (bt_nat (h q List.mem_cons_self).b2) z
theorem gl_bt1 {q : Qn} {qs : List Qn} {n : Nat} (h : Sz n q) (h0 : q.1 ≠ 0) : Bt n ((gl (q :: qs)).1 : Int) := by
  refine h.b1.le ?_
  rw [Int.natAbs_natCast]
  exact Nat.gcd_le_left _ (by omega)
def wfM (qs : List Qn) : Qn := nrm ((gl qs).2 : Int) ((gl qs).1 : Int)
theorem pg_whole {q : Qn} {qs : List Qn} {n : Nat} (h : ∀ x ∈ q :: qs, Sz n x) (h0 : q.1 ≠ 0) (hn : n * (qs.length + 1) + 1 ≤ 8000) :
    PG.B_whole_factor (.list ((q :: qs).map N)) = .ok (N (wfM (q :: qs))) ∧ Sz (n * (qs.length + 1) + 1) (wfM (q :: qs)) := by
  have n1 : n * 1 ≤ n * (qs.length + 1) := Nat.mul_le_mul_left _ (by omega)
  obtain ⟨e3, e4, L⟩ := whole_loop (e0 := .d (.list ((q :: qs).map N))) (q :: qs) (n := n) (k := 1) 0 1 .un .un h (by unfold Bt; decide) (by decide) (by omega) (by simp only [List.length_cons]; omega)
  rw [Nat.gcd_zero_left, Nat.lcm_one_left] at L
  have g0 := gl_pos (qs := qs) h0
  have b1 : Bt n ((gl (q :: qs)).1 : Int) := gl_bt1 (h q List.mem_cons_self) h0
  have b2 : Bt (n * (qs.length + 1) + 1) ((gl (q :: qs)).2 : Int) := gl_bt h
  have en : PG.m_number [.int ((gl (q :: qs)).2 : Int), .int ((gl (q :: qs)).1 : Int)] = .ok (N (wfM (q :: qs))) := pg_number (by omega) (b1.mono (by omega))
  refine ⟨?_, .nrm (by omega) b2 (b1.mono (by omega))⟩
  rw [show ((0 : Nat) : Int) = 0 from rfl, show ((1 : Nat) : Int) = 1 from rfl] at L
  simp only [List.map_cons] at L ⊢
  simp [PG.B_whole_factor, PG.S_whole_factor, L, en]
theorem sgn_low {b : Bool} {f : Qn} (h : Low f) : Low (sgnM b f) := by
  unfold sgnM
  split
  · exact low_nrm (Int.mul_ne_zero (by have := h.pos; omega) (by decide))
  · exact h
theorem rv_sgn {b : Bool} {f : Qn} (h : Low f) : rv (sgnM b f) = if b = true then -rv f else rv f := by
  unfold sgnM
  split
  · rw [rv_mul (by decide) (by have := h.pos; omega)]
    have : rv (-1, 1) = -1 := by unfold rv; push_cast; grind
    rw [this]
    grind
  · rfl
def facQ (r : Rw) : List Qn := match r.1 with
  | [] => [r.2.2]
  | p :: ps => (p :: ps).map (·.2)
structure LowR (r : Rw) : Prop where
  ps : ∀ p ∈ r.1, Low p.2 ∧ p.2.1 ≠ 0
  bd : Low r.2.2
theorem low0 {q : Qn} (h : Low q) (h0 : q.1 = 0) : q = (0, 1) := by
  obtain ⟨a, b⟩ := q
  obtain ⟨h1, h2⟩ := h
  simp only at h0 h1 h2
  subst h0
  simp at h2
  have : b = 1 := by omega
  rw [this]
theorem fac_eq1 {q : Qn} (h : Low q) (h0 : q.1 ≠ 0) : wfM [q] = qdiv (1, 1) (nrm (q.1.natAbs : Int) q.2) := by
  have q0 : q.2 ≠ 0 := by have := h.pos; omega
  have t0 : (q.1.natAbs : Int) ≠ 0 := by omega
  have n1 : (nrm (q.1.natAbs : Int) q.2).2 ≠ 0 := by have := nrm_pos (t := (q.1.natAbs : Int)) q0; omega
  have n0 : (nrm (q.1.natAbs : Int) q.2).1 ≠ 0 := by
    intro z
    have := nrm_cross (t := (q.1.natAbs : Int)) q0
    rw [z, Int.zero_mul] at this
    have := Int.mul_ne_zero t0 n1
    omega
  have e1 : ((gl [q]).2 : Int) = q.2 := by simp [gl]; have := h.pos; omega
  have e2 : ((gl [q]).1 : Int) = (q.1.natAbs : Int) := by simp [gl]
  unfold wfM
  rw [e1, e2]
  refine rv_ext (low_nrm t0) (low_nrm (Int.mul_ne_zero (by decide) n0)) ?_
  rw [rv_nrm t0, rv_div n0 (by decide) n1, rv_nrm q0]
  have : rv (1, 1) = 1 := by unfold rv; push_cast; grind
  rw [this]
  have r1 := rc t0
  have r2 := rc q0
  grind
theorem fac_eq2 {p : Pt} {ps : List Pt} (h : ∀ x ∈ p :: ps, Low x.2 ∧ x.2.1 ≠ 0) : wfM ((p :: ps).map (·.2)) = nrm (comM (p :: ps) 1) (shM (comM (p :: ps) 1) (p :: ps) 0) := by
  obtain ⟨l1, l2⟩ := law_prim (ps := p :: ps) (by simp) fun x hx => ⟨(h x hx).1.pos, (h x hx).2⟩
  have l3 := prog_prim (q := p.2) (qs := ps.map (·.2)) (fun x hx => by
    rcases List.mem_cons.mp hx with rfl | hx
    · exact (h p List.mem_cons_self).1
    · obtain ⟨y, hy, rfl⟩ := List.mem_map.mp hx
      exact (h y (List.mem_cons_of_mem _ hy)).1) (h p List.mem_cons_self).2
  have g0 := gl_pos (qs := ps.map (·.2)) (h p List.mem_cons_self).2
  refine rv_ext (low_nrm (by simp only [List.map_cons]; omega)) (low_nrm (by omega)) (Prim.unique l3 ?_)
  simpa [Function.comp_def] using l1
end DL
namespace DL
open PySem PySem.Spec PyProof.Rows L2 RT
theorem pg_multiplied {ps : List Pt} {f : Qn} (h : ∀ p ∈ ps, Sz 4000 p.2) (hf : Sz 4000 f) (hl : ps.length ≤ 1000) : PG.B_multiplied (psD ps) (N f) = .ok (psD (ps.map fun p => (p.1, qmul p.2 f))) := by
  have c : compL (tupT 2 (consTs (nameT 2) (consTs (nameT 3) nilTs))) yesT (tupF (consA (varF 2) (consA (callF PG.m_times (consA (varF 3) (consA (varF 1) nilA))) nilA))) [.d (psD ps), .d (N f), .un, .un] (ps.map pD) [] = some ((ps.map fun p => (p.1, qmul p.2 f)).map pD) := by
    rw [compL_map pD (fun p => pD (p.1, qmul p.2 f)) ps (fun p hp => ?_) (by omega)]
    · simp
    · have e : PG.m_times [.tuple [.int p.2.1, .int p.2.2], .tuple [.int f.1, .int f.2]] = .ok (N (qmul p.2 f)) := pg_times (h p hp) hf
      simp [e]
  simp [PG.B_multiplied, PG.S_multiplied, c]
theorem neg_eq {f : Qn} (h : Low f) : qsub (0, 1) f = qmul f (-1, 1) := by
  have f0 : f.2 ≠ 0 := by have := h.pos; omega
  refine rv_ext (low_nrm (Int.mul_ne_zero (by decide) f0)) (low_nrm (Int.mul_ne_zero f0 (by decide))) ?_
  rw [rv_sub f0 (by decide), rv_mul (by decide) f0]
  have h0 : rv (0, 1) = 0 := by unfold rv; push_cast; grind
  have h1 : rv (-1, 1) = -1 := by unfold rv; push_cast; grind
  rw [h0, h1]
  grind
theorem pg_normal_factor {r : Rw} {n : Nat} (h : SzR n r) (hL : LowR r) (hs : PySem.PyData.strOk r.2.1 = true) (hl : r.1.length ≤ 100) (hn : n * (r.1.length + 2) + 4 ≤ 3900) :
    PG.B_normal_factor (rD r) = .ok (N (factorM r)) := by
  obtain ⟨ps, sg, bd⟩ := r
  obtain ⟨hp, hb⟩ := h
  obtain ⟨lp, lb⟩ := hL
  simp only at hp hb lp lb hs hl hn ⊢
  have key : ∀ (q : Qn) (qs : List Qn), (∀ x ∈ q :: qs, Sz n x) → q.1 ≠ 0 → n * (qs.length + 1) + 4 ≤ 3900 → Low q →
      PG.m_whole_factor [.list ((q :: qs).map N)] = .ok (N (wfM (q :: qs))) ∧ PG.m_compare [.tuple [.int q.1, .int q.2], .tuple [.int 0, .int 1]] = .ok (.int (if q.1 < 0 then -1 else if 0 < q.1 then 1 else 0)) ∧ PG.m_minus [.tuple [.int 0, .int 1], .tuple [.int (wfM (q :: qs)).1, .int (wfM (q :: qs)).2]] = .ok (N (qmul (wfM (q :: qs)) (-1, 1))) := by
    intro q qs hx h0 hk hlq
    have n1 : n * 1 ≤ n * (qs.length + 1) := Nat.mul_le_mul_left _ (by omega)
    obtain ⟨e1, z1⟩ := pg_whole hx h0 (by omega)
    refine ⟨e1, ?_, ?_⟩
    · rw [← qcmp0]
      exact pg_compare ((hx q List.mem_cons_self).mono (by omega)) (sz01.mono (by decide))
    · rw [← neg_eq]
      · exact pg_minus (sz01.mono (by decide)) (z1.mono (by omega))
      · exact low_nrm (by have := gl_pos (qs := qs) h0; omega)
  cases ps with
  | nil =>
    by_cases b0 : bd.1 = 0
    · have := low0 lb b0
      subst this
      simp [PG.B_normal_factor, PG.S_normal_factor, factorM]
    · obtain ⟨k1, k2, k3⟩ := key bd [] (fun x hx => by rw [List.mem_singleton.mp hx]; exact hb) b0 (by simp at hn ⊢; omega) lb
      have fe := fac_eq1 lb b0
      simp only [List.map_cons, List.map_nil] at k1
      rw [fe] at k1 k3
      have be : (bd.1 == 0 && bd.2 == 1) = false := by simp [b0]
      cases hq : (sg == "=") with
      | false => simp [PG.B_normal_factor, PG.S_normal_factor, factorM, b0, compL, k1, k2, dEq_s hs ok_eq, hq, sgnM]
      | true =>
        by_cases h0 : bd.1 < 0
        · rw [if_pos h0] at k2
          simp [PG.B_normal_factor, PG.S_normal_factor, factorM, b0, compL, k1, k2, k3, dEq_s hs ok_eq, hq, sgnM, h0]
        · rw [if_neg h0, if_pos (by omega)] at k2
          simp [PG.B_normal_factor, PG.S_normal_factor, factorM, b0, compL, k1, k2, dEq_s hs ok_eq, hq, sgnM, h0]
  | cons p ps =>
    obtain ⟨k1, k2, k3⟩ := key p.2 (ps.map (·.2)) (fun x hx => by
      rcases List.mem_cons.mp hx with rfl | hx
      · exact hp p List.mem_cons_self
      · obtain ⟨y, hy, rfl⟩ := List.mem_map.mp hx
        exact hp y (List.mem_cons_of_mem _ hy)) (lp p List.mem_cons_self).2 (by
        have e : n * (ps.length + 1 + 2) = n * (ps.length + 1) + n * 2 := Nat.mul_add _ _ _
        simp only [List.length_cons, List.length_map] at hn ⊢
        omega) (lp p List.mem_cons_self).1
    have fe := fac_eq2 lp
    have c : compL (tupT 2 (consTs (nameT 5) (consTs (nameT 6) nilTs))) yesT (varF 6) [.d (rD (p :: ps, sg, bd)), .d (psD (p :: ps)), .d (.str sg), .d (N bd), .un, .un, .un, .un] ((p :: ps).map pD) [] = some ((p.2 :: ps.map (·.2)).map N) := by
      rw [compL_map pD (fun p => N p.2) (p :: ps) (fun p hp => ?_) (by omega)]
      · simp
      · simp
    simp only [List.map_cons] at c k1 k3 fe
    rw [fe] at k1 k3
    generalize (ps.map (·.2)).map N = Z at c k1
    have hi : ∀ l, dIx (.list (.tuple [.int p.2.1, .int p.2.2] :: l)) (.int 0) = some (.tuple [.int p.2.1, .int p.2.2]) := fun l => dIx_l0
    cases hq : (sg == "=") with
    | false => simp [PG.B_normal_factor, PG.S_normal_factor, factorM, c, k1, k2, dEq_s hs ok_eq, hq, sgnM]
    | true =>
      by_cases h0 : p.2.1 < 0
      · rw [if_pos h0] at k2
        simp [PG.B_normal_factor, PG.S_normal_factor, factorM, c, k1, k2, k3, dEq_s hs ok_eq, hq, sgnM, h0]
      · have := (lp p List.mem_cons_self).2
        rw [if_neg h0, if_pos (by omega)] at k2
        simp [PG.B_normal_factor, PG.S_normal_factor, factorM, c, k1, k2, dEq_s hs ok_eq, hq, sgnM, h0]
end DL
namespace DL
open PySem PySem.Spec PyProof.Rows L2 RT
theorem rv01 : rv (0, 1) = 0 := by unfold rv; push_cast; grind
theorem rv11 : rv (1, 1) = 1 := by unfold rv; push_cast; grind
theorem rvm1 : rv (-1, 1) = -1 := by unfold rv; push_cast; grind
theorem rv_neg {q : Qn} (h : 0 < q.2) : q.1 < 0 ↔ rv q < 0 := by
  have := rv_lt (p := q) (q := (0, 1)) h (by decide)
  rw [rv01] at this
  rw [this]
  simp
theorem rv_nz {q : Qn} (h : 0 < q.2) : q.1 = 0 ↔ rv q = 0 := by
  rw [rv_zero]
  constructor
  · exact .inl
  · rintro (h1 | h1)
    · exact h1
    · omega
structure PosR (r : Rw) : Prop where
  ps : ∀ p ∈ r.1, 0 < p.2.2 ∧ p.2.1 ≠ 0
  bd : 0 < r.2.2.2
theorem prim_one {x : Rat} (h : x ≠ 0) {f : Rat} (h1 : 0 < f) (h2 : f * x = 1 ∨ f * x = -1) : Prim f [x] := by
  refine ⟨h1, ?_⟩
  rcases h2 with h2 | h2
  · exact ⟨[1], by simp [h2], by decide⟩
  · exact ⟨[-1], by simp [h2], by decide⟩
theorem fac_rv {r : Rw} (h : PosR r) {q : Qn} {qs : List Qn} (e : facQ r = q :: qs) (h0 : q.1 ≠ 0) : ∃ f, Prim f ((q :: qs).map rv) ∧ rv (factorM r) = (if (r.2.1 == "=" && decide (q.1 < 0)) = true then -f else f) ∧ Low (factorM r) := by
  obtain ⟨ps, sg, bd⟩ := r
  obtain ⟨hp, hb⟩ := h
  simp only at hp hb ⊢
  cases ps with
  | nil =>
    simp only [facQ, List.cons.injEq] at e
    obtain ⟨rfl, rfl⟩ := e
    have q0 : bd.2 ≠ 0 := by omega
    have t0 : (bd.1.natAbs : Int) ≠ 0 := by omega
    have n1 : (nrm (bd.1.natAbs : Int) bd.2).2 ≠ 0 := by have := nrm_pos (t := (bd.1.natAbs : Int)) q0; omega
    have n0 : (nrm (bd.1.natAbs : Int) bd.2).1 ≠ 0 := by
      intro z
      have := nrm_cross (t := (bd.1.natAbs : Int)) q0
      rw [z, Int.zero_mul] at this
      have := Int.mul_ne_zero t0 n1
      omega
    have lw : Low (qdiv (1, 1) (nrm (bd.1.natAbs : Int) bd.2)) := low_nrm (Int.mul_ne_zero (by decide) n0)
    simp only [factorM, if_neg h0]
    refine ⟨rv (qdiv (1, 1) (nrm (bd.1.natAbs : Int) bd.2)), ?_, rv_sgn lw, sgn_low lw⟩
    rw [rv_div n0 (by decide) n1, rv_nrm q0, rv11]
    have r1 := rc t0
    have r2 := rc q0
    have p1 : (0 : Rat) < ((bd.1.natAbs : Int) : Rat) := by exact_mod_cast (by omega : (0 : Int) < (bd.1.natAbs : Int))
    have p2 : (0 : Rat) < (bd.2 : Rat) := by exact_mod_cast hb
    have ne : rv bd ≠ 0 := fun z => h0 ((rv_nz hb).mpr z)
    refine prim_one ne ?_ ?_
    · have : (1 : Rat) / (((bd.1.natAbs : Int) : Rat) / (bd.2 : Rat)) = (bd.2 : Rat) * (((bd.1.natAbs : Int) : Rat))⁻¹ := by grind
      rw [this]
      exact Rat.mul_pos p2 (Rat.inv_pos.mpr p1)
    · unfold rv
      have : bd.1 = (bd.1.natAbs : Int) ∨ bd.1 = -(bd.1.natAbs : Int) := by omega
      rcases this with h | h
      · left
        have hh : (bd.1 : Rat) = ((bd.1.natAbs : Int) : Rat) := by exact_mod_cast h
        rw [hh]
        grind
      · right
        have hh : (bd.1 : Rat) = -((bd.1.natAbs : Int) : Rat) := by exact_mod_cast h
        rw [hh]
        grind
  | cons p ps =>
    simp only [facQ, List.map_cons, List.cons.injEq] at e
    obtain ⟨rfl, rfl⟩ := e
    obtain ⟨l1, l2⟩ := law_prim (ps := p :: ps) (by simp) hp
    have lw : Low (nrm (comM (p :: ps) 1) (shM (comM (p :: ps) 1) (p :: ps) 0)) := low_nrm (by omega)
    simp only [factorM]
    refine ⟨rv (nrm (comM (p :: ps) 1) (shM (comM (p :: ps) 1) (p :: ps) 0)), ?_, rv_sgn lw, sgn_low lw⟩
    simpa [Function.comp_def] using l1
theorem facQ_scale (r : Rw) (f : Qn) : facQ (scaleM r f) = (facQ r).map fun q => qmul q f := by
  obtain ⟨ps, sg, bd⟩ := r
  cases ps with
  | nil => simp [facQ, scaleM]
  | cons p ps => simp [facQ, scaleM]
theorem facQ_cons (r : Rw) : ∃ q qs, facQ r = q :: qs := by
  obtain ⟨ps, sg, bd⟩ := r
  cases ps with
  | nil => exact ⟨_, _, rfl⟩
  | cons p ps => exact ⟨_, _, rfl⟩
theorem facQ_pos {r : Rw} (h : PosR r) : ∀ q ∈ facQ r, 0 < q.2 := by
  obtain ⟨ps, sg, bd⟩ := r
  cases ps with
  | nil => intro q hq; rw [List.mem_singleton.mp hq]; exact h.bd
  | cons p ps =>
    intro q hq
    obtain ⟨x, hx, rfl⟩ := List.mem_map.mp hq
    exact (h.ps x hx).1
theorem qmul_nz {p f : Qn} (h : p.1 ≠ 0) (hp : 0 < p.2) (hf : f.1 ≠ 0) (hf2 : 0 < f.2) : (qmul p f).1 ≠ 0 := by
  have hh : (qmul p f).2 ≠ 0 := by have := nrm_pos (t := p.1 * f.1) (b := p.2 * f.2) (Int.mul_ne_zero (by omega) (by omega)); unfold qmul; omega
  intro z
  have h1 : rv (qmul p f) = 0 := (rv_zero).mpr (.inl z)
  rw [rv_mul (by omega) (by omega)] at h1
  have h2 : rv p ≠ 0 := fun z => h ((rv_nz hp).mpr z)
  have h3 : rv f ≠ 0 := fun z => hf ((rv_nz hf2).mpr z)
  have := Rat.mul_eq_zero.mp h1
  grind
theorem qmul_pos {p f : Qn} (hp : 0 < p.2) (hf2 : 0 < f.2) : 0 < (qmul p f).2 := nrm_pos (Int.mul_ne_zero (by omega) (by omega))
theorem PosR.scale {r : Rw} {f : Qn} (h : PosR r) (hf : f.1 ≠ 0) (hf2 : 0 < f.2) : PosR (scaleM r f) := by
  refine ⟨fun p hp => ?_, qmul_pos h.bd hf2⟩
  obtain ⟨x, hx, rfl⟩ := List.mem_map.mp hp
  obtain ⟨h1, h2⟩ := h.ps x hx
  exact ⟨qmul_pos h1 hf2, qmul_nz h2 h1 hf hf2⟩
theorem factor_inv {r0 : Rw} {c : Qn} (h : PosR r0) (hc : c.1 ≠ 0) (hc2 : 0 < c.2) (hs : (r0.2.1 == "=") = false → 0 < c.1) {q : Qn} {qs : List Qn} (e : facQ r0 = q :: qs) (h0 : q.1 ≠ 0) :
    rv c * rv (factorM (scaleM (normM r0) c)) = 1 ∧ Low (factorM (scaleM (normM r0) c)) ∧ Low (factorM r0) := by
  obtain ⟨f, P, E, L⟩ := fac_rv h e h0
  have q2 : 0 < q.2 := facQ_pos h q (by rw [e]; exact List.mem_cons_self)
  have F2 := L.pos
  have f0 := P.pos
  have hF : (factorM r0).1 ≠ 0 := by
    intro z
    have := (rv_zero (q := factorM r0)).mpr (.inl z)
    rw [E] at this
    split at this <;> grind
  have h1 : PosR (normM r0) := h.scale hF F2
  have h2 : PosR (scaleM (normM r0) c) := h1.scale hc hc2
  have e2 : facQ (scaleM (normM r0) c) = qmul (qmul q (factorM r0)) c :: (qs.map fun x => qmul (qmul x (factorM r0)) c) := by
    unfold normM
    rw [facQ_scale, facQ_scale, e]
    simp
  have x0 : (qmul q (factorM r0)).1 ≠ 0 := qmul_nz h0 q2 hF F2
  have x2 : 0 < (qmul q (factorM r0)).2 := qmul_pos q2 F2
  obtain ⟨f', P', E', L'⟩ := fac_rv h2 e2 (qmul_nz x0 x2 hc hc2)
  refine ⟨?_, L', L⟩
  have sg2 : (scaleM (normM r0) c).2.1 = r0.2.1 := rfl
  rw [sg2] at E'
  have g0 := P'.pos
  have allpos := facQ_pos h
  rw [e] at allpos
  have EX : (qmul (qmul q (factorM r0)) c :: (qs.map fun x => qmul (qmul x (factorM r0)) c)).map rv = ((q :: qs).map rv).map ((rv (factorM r0) * rv c) * ·) := by
    rw [show (qmul (qmul q (factorM r0)) c :: (qs.map fun x => qmul (qmul x (factorM r0)) c)) = (q :: qs).map fun x => qmul (qmul x (factorM r0)) c from rfl, List.map_map, List.map_map]
    apply List.map_congr_left
    intro x hx
    have xp := allpos x hx
    simp only [Function.comp_apply]
    rw [rv_mul (by omega) (by have := qmul_pos xp F2; omega), rv_mul (by omega) (by omega)]
    grind
  rw [EX] at P'
  have rc0 : rv c ≠ 0 := fun z => hc ((rv_nz hc2).mpr z)
  have rF0 : rv (factorM r0) ≠ 0 := fun z => hF ((rv_nz F2).mpr z)
  have sgx : (qmul (qmul q (factorM r0)) c).1 < 0 ↔ rv q * rv (factorM r0) * rv c < 0 := by
    rw [rv_neg (qmul_pos x2 hc2), rv_mul (by omega) (by omega), rv_mul (by omega) (by omega)]
  have sq : q.1 < 0 ↔ rv q < 0 := rv_neg q2
  have rq0 : rv q ≠ 0 := fun z => h0 ((rv_nz q2).mpr z)
  have main : f' * (if rv (factorM r0) * rv c < 0 then -(rv (factorM r0) * rv c) else rv (factorM r0) * rv c) = f := by
    have s0 : rv (factorM r0) * rv c ≠ 0 := fun z => by
      rcases Rat.mul_eq_zero.mp z with z | z
      · exact rF0 z
      · exact rc0 z
    split
    · rename_i hneg
      exact Prim.unique (P'.scale_neg hneg) P
    · rename_i hneg
      exact Prim.unique (P'.scale (by grind)) P
  have msign : ∀ a b : Rat, 0 < a → (a * b < 0 ↔ b < 0) := fun a b ha => by
    constructor
    · intro h
      apply Classical.byContradiction
      intro z
      have := Rat.mul_nonneg (show 0 ≤ a by grind) (show 0 ≤ b by grind)
      grind
    · intro h
      have := Rat.mul_pos ha (show 0 < -b by grind)
      grind
  have cancel : ∀ x : Rat, f' * (f * x) = f → f' * x = 1 := fun x hx => by
    have : f * (f' * x - 1) = 0 := by grind
    rcases Rat.mul_eq_zero.mp this with z | z <;> grind
  cases hq : (r0.2.1 == "=") with
  | false =>
    rw [hq] at E E'
    simp only [Bool.false_and, Bool.false_eq_true, if_false] at E E'
    have c0 : 0 < rv c := by
      have := hs hq
      have h1 : ¬ rv c < 0 := fun z => by have := (rv_neg hc2).mpr z; omega
      grind
    rw [E] at main
    rw [E']
    have : ¬ f * rv c < 0 := by rw [msign f _ f0]; grind
    rw [if_neg this] at main
    have := cancel _ main
    grind
  | true =>
    rw [hq] at E E'
    simp only [Bool.true_and, decide_eq_true_eq] at E E'
    simp only [sgx] at E'
    simp only [sq] at E
    by_cases hn : rv q < 0
    · rw [if_pos hn] at E
      rw [E] at main E'
      have p1 : 0 < rv q * -f := by
        have := Rat.mul_pos (show 0 < -rv q by grind) f0
        grind
      simp only [msign _ _ p1] at E'
      have k1 : -f * rv c < 0 ↔ ¬ rv c < 0 := by
        have := msign f (-rv c) f0
        have e : f * -rv c = -f * rv c := by grind
        rw [e] at this
        rw [this]
        constructor <;> intro h <;> grind
      by_cases hcn : rv c < 0
      · rw [if_pos hcn] at E'
        rw [if_neg (by rw [k1]; exact fun z => z hcn)] at main
        rw [E']
        have := cancel (-rv c) (by grind)
        grind
      · rw [if_neg hcn] at E'
        rw [if_pos (k1.mpr hcn)] at main
        rw [E']
        have := cancel (rv c) (by grind)
        grind
    · rw [if_neg hn] at E
      rw [E] at main E'
      have p1 : 0 < rv q * f := Rat.mul_pos (by grind) f0
      simp only [msign _ _ p1] at E'
      simp only [msign f _ f0] at main
      by_cases hcn : rv c < 0
      · rw [if_pos hcn] at E' main
        rw [E']
        have := cancel (-rv c) (by grind)
        grind
      · rw [if_neg hcn] at E' main
        rw [E']
        have := cancel (rv c) (by grind)
        grind
end DL
namespace DL
open PySem PySem.Spec PyProof.Rows L2 RT
theorem norm_inv {r0 : Rw} {c : Qn} (h : PosR r0) (hc : c.1 ≠ 0) (hc2 : 0 < c.2) (hs : (r0.2.1 == "=") = false → 0 < c.1) : normM (scaleM (normM r0) c) = normM r0 := by
  obtain ⟨q, qs, e⟩ := facQ_cons r0
  have c0 : c.2 ≠ 0 := by omega
  by_cases h0 : q.1 = 0
  · obtain ⟨ps, sg, bd⟩ := r0
    cases ps with
    | cons p ps =>
      simp only [facQ, List.map_cons, List.cons.injEq] at e
      exact absurd (by rw [e.1]; exact h0) (h.ps p List.mem_cons_self).2
    | nil =>
      simp only [facQ, List.cons.injEq] at e
      obtain ⟨rfl, rfl⟩ := e
      have bp := h.bd
      simp only at bp
      have F0 : factorM ([], sg, bd) = (1, 1) := by simp [factorM, h0]
      have z1 : (qmul bd (1, 1)).1 = 0 := by
        have hp := qmul_pos bp (f := (1, 1)) (by decide)
        rw [rv_nz hp, rv_mul (by decide) (by omega), (rv_nz bp).mp h0]
        grind
      have z2 : (qmul (qmul bd (1, 1)) c).1 = 0 := by
        have hp := qmul_pos bp (f := (1, 1)) (by decide)
        rw [rv_nz (qmul_pos hp hc2), rv_mul (by omega) (by omega), (rv_nz hp).mp z1]
        grind
      have hp1 := qmul_pos bp (f := (1, 1)) (by decide)
      have hp2 := qmul_pos hp1 hc2
      have l1 : Low (qmul bd (1, 1)) := low_nrm (Int.mul_ne_zero (by omega) (by decide))
      have l2 : Low (qmul (qmul (qmul bd (1, 1)) c) (1, 1)) := low_nrm (Int.mul_ne_zero (by omega) (by decide))
      have F1 : factorM (scaleM (normM ([], sg, bd)) c) = (1, 1) := by
        simp [normM, scaleM, factorM, F0, h0, z2]
      have : qmul (qmul (qmul bd (1, 1)) c) (1, 1) = qmul bd (1, 1) := by
        refine rv_ext l2 l1 ?_
        rw [rv_mul (by decide) (by omega), (rv_nz hp2).mp z2, (rv_nz hp1).mp z1]
        grind
      show scaleM (scaleM (normM ([], sg, bd)) c) (factorM (scaleM (normM ([], sg, bd)) c)) = _
      rw [F1]
      simp [normM, scaleM, F0, this]
  · obtain ⟨E, L', L⟩ := factor_inv h hc hc2 hs e h0
    have F2 := L.pos
    have F2' := L'.pos
    have step : ∀ x : Qn, 0 < x.2 → qmul (qmul (qmul x (factorM r0)) c) (factorM (scaleM (normM r0) c)) = qmul x (factorM r0) := by
      intro x hx
      have p1 := qmul_pos hx F2
      have p2 := qmul_pos p1 hc2
      refine rv_ext (low_nrm (Int.mul_ne_zero (by omega) (by omega))) (low_nrm (Int.mul_ne_zero (by omega) (by omega))) ?_
      rw [rv_mul (by omega) (by omega), rv_mul (by omega) (by omega), Rat.mul_assoc, E]
      grind
    show scaleM (scaleM (normM r0) c) (factorM (scaleM (normM r0) c)) = scaleM r0 (factorM r0)
    generalize factorM (scaleM (normM r0) c) = G at *
    have e1 : scaleM (scaleM (normM r0) c) G = (r0.1.map fun p => (p.1, qmul (qmul (qmul p.2 (factorM r0)) c) G), r0.2.1, qmul (qmul (qmul r0.2.2 (factorM r0)) c) G) := by
      simp [normM, scaleM, List.map_map, Function.comp_def]
    rw [e1, step _ h.bd]
    unfold scaleM
    congr 1
    apply List.map_congr_left
    intro p hp
    rw [step _ (h.ps p hp).1]
theorem pg_normal {r : Rw} {n : Nat} (h : SzR n r) (hL : LowR r) (hs : PySem.PyData.strOk r.2.1 = true) (nz : ∀ p ∈ r.1, p.2.1 ≠ 0) (hl : r.1.length ≤ 100) (hn : n * (r.1.length + 2) + 4 ≤ 3900) :
    PG.B_normal (rD r) = .ok (rD (normM r)) := by
  have e := pg_normal_factor h hL hs hl hn
  have e0 : n * (r.1.length + 2) = n * (r.1.length + 1) + n := Nat.mul_succ _ _
  obtain ⟨_, z⟩ := lh_factor h hs nz (by omega) (by omega)
  have n1 : n * 1 ≤ n * (r.1.length + 2) := Nat.mul_le_mul_left _ (by omega)
  have e1 : PG.m_normal_factor [rD r] = .ok (N (factorM r)) := e
  have e2 : PG.m_multiplied [psD r.1, N (factorM r)] = .ok (psD (r.1.map fun p => (p.1, qmul p.2 (factorM r)))) := pg_multiplied (fun p hp => (h.ps p hp).mono (by omega)) (z.mono (by omega)) (by omega)
  have e3 : PG.m_times [.tuple [.int r.2.2.1, .int r.2.2.2], .tuple [.int (factorM r).1, .int (factorM r).2]] = .ok (N (qmul r.2.2 (factorM r))) := pg_times (h.bd.mono (by omega)) (z.mono (by omega))
  simp only [rD] at e1
  simp [PG.B_normal, PG.S_normal, e1, e2, e3]
  simp [normM, scaleM]
structure GoodR (r : Rw) : Prop where
  sz : SzR 150 r
  low : LowR r
  sg : Sgn r.2.1
  len : r.1.length ≤ 3
  from0 : ∃ r0, PosR r0 ∧ r = normM r0 ∧ r0.2.1 = r.2.1
theorem GoodR.pos {r : Rw} (h : GoodR r) : PosR r := ⟨fun p hp => ⟨(h.low.ps p hp).1.pos, (h.low.ps p hp).2⟩, h.low.bd.pos⟩
theorem fac_low {r : Rw} (h : PosR r) : (factorM r).1 ≠ 0 ∧ 0 < (factorM r).2 := by
  obtain ⟨q, qs, e⟩ := facQ_cons r
  by_cases h0 : q.1 = 0
  · obtain ⟨ps, sg, bd⟩ := r
    cases ps with
    | cons p ps =>
      simp only [facQ, List.map_cons, List.cons.injEq] at e
      exact absurd (by rw [e.1]; exact h0) (h.ps p List.mem_cons_self).2
    | nil =>
      simp only [facQ, List.cons.injEq] at e
      obtain ⟨rfl, rfl⟩ := e
      simp [factorM, h0]
  · obtain ⟨f, P, E, L⟩ := fac_rv h e h0
    refine ⟨?_, L.pos⟩
    intro z
    have f0 := P.pos
    have := (rv_zero (q := factorM r)).mpr (.inl z)
    rw [E] at this
    split at this <;> grind
theorem LowR.scale {r : Rw} {f : Qn} (h : PosR r) (hf : f.1 ≠ 0) (hf2 : 0 < f.2) : LowR (scaleM r f) := by
  refine ⟨fun p hp => ?_, low_nrm (Int.mul_ne_zero (by have := h.bd; omega) (by omega))⟩
  obtain ⟨x, hx, rfl⟩ := List.mem_map.mp hp
  obtain ⟨h1, h2⟩ := h.ps x hx
  exact ⟨low_nrm (Int.mul_ne_zero (by omega) (by omega)), qmul_nz h2 h1 hf hf2⟩
theorem Good.good {r : Rw} (h : Good r) : GoodR r := by
  obtain ⟨ps, sg, b, rfl, hs, hp, hl, hb⟩ := h
  have pl := partsM_len ps
  have z0 : SzR 28 (partsM ps, sg, b) := (szR_parts (n := 6) (fun p h => (hp p h).1) hb).mono (by omega)
  have p0 : PosR (partsM ps, sg, b) := ⟨fun p h => ⟨(z0.ps p h).pos, partsM_nz p h⟩, hb.pos⟩
  obtain ⟨f1, f2⟩ := fac_low p0
  have hn : 28 * ((partsM ps).length + 1) ≤ 28 * 4 := Nat.mul_le_mul_left _ (by omega)
  refine ⟨(z0.norm hs.ok (fun p h => partsM_nz p h) (by show (partsM ps).length ≤ _; omega) (by show 28 * ((partsM ps).length + 1) + 4 ≤ _; omega)).mono (by show 28 + (28 * ((partsM ps).length + 1) + 4) ≤ _; omega), LowR.scale p0 f1 f2, hs, ?_, _, p0, rfl, rfl⟩
  show ((partsM ps).map _).length ≤ 3
  rw [List.length_map]
  omega
end DL
namespace DL
open PySem PySem.Spec PyProof.Rows L2 RT
def mergeQ (pt : List Pt) : List Pt := pt.foldl (fun k p => putQ k p.1 p.2) []
def look (pt : List Pt) (x : Str) : Qn := getQ (mergeQ pt) x
def atM (f : Str → Qn) (ps : List Pt) (t : Qn) : Qn := ps.foldl (fun t p => qadd t (qmul p.2 (f p.1))) t
section
variable {pt : List Pt} {m : Nat}
end
section
variable {pt ps : List Pt} {n m k : Nat} (hpt : ∀ p ∈ pt, Sz m p.2) (hp : ∀ p ∈ ps, Sz n p.2) (hn : n ≤ 3000) (hm : m ≤ 3000)
include hpt hp hn hm
end
def holdsR (sg : Str) (x y : Rat) : Bool := if (sg == "=") = true then decide (x = y) else if (sg == "<") = true then decide (x < y) else decide (x ≤ y)
theorem low01 : Low (0, 1) := ⟨by decide, by decide⟩
end DL
namespace DL
open PySem PySem.Spec PyProof.Rows L2 RT
theorem dNe_self {d : PyData} (h : SeqAt.shaped d = true) : dNe d d = some (.bool false) := by
  have e : PyData.eqv d d = true := SeqAt.eqv_refl d (SeqAt.canLay_of_shaped h)
  simp [dNe, h, e]
theorem canAll {α : Type} {g : α → PyData} : ∀ {xs : List α}, (∀ x ∈ xs, (g x).canLay0 = true) → PyData.canLayAll0 (xs.map g) = true
  | [], _ => rfl
  | x :: xs, h => by
    rw [List.map_cons]
    show ((g x).canLay0 && PyData.canLayAll0 (xs.map g)) = true
    rw [h x List.mem_cons_self, canAll fun y hy => h y (List.mem_cons_of_mem _ hy)]
    rfl
theorem depAll {α : Type} {g : α → PyData} {n : Nat} : ∀ {xs : List α}, (∀ x ∈ xs, (g x).depth ≤ n) → PyData.depthAll (xs.map g) ≤ n
  | [], _ => Nat.zero_le _
  | x :: xs, h => by
    rw [List.map_cons]
    show max (g x).depth (PyData.depthAll (xs.map g)) ≤ n
    have h1 := h x List.mem_cons_self
    have h2 := depAll (g := g) (n := n) (xs := xs) fun y hy => h y (List.mem_cons_of_mem _ hy)
    omega
theorem addQ_names : ∀ (ps kvs : List Pt) {P : Str → Prop}, (∀ p ∈ kvs, P p.1) → (∀ p ∈ ps, P p.1) → ∀ q ∈ sumQ ps kvs, P q.1
  | [], kvs, P, h, _ => h
  | p :: ps, kvs, P, h, hp => addQ_names ps (addQ kvs p) (fun q hq => by
      rcases mem_putQ hq with hq | rfl
      · exact h q hq
      · exact hp p List.mem_cons_self) fun q hq => hp q (List.mem_cons_of_mem _ hq)
theorem partsM_names {ps : List Pt} {P : Str → Prop} (h : ∀ p ∈ ps, P p.1) : ∀ q ∈ partsM ps, P q.1 := by
  intro q hq
  obtain ⟨q1, _⟩ := List.mem_filter.mp hq
  obtain ⟨x, hx, rfl⟩ := List.mem_map.mp q1
  obtain ⟨p, hp, e⟩ := List.mem_map.mp ((sortS_perm _).mem_iff.mp hx)
  rw [← e]
  exact addQ_names ps [] (fun _ h => by cases h) h p hp
theorem Nam.ok {x : Str} (h : Nam x) : PySem.PyData.strOk x = true := by
  rcases h with rfl | rfl | rfl <;> decide +kernel
theorem loop_then {T : Tg} {S1 S2 : Rho → Out} {r : FR} {ρ : Rho} (I : Nat → Rho → Prop) (ds : List PyData) (h : ∀ (k : Nat) (d : PyData) (ρ : Rho), ds[k]? = some d → I k ρ → ∃ ρ1 ρ2, T d ρ = some ρ1 ∧ S1 ρ1 = .nx ρ2 ∧ I (k + 1) ρ2) (h0 : I 0 ρ)
    (hk : ∀ ρ', I ds.length ρ' → outFR (S2 ρ') = r) : outFR ((loopS T S1 ds ρ).bind S2) = r := by
  obtain ⟨ρ', e, q⟩ := loopS_inv (T := T) (S1 := S1) I ds h ρ h0
  rw [e]
  exact hk ρ' q
theorem loopS_cons_nx {T : Tg} {S1 : Rho → Out} {d : PyData} {ds : List PyData} {ρ ρ1 ρ2 : Rho} (h1 : T d ρ = some ρ1) (h2 : S1 ρ1 = .nx ρ2) : loopS T S1 (d :: ds) ρ = loopS T S1 ds ρ2 := by
  rw [loopS_cons h1, h2]
end DL
namespace DL
open PySem PySem.Spec PyProof.Rows L2 RT
def KD (w : World) (K : PySem.W.Frag) (mg : Str → Option Value) (x : Str) (kvs : List (Str × Str)) (ms : List Str) : Prop :=
  ∃ d es n, mg x = some (.ref d) ∧ KDict K w d es n ∧ (∀ p ∈ kvs, ∃ t, PySem.W.nsIn K d p.1 = some (some (.str p.2 t))) ∧ ∀ z ∈ ms, PySem.W.nsIn K d z = some none
def inKF (no : Bool) (kvs : List (Str × Str)) (ms : List Str) (F : Rho → Res PyData) : Rho → Res PyData := fun ρ => (F ρ).bind fun d ρ => match d with
  | .str z => if z ∈ kvs.map (·.1) then .ok (.bool (!no)) ρ else if z ∈ ms then .ok (.bool no) ρ else .bad
  | _ => .bad
def ixKF (kvs : List (Str × Str)) (F : Rho → Res PyData) : Rho → Res PyData := fun ρ => (F ρ).bind fun d ρ => match d with
  | .str z => (match kvs.find? fun p => decide (p.1 = z) with
    | some p => .ok (.str p.2) ρ
    | none => .bad)
  | _ => .bad
section
variable {X : L2.Cx} {B : Bx} {W : WX} {a : Expr} {x : Str} {pos px : Pos} {kvs : List (Str × Str)} {ms : List Str} {F : Rho → Res PyData}
theorem pt_inK (hk : KD X.w X.K X.mg x kvs ms) (ha : PE X a (tD (km X) B W F)) (hg : Gl X x := by rfl) (hd : (x == ("__debug__" : Str)) = false := by decide) (hmk : behindInMarks .In (.Name x px : Expr) = false := by rfl) :
    PT X (.Compare a [.In] [.Name x px] pos) (tDT (km X) B W (testF (inKF false kvs ms F))) := by
  obtain ⟨d, es, n, hm, D, h1, h2⟩ := hk
  refine (pt_cmpR (op_in_kd D) ha (pe_glob (v := .ref d) hg hm rfl hd) hmk).of ?_
  rintro σ H Q ⟨G, ρ, E, S⟩
  refine ⟨G, ρ, E, (Sat.bind (Sat.bind S)).imp fun y ρ1 s1 v G1 H1 E1 g1 dp1 => ?_⟩
  cases y <;> first | exact s1.elim | skip
  rename_i z
  cases dp1
  have s2 : Sat (km X) B W G σ (if z ∈ kvs.map (·.1) then Res.ok (PyData.bool true) ρ1 else if z ∈ ms then Res.ok (PyData.bool false) ρ1 else .bad) _ := s1
  by_cases c1 : z ∈ kvs.map (·.1)
  · rw [if_pos c1] at s2
    obtain ⟨p, hp, rfl⟩ := List.mem_map.mp c1
    obtain ⟨t, ht⟩ := h1 p hp
    exact ⟨p.1, _, rfl, rfl, ht, true, rfl, s2 G1 H1 E1 g1⟩
  · rw [if_neg c1] at s2
    by_cases c2 : z ∈ ms
    · rw [if_pos c2] at s2
      exact ⟨z, _, rfl, rfl, h2 z c2, false, rfl, s2 G1 H1 E1 g1⟩
    · rw [if_neg c2] at s2
      exact s2.elim
theorem pd_ixK (hk : KD X.w X.K X.mg x kvs ms) (ha : PE X a (tD (km X) B W F)) (hs : PlainIx a := by exact fun _ _ => rfl) (hg : Gl X x := by rfl) (hd : (x == ("__debug__" : Str)) = false := by decide) :
    PE X (.Subscript (.Name x px) a pos) (tD (km X) B W (ixKF kvs F)) := by
  obtain ⟨d, es, n, hm, D, h1, h2⟩ := hk
  refine (pe_ix ix_kdict (pe_glob (v := .ref d) hg hm rfl hd) ha hs).of ?_
  rintro σ H Q ⟨G, ρ, E, S⟩
  refine ⟨G, ρ, E, (Sat.bind S).imp fun y ρ1 s1 v G1 H1 E1 g1 dp1 => ?_⟩
  cases y <;> first | exact s1.elim | skip
  rename_i z
  cases dp1
  dsimp only at s1
  cases e : kvs.find? fun p => decide (p.1 = z) with
  | none => rw [e] at s1; exact s1.elim
  | some p =>
    rw [e] at s1
    obtain ⟨t, ht⟩ := h1 p (List.mem_of_find?_eq_some e)
    have ez : p.1 = z := by simpa using List.find?_some e
    rw [ez] at ht
    exact ⟨_, z, .str p.2, rfl, rfl, ⟨es, n, _, D.at_, D.lit, ht, ⟨_, rfl⟩⟩, s1 (.str p.2) G1 H1 E1 g1 (.str _)⟩
end
@[simp] theorem inKF_apc {no : Bool} {kvs : List (Str × Str)} {ms : List Str} {F : Rho → Res PyData} {e0 : Ent} {ρ : Rho} : inKF no kvs ms F (e0 :: ρ) = (F (e0 :: ρ)).bind fun d ρ => match d with
  | .str z => if z ∈ kvs.map (·.1) then .ok (.bool (!no)) ρ else if z ∈ ms then .ok (.bool no) ρ else .bad
  | _ => .bad := id rfl
@[simp] theorem ixKF_apc {kvs : List (Str × Str)} {F : Rho → Res PyData} {e0 : Ent} {ρ : Rho} : ixKF kvs F (e0 :: ρ) = (F (e0 :: ρ)).bind fun d ρ => match d with
  | .str z => (match kvs.find? fun p => decide (p.1 = z) with
    | some p => .ok (.str p.2) ρ
    | none => .bad)
  | _ => .bad := id rfl
end DL
namespace DL
open PySem PySem.Spec PyProof.Rows L2 RT
noncomputable def PG.L_added_up_1 : Rho → Out := (putS 1 (varF 2) (callF PG.m_plus (consA (dgetF 1 (varF 2) (cF (.tuple [.int 0, .int 1]))) (consA (varF 3) nilA))))
noncomputable def PG.S_added_up : Rho → Out := (seqS (newDS 1) (seqS (forS (itemsQ (varF 0)) (tupT 2 (consTs (nameT 2) (consTs (nameT 3) nilTs))) PG.L_added_up_1) (retS (appF (app1 bTuple) (consA (lcF [2] (itemsQ (dsortF 1)) (nameT 2) (testF (binF dNe (dixF 1 (varF 2)) (cF (.tuple [.int 0, .int 1])))) (tupF (consA (varF 2) (consA (dixF 1 (varF 2)) nilA)))) nilA)))))
noncomputable def PG.B_added_up (a0 : PyData) : FR := outFR (PG.S_added_up [.d a0, .un, .un, .un])
noncomputable def PG.m_added_up : Fn := fn1 PG.B_added_up
noncomputable def PG.S_row : Rho → Out := (seqS (asgS (callF PG.m_added_up (consA (varF 0) nilA)) (nameT 3)) (seqS (ifS (testF (inKF false [(">=", "<="), (">", "<")] ["<=", "<", "="] (varF 1))) (retS (callF PG.m_normal (consA (tupF (consA (callF PG.m_multiplied (consA (varF 3) (consA (cF (.tuple [.int (-1), .int 1])) nilA))) (consA (ixKF [(">=", "<="), (">", "<")] (varF 1)) (consA (callF PG.m_minus (consA (cF (.tuple [.int 0, .int 1])) (consA (varF 2) nilA))) nilA)))) nilA))) nxS) (retS (callF PG.m_normal (consA (tupF (consA (varF 3) (consA (varF 1) (consA (varF 2) nilA)))) nilA)))))
noncomputable def PG.B_row (a0 a1 a2 : PyData) : FR := outFR (PG.S_row [.d a0, .d a1, .d a2, .un])
noncomputable def PG.m_row : Fn := fn3 PG.B_row
end DL
namespace DL
open PySem PySem.Spec PyProof.Rows L2 RT
theorem low_put {kvs : List Pt} {x : Str} {v : Qn} (h : ∀ p ∈ kvs, Low p.2) (hv : Low v) : ∀ p ∈ putQ kvs x v, Low p.2 := fun p hp => by
  rcases mem_putQ hp with hp | rfl
  · exact h p hp
  · exact hv
theorem low_get {kvs : List Pt} (h : ∀ p ∈ kvs, Low p.2) (x : Str) : Low (getQ kvs x) := by
  rcases getQ_mem (kvs := kvs) (x := x) with e | ⟨p, hp, _, e⟩
  · rw [e]; exact low01
  · rw [e]; exact h p hp
theorem low_sum : ∀ (ps kvs : List Pt), (∀ p ∈ kvs, Low p.2) → (∀ p ∈ ps, 0 < p.2.2) → ∀ q ∈ sumQ ps kvs, Low q.2
  | [], kvs, h, _ => h
  | p :: ps, kvs, h, hp => low_sum ps (addQ kvs p) (low_put h (low_nrm (Int.mul_ne_zero (by have := (low_get h p.1).pos; omega) (by have := hp p List.mem_cons_self; omega)))) fun q hq => hp q (List.mem_cons_of_mem _ hq)
theorem low_parts {ps : List Pt} (hp : ∀ p ∈ ps, 0 < p.2.2) : ∀ q ∈ partsM ps, Low q.2 := by
  intro q hq
  obtain ⟨q1, _⟩ := List.mem_filter.mp hq
  obtain ⟨x, hx, rfl⟩ := List.mem_map.mp q1
  exact low_get (low_sum ps [] (fun _ h => by cases h) hp) x
theorem pg_added_up {ps : List Pt} {n : Nat} (c : List PyData → PyData) (hc : c = PyData.list ∨ c = PyData.tuple) (h : ∀ p ∈ ps, Sz n p.2) (hn : (n + 1) * ps.length + 1 ≤ 3900) (hn1 : n ≤ 3900) (hl : ps.length < 60) : PG.B_added_up (c (ps.map pD)) = .ok (psD (partsM ps)) := by
  have L := sum_loop (e0 := .d (c (ps.map pD))) PG.L_added_up_1 PG.m_plus (fun p q hp hq => pg_plus hp hq) (cF (.tuple [.int 0, .int 1])) (fun e0 ρ => by simp) rfl ps [] (n := n) (k := 0) .un .un (fun _ h => by cases h) h (by omega) hn1 (by simp; omega)
  obtain ⟨e2', e3', L⟩ := L
  have hlen := sumQ_len ps []
  have lw := low_sum ps [] (fun _ h => by cases h) (fun p hp => (h p hp).pos)
  simp only [List.length_nil, Nat.zero_add] at hlen
  have Kp := keys_part (e0 := .d (c (ps.map pD))) (testF (binF dNe (dixF 1 (varF 2)) (cF (.tuple [.int 0, .int 1])))) (sumQ ps []) (e2 := e2') (e3 := frzE e3' |> roE) (fun x hx => by
    have v := valD_dQ2 (sumQ ps []) x hx
    simp only [N] at v
    have l := low_get lw x
    by_cases h0 : (getQ (sumQ ps []) x).1 = 0
    · have := low0 l h0
      simp [v, this]
    · simp [v, h0]) (by omega)
  have k1 := keysS_dQ (sumQ ps [])
  have hl2 : (sumQ ps []).length < 64 := by omega
  simp only [show dQ [] = [] from rfl] at L
  rcases hc with rfl | rfl
  · simp [PG.B_added_up, PG.S_added_up, L, k1, hl2, Kp]
    simp [partsM]
  · simp [PG.B_added_up, PG.S_added_up, L, k1, hl2, Kp]
    simp [partsM]
def negQ (q : Qn) : Qn := qmul q (-1, 1)
theorem rv_negQ {q : Qn} (h : q.2 ≠ 0) : rv (negQ q) = -rv q := by
  unfold negQ
  rw [rv_mul (by decide) h, rvm1]
  grind
theorem low_negQ {q : Qn} (h : q.2 ≠ 0) : Low (negQ q) := low_nrm (Int.mul_ne_zero h (by decide))
def negK (kvs : List Pt) : List Pt := kvs.map fun p => (p.1, negQ p.2)
theorem get_neg : ∀ (kvs : List Pt) (x : Str), getQ (negK kvs) x = negQ (getQ kvs x)
  | [], x => by
    have : negQ (0, 1) = (0, 1) := by decide
    simp [getQ, negK, this]
  | p :: kvs, x => by
    have z := get_neg kvs x
    by_cases h : p.1 = x
    · simp [getQ, negK, h]
    · simp [getQ, negK, h] at z ⊢
      exact z
theorem put_neg (kvs : List Pt) (x : Str) (v : Qn) : putQ (negK kvs) x (negQ v) = negK (putQ kvs x v) := by
  unfold putQ
  have e : ((negK kvs).any fun kv => decide (kv.1 = x)) = (kvs.any fun kv => decide (kv.1 = x)) := by simp [negK, List.any_map, Function.comp_def]
  rw [e]
  split
  · simp only [negK, List.map_map]
    apply List.map_congr_left
    intro p _
    by_cases h : p.1 = x <;> simp [h]
  · simp [negK]
theorem sum_neg : ∀ (ps kvs : List Pt), (∀ p ∈ kvs, Low p.2) → (∀ p ∈ ps, 0 < p.2.2) → sumQ (flipM ps) (negK kvs) = negK (sumQ ps kvs)
  | [], kvs, _, _ => rfl
  | p :: ps, kvs, h, hp => by
    have p0 := hp p List.mem_cons_self
    have g := low_get h p.1
    have gp := g.pos
    have e : addQ (negK kvs) (p.1, qsub (0, 1) p.2) = negK (addQ kvs p) := by
      unfold addQ
      rw [← put_neg, get_neg]
      congr 1
      have s2 : (qsub (0, 1) p.2).2 ≠ 0 := by have : 0 < (qsub (0, 1) p.2).2 := nrm_pos (by show 1 * p.2.2 ≠ 0; omega); omega
      have n2 : (negQ (getQ kvs p.1)).2 ≠ 0 := by have := (low_negQ (q := getQ kvs p.1) (by omega)).pos; omega
      have a2 : (qadd (getQ kvs p.1) p.2).2 ≠ 0 := by have : 0 < (qadd (getQ kvs p.1) p.2).2 := nrm_pos (Int.mul_ne_zero (by omega) (by omega)); omega
      refine rv_ext (low_nrm (Int.mul_ne_zero n2 s2)) (low_negQ a2) ?_
      rw [rv_add s2 n2, rv_negQ (by omega), rv_negQ a2, rv_add (by omega) (by omega), rv_sub (by omega) (by decide), rv01]
      grind
    show sumQ (flipM ps) (addQ (negK kvs) (p.1, qsub (0, 1) p.2)) = negK (sumQ ps (addQ kvs p))
    rw [e]
    exact sum_neg ps (addQ kvs p) (low_put h (low_nrm (Int.mul_ne_zero (by omega) (by omega)))) fun q hq => hp q (List.mem_cons_of_mem _ hq)
theorem parts_flip {ps : List Pt} (hp : ∀ p ∈ ps, 0 < p.2.2) : partsM (flipM ps) = (partsM ps).map fun p => (p.1, qmul p.2 (-1, 1)) := by
  have e := sum_neg ps [] (fun _ h => by cases h) hp
  have e0 : negK [] = [] := rfl
  rw [e0] at e
  have lw := low_sum ps [] (fun _ h => by cases h) hp
  unfold partsM
  rw [e]
  generalize sumQ ps [] = kvs at lw
  have ek : (negK kvs).map (·.1) = kvs.map (·.1) := by simp [negK, Function.comp_def]
  rw [ek]
  generalize sortS (kvs.map (·.1)) = ks
  induction ks with
  | nil => rfl
  | cons x ks ih =>
    have l := low_get lw x
    have lp := l.pos
    have nz : (negQ (getQ kvs x)).1 = 0 ↔ (getQ kvs x).1 = 0 := by
      rw [rv_nz (low_negQ (by omega)).pos, rv_nz l.pos, rv_negQ (by omega)]
      constructor <;> intro h <;> grind
    rw [List.map_cons, List.map_cons, List.filter_cons, List.filter_cons, get_neg]
    by_cases h0 : (getQ kvs x).1 = 0
    · have h1 := nz.mpr h0
      rw [if_neg (by simp [h1]), if_neg (by simp [h0])]
      exact ih
    · have h1 : ¬ (negQ (getQ kvs x)).1 = 0 := fun z => h0 (nz.mp z)
      rw [if_pos (by simp [h1]), if_pos (by simp [h0]), List.map_cons, ih]
      rfl
theorem Sz.neg0 {n : Nat} {q : Qn} (h : Sz n q) : Sz n (qsub (0, 1) q) := by
  have := h.pos
  refine .nrm (by simp; omega) ?_ ?_
  · simpa using h.b1.neg
  · simpa using h.b2
section
variable {ps : List Pt} {n : Nat} {b : Qn} {sg : Str} (h : ∀ p ∈ ps, Sz n p.2) (hb : Sz n b) (lb : Low b) (hl : ps.length ≤ 18)
include h hb lb hl
end
theorem norm_norm {r0 : Rw} (h : PosR r0) : normM (normM r0) = normM r0 := by
  obtain ⟨f1, f2⟩ := fac_low h
  have L := LowR.scale h f1 f2
  have e : scaleM (normM r0) (1, 1) = normM r0 := by
    have one : ∀ q : Qn, Low q → qmul q (1, 1) = q := fun q l => by
      have := l.pos
      refine rv_ext (low_nrm (Int.mul_ne_zero (by omega) (by decide))) l ?_
      rw [rv_mul (by decide) (by omega), rv11]
      grind
    have Lb := one _ L.bd
    show ((normM r0).1.map fun p => (p.1, qmul p.2 (1, 1)), (normM r0).2.1, qmul (normM r0).2.2 (1, 1)) = normM r0
    have : ((normM r0).1.map fun p => (p.1, qmul p.2 (1, 1))) = (normM r0).1 := by
      conv => rhs; rw [← List.map_id (normM r0).1]
      apply List.map_congr_left
      intro p hp
      rw [one _ (L.ps p hp).1]
      rfl
    rw [this, show qmul (normM r0).2.2 (1, 1) = (normM r0).2.2 from Lb]
  have := norm_inv h (c := (1, 1)) (by decide) (by decide) (fun _ => by decide)
  rw [e] at this
  exact this
end DL
namespace DL
open PySem PySem.Spec PyProof.Rows L2 RT
section
variable {X : L2.Cx} {B : Bx} {W : WX} {pos : Pos} {e : Expr} {F : Rho → Res PyData}
def extS (i : Nat) (F : Rho → Res PyData) : Rho → Out := fun ρ => if isOwn ρ[i]? = true then (F ρ).out fun d ρ => match ρ[i]?, d with
  | some (.own xs), .tuple ys => if xs.length + ys.length ≤ sizeLine then .nx (ρ.set i (.own (xs ++ ys))) else .bad
  | _, _ => .bad
  else .bad
def par3S (i j l : Nat) (d : PyData) : Rho → Out := fun ρ => if i < ρ.length ∧ j < ρ.length ∧ l < ρ.length then .nx (((ρ.set i (.own [])).set j (.own [])).set l (.d d)) else .bad
end
end DL
namespace DL
open PySem PySem.Spec PyProof.Rows L2 RT
noncomputable def PG.S__sign_of_sum : Rho → Out := (seqS (ifS (testF (binF dIn3 (cF (.str "<")) (varF 0))) (retS (cF (.str "<"))) nxS) (seqS (ifS (testF (binF dIn3 (cF (.str "<=")) (varF 0))) (retS (cF (.str "<="))) nxS) (retS (cF (.str "=")))))
noncomputable def PG.B__sign_of_sum (a0 : PyData) : FR := outFR (PG.S__sign_of_sum [.d a0])
noncomputable def PG.m__sign_of_sum : Fn := fn1 PG.B__sign_of_sum
noncomputable def PG.L_sum_of_1 : Rho → Out := (seqS (asgS (binF dIx (varF 0) (varF 5)) (tupT 3 (consTs (nameT 7) (consTs (nameT 8) (consTs (nameT 9) nilTs))))) (seqS (extS 2 (callF PG.m_multiplied (consA (varF 7) (consA (varF 6) nilA)))) (seqS (appendS 3 (varF 8)) (asgS (callF PG.m_plus (consA (varF 4) (consA (callF PG.m_times (consA (varF 9) (consA (varF 6) nilA))) nilA))) (nameT 4)))))
noncomputable def PG.S_sum_of : Rho → Out := (seqS (par3S 2 3 4 (.tuple [.int 0, .int 1])) (seqS (forS (itemsQ (varF 1)) (tupT 2 (consTs (nameT 5) (consTs (nameT 6) nilTs))) PG.L_sum_of_1) (retS (tupF (consA (callF PG.m_added_up (consA (varF 2) nilA)) (consA (callF PG.m__sign_of_sum (consA (varF 3) nilA)) (consA (varF 4) nilA)))))))
noncomputable def PG.B_sum_of (a0 a1 : PyData) : FR := outFR (PG.S_sum_of [.d a0, .d a1, .un, .un, .un, .un, .un, .un, .un, .un])
noncomputable def PG.m_sum_of : Fn := fn2 PG.B_sum_of
noncomputable def LH.L_total_1 : Rho → Out := (seqS (asgS (callF LH.m_scaled (consA (binF dIx (varF 0) (varF 5)) (consA (varF 6) nilA))) (nameT 7)) (seqS (asgS (binF dAdd (varF 2) (appF (app1 bList) (consA (binF dIx (varF 7) (cF (.int 0))) nilA))) (nameT 2)) (seqS (asgS (callF LH.m_add (consA (varF 3) (consA (binF dIx (varF 7) (cF (.int 2))) nilA))) (nameT 3)) (ifS (orT (testF (binF dEq (binF dIx (varF 7) (cF (.int 1))) (cF (.str "<")))) (testF (binF dEq (varF 4) (cF (.str "<"))))) (asgS (cF (.str "<")) (nameT 4)) (ifS (testF (binF dEq (binF dIx (varF 7) (cF (.int 1))) (cF (.str "<=")))) (asgS (cF (.str "<=")) (nameT 4)) nxS)))))
noncomputable def LH.S_total : Rho → Out := (seqS (ownS nilA 2) (seqS (asgS (tupF (consA (cF (.int 0)) (consA (cF (.int 1)) nilA))) (nameT 3)) (seqS (asgS (cF (.str "=")) (nameT 4)) (seqS (forS (itemsQ (varF 1)) (tupT 2 (consTs (nameT 5) (consTs (nameT 6) nilTs))) LH.L_total_1) (retS (tupF (consA (callF LH.m_parts (consA (varF 2) nilA)) (consA (varF 4) (consA (varF 3) nilA)))))))))
noncomputable def LH.B_total (a0 a1 : PyData) : FR := outFR (LH.S_total [.d a0, .d a1, .un, .un, .un, .un, .un, .un])
noncomputable def LH.m_total : Fn := fn2 LH.B_total
end DL
namespace DL
open PySem PySem.Spec PyProof.Rows L2 RT
def cnt (x : Str) (ps : List Pt) : Nat := (ps.map (·.1)).count x
theorem len_of_nd : ∀ (L xs : List Str), xs.Nodup → (∀ x ∈ xs, x ∈ L) → xs.length ≤ L.length
  | [], xs, _, h => by
    cases xs with
    | nil => simp
    | cons x xs => exact absurd (h x List.mem_cons_self) (by simp)
  | a :: L, xs, hn, h => by
    by_cases ha : a ∈ xs
    · have z := len_of_nd L (xs.erase a) (hn.erase a) (fun x hx => by
        have h1 := (hn.mem_erase_iff).mp hx
        rcases List.mem_cons.mp (h x h1.2) with e | e
        · exact absurd e h1.1
        · exact e)
      rw [List.length_erase_of_mem ha] at z
      simp only [List.length_cons]
      omega
    · have z := len_of_nd L xs hn (fun x hx => by
        rcases List.mem_cons.mp (h x hx) with e | e
        · exact absurd (e ▸ hx) ha
        · exact e)
      simp only [List.length_cons]
      omega
end DL
namespace DL
open PySem PySem.Spec PyProof.Rows L2 RT
def rwAt (rows : List Rw) (i : Int) : Rw := (rows[i.toNat]?).getD ([], "=", (0, 1))
def accP (rows : List Rw) (pa : List Pa) : List Pt := pa.flatMap fun p => (scaleM (rwAt rows p.1) p.2).1
def accT (rows : List Rw) (pa : List Pa) (t : Qn) : Qn := pa.foldl (fun t p => qadd t (qmul (rwAt rows p.1).2.2 p.2)) t
def sigs (rows : List Rw) (pa : List Pa) : List Str := pa.map fun p => (rwAt rows p.1).2.1
def sgnOf (ss : List Str) : Str := if ("<" : Str) ∈ ss then "<" else if ("<=" : Str) ∈ ss then "<=" else "="
structure RowsOk (rows : List Rw) : Prop where
  good : ∀ r ∈ rows, Good r
  len : rows.length ≤ 8
structure PaIn (rows : List Rw) (pa : List Pa) : Prop where
  each : ∀ p ∈ pa, (0 ≤ p.1 ∧ p.1 < rows.length) ∧ Sz 5 p.2
section
variable {rows : List Rw} (R : RowsOk rows) {e1 : Ent}
include R
omit R in
end
end DL
namespace DL
open PySem PySem.Spec PyProof.Rows L2 RT
theorem strs_shaped {ss : List Str} (h : ∀ x ∈ ss, PySem.PyData.strOk x = true) : SeqAt.shaped (.list (ss.map PyData.str)) = true := by
  have h1 : PyData.canLayAll0 (ss.map PyData.str) = true := canAll fun x hx => h x hx
  have h2 : PyData.depthAll (ss.map PyData.str) ≤ 0 := depAll fun x _ => Nat.le_refl _
  simp only [SeqAt.shaped, PyData.canLay0, PyData.depth, h1, Bool.true_and]
  exact decide_eq_true (by omega)
theorem in_strs {ss : List Str} {a : Str} (ha : PySem.PyData.strOk a = true) (h : ∀ x ∈ ss, PySem.PyData.strOk x = true) : dIn3 (.str a) (.list (ss.map PyData.str)) = some (.bool (decide (a ∈ ss))) := by
  have e : ((ss.map PyData.str).any fun z => PyData.eqv z (.str a)) = decide (a ∈ ss) := by
    rw [Bool.eq_iff_iff]
    simp only [List.any_eq_true, List.mem_map, decide_eq_true_eq]
    constructor
    · rintro ⟨_, ⟨x, hx, rfl⟩, e⟩
      have : x = a := by simpa [PyData.eqv] using e
      rw [← this]; exact hx
    · intro hx
      exact ⟨_, ⟨a, hx, rfl⟩, by simp [PyData.eqv]⟩
  show (if SeqAt.shaped (.str a) = true ∧ SeqAt.shaped (.list (ss.map PyData.str)) = true then some (PyData.bool ((ss.map PyData.str).any fun z => PyData.eqv z (.str a))) else none) = _
  rw [if_pos ⟨str_shaped ha, strs_shaped h⟩, e]
def totM (rows : List Rw) (pa : List Pa) : Rw := (partsM (accP rows pa), sgnOf (sigs rows pa), accT rows pa (0, 1))
theorem sgnOf_sgn (ss : List Str) : Sgn (sgnOf ss) := by
  unfold sgnOf Sgn
  split
  · simp
  · split <;> simp
section
variable {rows : List Rw} (R : RowsOk rows)
include R
section
variable {pa : List Pa} (h : PaIn rows pa) (hl : pa.length ≤ 6)
include h hl
end
end
end DL
namespace DL
open PySem PySem.Spec PyProof.Rows L2 RT
section
variable {X : L2.Cx} {B : Bx} {W : WX} {st : Stmt} {rest : List Stmt} {S1 S2 : Rho → Out} {pos px : Pos}
end
section
variable {P : Program} {w : World} {K : PySem.W.Frag} {mg : Str → Option Value} {base : Heap}
end
section
variable {X : L2.Cx} {B : Bx} {W : WX} {pos : Pos} {e : Expr} {es : List Expr} {A : Rho → Res (List PyData)}
end
end DL
namespace DL
open PySem PySem.Spec PyProof.Rows L2 RT
section
variable {X : L2.Cx}
end
end DL
namespace DL
open PySem PySem.Spec PyProof.Rows L2 RT
structure WalkP (K : PySem.W.Frag) (ds : List (PyData × PyData)) (G : Hp) (J : It) : Prop where
  go : ∀ (i : Nat) (d : PyData × PyData) (G2 H2 : Hp), Same G G2 → Same G2 H2 → ds[i]? = some d → J.go i H2 ∧ ∀ v H3, J.yld i H2 v H3 → ∃ T u1 u2 G3, v = .ref T ∧ H3 T = some (.tup [u1, u2]) ∧ Ext G2 H2 G3 H3 ∧ Dq K G3 u1 d.1 ∧ Dq K G3 u2 d.2
  stop : ∀ (i : Nat) (G2 H2 : Hp), Same G G2 → Same G2 H2 → i = ds.length → J.stop i H2
def iP (m : KM) (B : Bx) (W : WX) (F : Rho → Res (List (PyData × PyData))) : TI := fun σ H R => ∃ G ρ, DEnv m B G H σ ρ ∧ Sat m B W G σ (F ρ) fun ds ρ' => ∀ J G' H', DEnv m B G' H' σ ρ' → Same G G' → WalkP m.K ds G' J → R J H'
def gP (m : KM) (B : Bx) (U : Tgs) : TG := fun v σ H Q => ∃ G ρ d1 d2 ρ' T u1 u2, DEnv m B G H σ ρ ∧ v = .ref T ∧ H T = some (.tup [u1, u2]) ∧ Dq m.K G u1 d1 ∧ Dq m.K G u2 d2 ∧ U [d1, d2] ρ = some ρ' ∧ ∀ σ', DEnv m B G H σ' ρ' → Q σ' H
def loopP (U : Tgs) (S : Rho → Out) : List (PyData × PyData) → Rho → Out
  | [], ρ => .nx ρ
  | d :: ds, ρ => match U [d.1, d.2] ρ with
    | none => .bad
    | some ρ1 => match S ρ1 with
      | .nx ρ2 => loopP U S ds ρ2
      | .ct ρ2 => loopP U S ds ρ2
      | .bk ρ2 => .nx ρ2
      | o => o
def forP (F : Rho → Res (List (PyData × PyData))) (U : Tgs) (S : Rho → Out) : Rho → Out := fun ρ => (F ρ).out fun ds ρ => loopP U S ds ρ
section
variable {X : L2.Cx} {B : Bx} {W : WX} {pos : Pos} {S1 : Rho → Out}
theorem pgp_tup {es : List Expr} {k : Nat} {U : Tgs} (hc : X.calm = true) (h : PGs X es (gDs (km X) B U)) (hn : (assignEach es X.env).length = 2 := by rfl) (hst : (assignEach es X.env).findIdx? (·.1) = none := by rfl) : PG X (.Tuple es k pos) (gP (km X) B U) := by
  refine (pg_tup hc h hn hst).of ?_
  rintro v σ H Q ⟨G, ρ, d1, d2, ρ', T, u1, u2, E, rfl, hT, q1, q2, hU, q⟩
  exact ⟨_, _, rfl, SqT.of hT, rfl, G, ρ, [d1, d2], ρ', E, .cons q1 (.cons q2 .nil), hU, q⟩
theorem pd_forP {tg iter : Expr} {body : List Stmt} {Fi : Rho → Res (List (PyData × PyData))} {U : Tgs} (hp : PassesOwn (model X.prog X.w) X.A X.env X.xe) (hc : X.calm = true) (hi : PI X tg iter (iP (km X) B W Fi)) (hg : PG X tg (gP (km X) B U)) (hb : PSs X body (tDS (km X) B W S1))
    (hs : ∀ x, foldedSetIterable iter X.env x = pure x := by intro _; rfl) : PS X (.For tg iter body [] pos) (tDS (km X) B W (forP Fi U S1)) := by
  refine (ps_for hp hc hi hg hb hs).of ?_
  rintro D σ H ⟨G, ρ, E, S⟩
  refine ⟨G, ρ, E, S.out.imp fun ds ρ1 s1 J G1 H1 E1 g1 wk => ?_⟩
  refine ⟨fun i m σ H => m = ds.length - i ∧ i ≤ ds.length ∧ ∃ G ρ, DEnv (km X) B G H σ ρ ∧ Same G1 G ∧ SatS (km X) B W G1 D (loopP U S1 (ds.drop i) ρ), ⟨_, rfl, Nat.zero_le _, G1, ρ1, E1, Same.refl _, s1.up g1⟩, ?_⟩
  rintro i m σ H ⟨rfl, hi, G2, ρ2, E2, g2, s2⟩
  by_cases hl : i < ds.length
  · have hd : ds[i]? = some ds[i] := List.getElem?_eq_getElem hl
    obtain ⟨w1, w2⟩ := wk.go i _ G2 H g2 E2.base.gh hd
    refine .inr ⟨w1, fun σ' H' => ∃ G ρ, DEnv (km X) B G H' σ' ρ ∧ Same G1 G ∧ SatS (km X) B W G1 D (loopP U S1 (ds.drop (i + 1)) ρ), fun σ' H' n => ⟨ds.length - (i + 1), by omega, rfl, hl, n⟩, fun v H3 y => ?_⟩
    obtain ⟨T, u1, u2, G3, hv, hT, ext, p1, p2⟩ := w2 v H3 y
    have E3 := E2.ext ext
    rw [List.drop_eq_getElem_cons hl] at s2
    unfold loopP at s2
    cases hU : U [ds[i].1, ds[i].2] ρ2 with
    | none => rw [hU] at s2; exact s2.elim
    | some ρ3 =>
      rw [hU] at s2
      refine ⟨G3, ρ2, ds[i].1, ds[i].2, ρ3, T, u1, u2, E3, hv, hT, p1, p2, hU, fun σ' E' => ⟨G3, ρ3, E', ?_⟩⟩
      dsimp only at s2
      have g3 : Same G1 G3 := g2.trans ext.g
      cases hS : S1 ρ3 with
      | nx ρ4 =>
        rw [hS] at s2
        exact fun σ G H E g => ⟨G, ρ4, E, g3.trans g, s2⟩
      | ct ρ4 =>
        rw [hS] at s2
        exact fun σ G H E g => ⟨G, ρ4, E, g3.trans g, s2⟩
      | bk ρ4 =>
        rw [hS] at s2
        exact fun σ G H E g => s2 σ G H E (g3.trans g)
      | rt d => rw [hS] at s2; exact s2
      | ex x ρ4 =>
        rw [hS] at s2
        exact fun cls dd σ G H E g => s2 cls dd σ G H E (g3.trans g)
      | bad => rw [hS] at s2; exact s2
  · have hi' : i = ds.length := by omega
    subst hi'
    rw [List.drop_length] at s2
    exact .inl ⟨wk.stop _ G2 H g2 E2.base.gh rfl, s2 σ G2 H E2 g2⟩
def enumD (xs : List PyData) : List (PyData × PyData) := (List.range xs.length).zipWith (fun i x => (.int (i : Nat), x)) xs
def enumF (F : Rho → Res PyData) : Rho → Res (List (PyData × PyData)) := fun ρ => (F ρ).bind fun d ρ => match d with
  | .list xs => .ok (enumD xs) ρ
  | _ => .bad
theorem enumD_get {xs : List PyData} {i : Nat} {d : PyData × PyData} (h : (enumD xs)[i]? = some d) : d.1 = .int (i : Nat) ∧ xs[i]? = some d.2 := by
  unfold enumD at h
  rw [List.getElem?_zipWith] at h
  cases e1 : xs[i]? with
  | none => rw [e1] at h; cases hh : (List.range xs.length)[i]? <;> rw [hh] at h <;> cases h
  | some x =>
    have hi : i < xs.length := by
      apply Classical.byContradiction
      intro z
      rw [List.getElem?_eq_none (by omega)] at e1
      cases e1
    rw [e1, List.getElem?_range hi] at h
    cases h
    exact ⟨rfl, rfl⟩
theorem enumD_len (xs : List PyData) : (enumD xs).length = xs.length := by simp [enumD]
theorem pid_enum {e : Expr} {F : Rho → Res PyData} {p tpos : Pos} {elts : List Expr} {kk : Nat} (hm : X.mg "enumerate" = none) (ha : PE X e (tD (km X) B W F)) (hg : Gl X "enumerate" := by rfl) (hs : starEach [e] X.env = [(false, eval e X.env)] := by rfl) (h2 : starEach [e] X.env = (false, eval e X.env) :: starEach [] X.env := by rfl) :
    PI X (.Tuple elts kk tpos) (.Call (.Name "enumerate" p) [e] [] pos) (iP (km X) B W (enumF F)) := by
  refine (pi_enum hg hm (pa_cons ha pa_nil h2) hs).of ?_
  rintro σ H R ⟨G, ρ, E, S⟩
  refine ⟨G, ρ, E, (Sat.bind S).imp fun d ρ1 s1 v G1 H1 E1 g1 dp1 => ?_⟩
  cases d <;> first | exact s1.elim | skip
  rename_i ds
  cases dp1 with
  | lst a1 a2 =>
    rename_i a vs
    refine ⟨a, vs, rfl, E1.base.gh.seq a1, s1 _ G1 H1 E1 g1 ⟨fun i d G2 H2 g2 gh hd => ?_, fun i G2 H2 g2 gh hi => ?_⟩⟩
    · obtain ⟨e1, e2⟩ := enumD_get hd
      have q : SqL X.K H2 a vs := gh.seq (g2.seq a1)
      have hl : i < ds.length := by
        apply Classical.byContradiction
        intro z
        rw [List.getElem?_eq_none (by omega)] at e2
        cases e2
      have hl2 : i < vs.length := by rw [a2.len]; exact hl
      refine ⟨⟨vs, vs[i], q, by simp [hl2]⟩, fun v H3 y => ?_⟩
      obtain ⟨T, x, rfl, hT, rfl, hx⟩ := y
      have hx' := hx vs q
      obtain ⟨u, hu, dp⟩ := dpAll_ix a2 (show atI _ ((i : Nat) : Int) = some d.2 from atI_nat e2)
      rw [atI_nat hx'] at hu
      cases hu
      have ext : Ext G2 H2 G2 (upd H2 T (.tup [.int (i : Nat), x])) := Ext.newOwn gh hT
      exact ⟨T, .int (i : Nat), x, G2, rfl, upd_same, ext, by rw [e1]; exact .int _, dp_same g2 _ _ dp⟩
    · refine ⟨vs, gh.seq (g2.seq a1), ?_⟩
      rw [enumD_len] at hi
      rw [a2.len, hi]
      exact Nat.le_refl _
end
@[simp] theorem forP_apc {F : Rho → Res (List (PyData × PyData))} {U : Tgs} {S : Rho → Out} {e0 : Ent} {ρ : Rho} : forP F U S (e0 :: ρ) = (F (e0 :: ρ)).out fun ds ρ => loopP U S ds ρ := id rfl
@[simp] theorem enumF_apc {F : Rho → Res PyData} {e0 : Ent} {ρ : Rho} : enumF F (e0 :: ρ) = (F (e0 :: ρ)).bind fun d ρ => match d with
  | .list xs => .ok (enumD xs) ρ
  | _ => .bad := id rfl
end DL
namespace DL
open PySem PySem.Spec PyProof.Rows L2 RT
def part3S (F1 F2 : Rho → Res PyData) (U : Tgs) : Rho → Out := fun ρ => (F1 ρ).out fun d ρ => if isS d = true then (F2 ρ).out fun e ρ => match d, e with
  | .str a, .str b => if (b.length == 0) = false ∧ a.length ≤ sizeLine then optS (U [.str (Txt.partition a b).1, .str (Txt.partition a b).2.1, .str (Txt.partition a b).2.2] ρ) else .bad
  | _, _ => .bad
  else .bad
section
variable {X : L2.Cx} {B : Bx} {W : WX} {pos : Pos}
theorem pd_part3 {o e : Expr} {es : List Expr} {apos cpos pt : Pos} {k : Nat} {F1 F2 : Rho → Res PyData} {U : Tgs} (hc : X.calm = true) (ho : PE X o (tD (km X) B W F1)) (he : PE X e (tD (km X) B W F2)) (hg : PGs X es (gDs (km X) B U))
    (hn : (assignEach es X.env).length = 3 := by rfl) (hst : (assignEach es X.env).findIdx? (·.1) = none := by rfl)
    (hs1 : starEach [e] X.env = [(false, eval e X.env)] := by rfl) (hbase : attributeBase o "partition" X.env (eval o X.env) = eval o X.env := by rfl) (hline : (apos.endLine == cpos.line) = true := by rfl)
    (hs : swapsWithSole [.Tuple es k pt] (.Call (.Attribute o "partition" apos) [e] [] cpos) pos.line X.env = pure false := by rfl) (hw : swappedStores [.Tuple es k pt] (.Call (.Attribute o "partition" apos) [e] [] cpos) X.env = pure none := by rfl)
    (h1 : (assignEach [(.Tuple es k pt : Expr)] X.env).map (·.2) = [assign (.Tuple es k pt) X.env] := by rfl) :
    PS X (.Assign [.Tuple es k pt] (.Call (.Attribute o "partition" apos) [e] [] cpos) pos) (tDS (km X) B W (part3S F1 F2 U)) := by
  refine (ps_asg (pe_partition ho he hs1 hbase hline) (pg_tup hc hg hn hst) hs hw h1).of ?_
  rintro D σ H ⟨G, ρ, E, S⟩
  refine ⟨G, ρ, E, (SatS.out S).imp fun d ρ1 s1 v G1 H1 E1 g1 dp1 => ?_⟩
  by_cases hS : isS d = true
  · rw [if_pos hS] at s1
    cases d <;> first | (cases hS; done) | skip
    rename_i a
    cases dp1
    refine ⟨⟨_, rfl⟩, G1, ρ1, E1, ((SatS.out s1).up g1).imp fun e ρ2 s2 u G2 H2 E2 g2 dp2 => ?_⟩
    cases e <;> first | exact s2.elim | skip
    rename_i b
    cases dp2
    dsimp only at s2
    by_cases hb : (b.length == 0) = false ∧ a.length ≤ sizeLine
    · rw [if_pos hb] at s2
      obtain ⟨ρ3, h3, q⟩ := sat_optS s2
      refine ⟨a, b, rfl, rfl, hb.1, hb.2, fun p hp => ?_⟩
      have x : Ext G2 H2 G2 (upd H2 p (.tup [.str (Txt.partition a b).1, .str (Txt.partition a b).2.1, .str (Txt.partition a b).2.2])) := Ext.newOwn E2.base.gh hp
      exact ⟨p, _, rfl, SqT.of upd_same, rfl, G2, ρ2, _, ρ3, E2.ext x, .cons (.str _) (.cons (.str _) (.cons (.str _) .nil)), h3, fun σ' E' => q σ' G2 _ E' (g1.trans g2)⟩
    · rw [if_neg hb] at s2
      exact s2.elim
  · rw [if_neg hS] at s1
    exact s1.elim
end
end DL
namespace DL
open PySem PySem.Spec PyProof.Rows L2 RT
section
variable {X : L2.Cx} {B : Bx} {W : WX} {pos : Pos} {e : Expr} {F : Rho → Res PyData}
def tAsg2 (te : TE) (g1 g2 : TG) : TS := fun D σ H => te σ H fun x H1 => g1 x σ H1 fun σ2 H2 => g2 x σ2 H2 D.nx
theorem ps_asg2 {t1 t2 e : Expr} {te : TE} {g1 g2 : TG} (he : PE X e te) (h1 : PG X t1 g1) (h2 : PG X t2 g2) (hs : swapsWithSole [t1, t2] e pos.line X.env = pure false := by rfl) (hw : swappedStores [t1, t2] e X.env = pure none := by rfl)
    (ha : (assignEach [t1, t2] X.env).map (·.2) = [assign t1 X.env, assign t2 X.env] := by rfl) : PS X (.Assign [t1, t2] e pos) (tAsg2 te g1 g2) := by
  refine ⟨fun pins s σ H D I h => ?_⟩
  refine wpAny_Assign_stores (thn (he.run pins s σ H _ I h) fun v s1 ⟨x, H1, I1, r1, q1⟩ => ?_) hs hw
  rw [ha]
  refine wpAny_bind (wpAny_holding (thn (h1.run pins s1 σ H1 x v _ I1 r1 q1) fun _ s2 z => ?_))
  obtain ⟨σ2, H2, I2, q2⟩ := z
  exact thn (h2.run pins s2 σ2 H2 x v _ I2 r1 q2) fun _ s3 q => q
def asg2S (F : Rho → Res PyData) (i j : Nat) : Rho → Out := fun ρ => (F ρ).out fun d ρ => if i < ρ.length ∧ j < ρ.length then .nx ((ρ.set i (.d d)).set j (.d d)) else .bad
theorem pd_asg2 (i j : Nat) {x y : Str} {px py : Pos} (hN : X.N.Nodup) (he : PE X e (tD (km X) B W F)) (hi : X.N[i]? = some x := by rfl) (hj : X.N[j]? = some y := by rfl)
    (hx : Loc X.env.scope x := by first | exact Or.inl rfl | exact Or.inr rfl) (hy : Loc X.env.scope y := by first | exact Or.inl rfl | exact Or.inr rfl)
    (fx : X.fn x = true ∨ X.env.scope.names.lookup x = some .local := by first | exact .inl rfl | exact .inr rfl | assumption) (fy : X.fn y = true ∨ X.env.scope.names.lookup y = some .local := by first | exact .inl rfl | exact .inr rfl | assumption)
    (hs : swapsWithSole [(.Name x px : Expr), .Name y py] e pos.line X.env = pure false := by rfl) (hw : swappedStores [(.Name x px : Expr), .Name y py] e X.env = pure none := by rfl) :
    PS X (.Assign [.Name x px, .Name y py] e pos) (tDS (km X) B W (asg2S F i j)) := by
  refine (ps_asg2 he (pg_name hN hi hx fx) (pg_name hN hj hy fy) hs hw).of ?_
  rintro D σ H ⟨G, ρ, E, S⟩
  refine ⟨G, ρ, E, (SatS.out S).imp fun d ρ1 s1 v G1 H1 E1 g1 dp1 => ?_⟩
  by_cases hl : i < ρ1.length ∧ j < ρ1.length
  · rw [if_pos hl] at s1
    exact s1 _ _ _ ((E1.put hl.1 dp1).put (by simpa using hl.2) dp1) g1
  · rw [if_neg hl] at s1
    exact s1.elim
def par3T (i j l : Nat) (t : Str) (d : PyData) : Rho → Out := fun ρ => if i < ρ.length ∧ j < ρ.length ∧ l < ρ.length then .nx (((ρ.set i (.own [])).set j (.d (.str t))).set l (.d d)) else .bad
theorem pd_par3T (i j l : Nat) {x y z c t : Str} {q : Nat} {px py pz pt p1 p2 p3 : Pos} {kt k2 pt2} {v : V} {u : Value} {d : PyData} (hc : X.calm = true) (hN : X.N.Nodup) (hm : X.mg c = some u) (r : RelV v u) (hdq : ∀ G : Hp, Dq X.K G v d) (hi : X.N[i]? = some x := by rfl) (hj : X.N[j]? = some y := by rfl) (hl : X.N[l]? = some z := by rfl)
    (hij : i ≠ j := by decide) (hil : i ≠ l := by decide) (hjl : j ≠ l := by decide) (hx : X.env.scope.names.lookup x = some .local := by rfl) (hy : X.env.scope.names.lookup y = some .local := by rfl) (hz : X.env.scope.names.lookup z = some .local := by rfl)
    (hw : swappedStores [.Tuple [.Name x px, .Name y py, .Name z pz] kt pt] (.Tuple [.List [] p1, .Constant (.str t) q p2, .Name c p3] k2 pt2) X.env = pure (some [x, y, z]) := by rfl)
    (hs : swapsWithSole [.Tuple [.Name x px, .Name y py, .Name z pz] kt pt] (.Tuple [.List [] p1, .Constant (.str t) q p2, .Name c p3] k2 pt2) pos.line X.env = pure false := by rfl)
    (hg : Gl X c := by rfl) (hd : (c == ("__debug__" : Str)) = false := by decide) :
    PS X (.Assign [.Tuple [.Name x px, .Name y py, .Name z pz] kt pt] (.Tuple [.List [] p1, .Constant (.str t) q p2, .Name c p3] k2 pt2) pos) (tDS (km X) B W (par3T i j l t d)) := by
  refine (ps_par3 hc hN hi hj hl hij hil hjl hx hy hz (pa_cons (pe_lst pa_nil) (pa_cons pe_str (pa_cons (pe_glob hg hm r hd) pa_nil))) hw hs).of ?_
  rintro D σ H ⟨G, ρ, E, S⟩
  unfold par3T at S
  by_cases h : i < ρ.length ∧ j < ρ.length ∧ l < ρ.length
  · rw [if_pos h] at S
    refine ⟨Nat.zero_le _, fun q1 hq1 => ⟨_, _, _, rfl, ?_⟩⟩
    have E1 := E.putOwn h.1 hq1 .nil
    have E2 := E1.put (i := j) (by simpa using h.2.1) (.str t)
    exact S _ _ _ (E2.put (i := l) (by simpa using h.2.2) (hdq _)) (Same.refl _)
  · rw [if_neg h] at S
    exact S.elim
def KDG (w : World) (K : PySem.W.Frag) (mg : Str → Option Value) (x : Str) (kvs : List (Str × PyData)) : Prop :=
  ∃ d es n, mg x = some (.ref d) ∧ KDict K w d es n ∧ ∀ p ∈ kvs, ∃ u v, PySem.W.nsIn K d p.1 = some (some u) ∧ RelV v u ∧ ∀ G : Hp, Dq K G v p.2
def ixGF (kvs : List (Str × PyData)) (F : Rho → Res PyData) : Rho → Res PyData := fun ρ => (F ρ).bind fun d ρ => match d with
  | .str z => (match kvs.find? fun p => decide (p.1 = z) with
    | some p => .ok p.2 ρ
    | none => .bad)
  | _ => .bad
theorem pd_ixG {x : Str} {px : Pos} {kvs : List (Str × PyData)} (hk : KDG X.w X.K X.mg x kvs) (ha : PE X e (tD (km X) B W F)) (hs : PlainIx e := by exact fun _ _ => rfl) (hg : Gl X x := by rfl) (hd : (x == ("__debug__" : Str)) = false := by decide) :
    PE X (.Subscript (.Name x px) e pos) (tD (km X) B W (ixGF kvs F)) := by
  obtain ⟨d, es, n, hm, D, h1⟩ := hk
  refine (pe_ix ix_kdict (pe_glob (v := .ref d) hg hm rfl hd) ha hs).of ?_
  rintro σ H Q ⟨G, ρ, E, S⟩
  refine ⟨G, ρ, E, (Sat.bind S).imp fun y ρ1 s1 v G1 H1 E1 g1 dp1 => ?_⟩
  cases y <;> first | exact s1.elim | skip
  rename_i z
  cases dp1
  dsimp only at s1
  cases q : kvs.find? fun p => decide (p.1 = z) with
  | none => rw [q] at s1; exact s1.elim
  | some p =>
    rw [q] at s1
    obtain ⟨u, v0, ht, hr, hq⟩ := h1 p (List.mem_of_find?_eq_some q)
    have ez : p.1 = z := by simpa using List.find?_some q
    rw [ez] at ht
    exact ⟨_, z, v0, rfl, rfl, ⟨es, n, u, D.at_, D.lit, ht, hr⟩, s1 v0 G1 H1 E1 g1 (hq _)⟩
end
@[simp] theorem asg2S_apc {F : Rho → Res PyData} {i j : Nat} {e0 : Ent} {ρ : Rho} : asg2S F i j (e0 :: ρ) = (F (e0 :: ρ)).out fun d ρ => if i < ρ.length ∧ j < ρ.length then .nx ((ρ.set i (.d d)).set j (.d d)) else .bad := id rfl
@[simp] theorem par3T_apc {i j l : Nat} {t : Str} {d : PyData} {e0 : Ent} {ρ : Rho} : par3T i j l t d (e0 :: ρ) = if i < (e0 :: ρ).length ∧ j < (e0 :: ρ).length ∧ l < (e0 :: ρ).length then .nx ((((e0 :: ρ).set i (.own [])).set j (.d (.str t))).set l (.d d)) else .bad := id rfl
@[simp] theorem ixGF_apc {kvs : List (Str × PyData)} {F : Rho → Res PyData} {e0 : Ent} {ρ : Rho} : ixGF kvs F (e0 :: ρ) = (F (e0 :: ρ)).bind fun d ρ => match d with
  | .str z => (match kvs.find? fun p => decide (p.1 = z) with
    | some p => .ok p.2 ρ
    | none => .bad)
  | _ => .bad := id rfl
@[simp] theorem part3S_apc {F1 F2 : Rho → Res PyData} {U : Tgs} {e0 : Ent} {ρ : Rho} : part3S F1 F2 U (e0 :: ρ) = (F1 (e0 :: ρ)).out fun d ρ => if isS d = true then (F2 ρ).out fun e ρ => match d, e with
  | .str a, .str b => if (b.length == 0) = false ∧ a.length ≤ sizeLine then optS (U [.str (Txt.partition a b).1, .str (Txt.partition a b).2.1, .str (Txt.partition a b).2.2] ρ) else .bad
  | _, _ => .bad
  else .bad := id rfl
end DL
namespace DL
open PySem PySem.Spec PyProof.Rows L2 RT
open PySem.Froz (SD sObj addTx tailTx TxOk)
def txOf : Value → Str
  | .str x _ => x
  | _ => ""
def txs (D : SD) : List Str := D.1.toList.map fun e => txOf e.2
section
variable {ep : Nat} {es1 : Array (Int × Value)} {t2 : SetTable} {wd : Bool}
end
structure Pay (P : Program) (w : World) (D : SD) (l : List Str) : Prop where
  ok : TxOk P w D l
  pm : (txs D).Perm l
  ris : Ris D.2.2.place.toList
  led : w.params.followText "set-order" = true ∨ D.2.2.led = true
section
variable {P : Program} {w : World} {A : Around} {E : Value → Shared → Prop} {s : Shared} {a : Addr} {D : SD} {l : List Str} {k : Str} {u : Tok}
end
section
variable {X : L2.Cx}
end
end DL
namespace DL
open PySem PySem.Spec PyProof.Rows L2 RT
section
variable {t1 t2 i1 i2 elt : Expr} {scope : Scope} {pos : Pos}
variable {X : L2.Cx}
end
end DL
namespace DL
open PySem PySem.Spec PyProof.Rows L2 RT
section
variable {m : KM} {B : Bx} {G H : Hp} {σ : L2.St} {ρ : Rho}
end
section
variable {X : L2.Cx} {B : Bx} {W : WX} {pos : Pos} {vs : List Nat}
end
end DL
namespace DL
open PySem PySem.Spec PyProof.Rows L2 RT
section
variable {X : L2.Cx} {B : Bx} {W : WX} {e : Expr} {pos : Pos} {F : Rho → Res PyData}
end
end DL
namespace DL
open PySem PySem.Spec PyProof.Rows L2 RT
mutual
def keyN : PyData → Option NestedKey
  | .none => some .none
  | .int i => some (.num i)
  | .str x => some (.text x)
  | .tuple ds => (keysN ds).map .tup
  | _ => none
def keysN : List PyData → Option (List NestedKey)
  | [] => some []
  | d :: ds => (keyN d).bind fun k => (keysN ds).map (k :: ·)
end
section
variable {X : L2.Cx} {pins : List (Addr × Obj)} {σ : L2.St} {G H : Hp} {s : Shared}
end
def valN (kvs : List (NestedKey × Int)) (k : NestedKey) : Option Int := (kvs.find? fun p => decide (p.1 = k)).map (·.2)
def putN (kvs : List (NestedKey × Int)) (k : NestedKey) (n : Int) : List (NestedKey × Int) :=
  if (valN kvs k).isSome = true then kvs.map (fun p => if p.1 = k then (p.1, n) else p) else kvs ++ [(k, n)]
section
variable {K : PySem.W.Frag} {G : Hp}
theorem valN_mem {kvs : List (NestedKey × Int)} {k : NestedKey} (h : (valN kvs k).isSome = false) : k ∉ kvs.map (·.1) := fun z => by
  obtain ⟨p, hp, e⟩ := List.mem_map.mp z
  cases q : kvs.find? fun p => decide (p.1 = k) with
  | none =>
    have := List.find?_eq_none.mp q p hp
    simp [e] at this
  | some x => simp [valN, q] at h
end
section
variable {X : L2.Cx} {pins : List (Addr × Obj)} {σ : L2.St} {G H : Hp} {s : Shared} {A : Around} {E : Value → Shared → Prop} {a b : Addr} {xs : List (NestedKey × Addr × Value)} {kvs : List (NestedKey × Int)} {d : PyData} {k : NestedKey}
end
end DL
namespace DL
open PySem PySem.Spec PyProof.Rows L2 RT
section
variable {X : L2.Cx} {o : Expr} {p pos apos mpos : Pos} {td : TE}
end
end DL
namespace DL
open PySem PySem.Spec PyProof.Rows L2 RT
def isNdc : Ent → Bool
  | .ndc _ => true
  | _ => false
def onlyN (i : Nat) (ρ : Rho) : Bool := (ρ.set i .un).all fun e => !isNdc e
section
variable {m : KM} {B : Bx} {G H : Hp} {σ : L2.St} {ρ : Rho}
end
section
variable {X : L2.Cx} {B : Bx} {W : WX} {pos pos' px : Pos} {e f : Expr} {x : Str} {F Fk Fv : Rho → Res PyData}
def newNS (i : Nat) : Rho → Out := fun ρ => if i < ρ.length then .nx (ρ.set i (.ndc [])) else .bad
def isN (o : Option Ent) : Bool := match o with
  | some (.ndc _) => true
  | _ => false
def isTupN : PyData → Bool
  | .tuple _ => true
  | _ => false
def atN (i : Nat) (k : PyData) (ρ : Rho) : Option (List (NestedKey × Int) × NestedKey) := match ρ[i]? with
  | some (.ndc kvs) => if isTupN k = true then (keyN k).bind fun key => if key.depth ≤ 8 then some (kvs, key) else none else none
  | _ => none
noncomputable def putNS (i : Nat) (Fk Fv : Rho → Res PyData) : Rho → Out := fun ρ => (Fv ρ).out fun v ρ => if isN ρ[i]? = true then (Fk ρ).out fun k ρ => match atN i k ρ, v with
  | some (kvs, key), .int n => if kvs.length < 1000000 ∧ onlyN i ρ = true then .nx (ρ.set i (.ndc (putN kvs key n))) else .bad
  | _, _ => .bad
  else .bad
noncomputable def inNF (neg : Bool) (i : Nat) (Fk : Rho → Res PyData) : Rho → Res PyData := fun ρ => (Fk ρ).bind fun k ρ => match atN i k ρ with
  | some (kvs, key) => .ok (.bool (neg != (valN kvs key).isSome)) ρ
  | none => .bad
noncomputable def ixNF (i : Nat) (Fk : Rho → Res PyData) : Rho → Res PyData := fun ρ => if isN ρ[i]? = true then (Fk ρ).bind fun k ρ => match atN i k ρ with
  | some (kvs, key) => optR ((valN kvs key).map PyData.int) ρ
  | none => .bad
  else .bad
def sortNF (i : Nat) : Rho → Res PyData := fun ρ => match ρ[i]? with
  | some (.ndc kvs) => if kvs.length < 64 then .ok (.list ((sortI (kvs.map (·.2))).map PyData.int)) ρ else .bad
  | _ => .bad
end
end DL
namespace DL
open PySem PySem.Spec PyProof.Rows L2 RT
section
variable {X : L2.Cx} {B : Bx} {W : WX} {pos : Pos} {e : Expr} {F : Rho → Res PyData}
def dgetT (F : Rho → Res PyData) (i : Nat) (c : PyData) : Rho → Res PyData := fun ρ => (F ρ).bind fun d ρ1 => match (itemsOf d).bind pairsD, ρ1[i]? with
  | some qs, some (.d kd) => (match keyOf kd with
    | some k => .ok ((valD (mergeD [] qs) k).getD c) ρ1
    | none => .bad)
  | _, _ => .bad
def zipF (F1 F2 : Rho → Res PyData) : Rho → Res (List (PyData × PyData)) := fun ρ => (F1 ρ).bind fun d ρ => (F2 ρ).bind fun e ρ => match d, e with
  | .list xs, .list ys => .ok (xs.zip ys) ρ
  | _, _ => .bad
abbrev mkP (d : PyData × PyData) : PyData := .tuple [d.1, d.2]
def pairsF (F : Rho → Res (List (PyData × PyData))) : Rho → Res (List PyData) := fun ρ => (F ρ).bind fun ds ρ => .ok (ds.map mkP) ρ
end
end DL
namespace DL
open PySem PySem.Spec PyProof.Rows L2 RT
section
variable {X : L2.Cx} {B : Bx} {W : WX} {pos : Pos} {e : Expr} {F : Rho → Res PyData}
end
section
variable {X : L2.Cx} {B : Bx} {W : WX} {pos : Pos} {e : Expr} {F : Rho → Res PyData}
end
section
variable {X : L2.Cx} {B : Bx} {W : WX} {pos : Pos}
end
end DL
namespace DL
open PySem PySem.Spec PyProof.Rows L2 RT
def spI (C : Addr) (fs : List Str) : Sp := fun vs H Q _ => ∃ (a : Addr) (ws : List V), vs = .ref a :: ws ∧ ws.length = fs.length ∧ H a = some (exo a C none) ∧
  ∀ (dx : Addr) (H' : Hp), H dx = none → dx ≠ a → H' a = some (exo a C (some dx)) → H' dx = some (exd dx (fs.zip ws).reverse) → (∀ b, b ≠ a → b ≠ dx → H' b = H b) → Q .non H'
structure ExcI (K : PySem.W.Frag) (mg : Str → Option Value) (x qual : Str) (fs : List Str) (s : Stmt) (C fI : Addr) (fd : FuncData) : Prop where
  gP : mg x = some (.ref C)
  ox : OexC K C
  xf : XfC K C
  iC : PySem.W.findIn K (.ref C) "__init__" = some (some (.ref fI))
  tI : PySem.W.typeIn K (.ref fI) = some (.type "function")
  no : ∀ f ∈ fs, PySem.W.findIn K (.ref C) f = some none
  iP : PySem.W.isClsIn K C = true
  sP : PySem.W.subIn K (.ref C) (.ref C) = some true
  fn : Fun K "__init__" qual s fI fd
theorem ExcI.eP {K : PySem.W.Frag} {mg : Str → Option Value} {x qual : Str} {fs : List Str} {s : Stmt} {S fI : Addr} {fd : FuncData} (T : ExcI K mg x qual fs s S fI fd) : PySem.W.exmOne K (.ref S) (.ref S) = some true := by
  have e1 : (PySem.W.subIn K (.ref S) (.type "BaseException") == some true) = true := by rw [T.ox.exC] <;> rfl
  have e2 : ((PySem.W.clsIn K S).isSome && PySem.W.typeIn K (.ref S) == some (.type "type")) = true := by
    have h2' : (PySem.W.clsIn K S).isSome = true := T.iP
    rw [h2', T.ox.tyC] <;> rfl
  show (if (PySem.W.subIn K (.ref S) (.type "BaseException") == some true) = true then (if ((PySem.W.clsIn K S).isSome && PySem.W.typeIn K (.ref S) == some (.type "type")) = true then PySem.W.subIn K (.ref S) (.ref S) else none) else none) = some true
  rw [if_pos e1, if_pos e2]
  exact T.sP
theorem ct1_okI {K : PySem.W.Frag} {mg : Str → Option Value} {x qual : Str} {fs : List Str} {s : Stmt} {S fI : Addr} {fd : FuncData} (T : ExcI K mg x qual fs s S fI fd) : ∀ (nm : Str) (C : Addr) (b : Bool), ct1 x nm = some b → mg nm = some (.ref C) → PySem.W.exmOne K (.ref C) (.ref S) = some b := by
  intro nm C b h hm
  unfold ct1 at h
  split at h
  · rename_i hx
    subst hx
    cases h
    have e := T.gP.symm.trans hm
    cases e
    exact T.eP
  · cases h
section
variable {P : Program} {w : World} {K : PySem.W.Frag} {mg : Str → Option Value} {base : Heap}
theorem init2 {x qual f1 f2 : Str} {st : Stmt} {C fI : Addr} {fd : FuncData} {k : Nat} (T : ExcI K mg x qual [f1, f2] st C fI fd) (S : FnScope ["self", f1, f2] ["self", f1, f2] (defScope st))
    (hb : ∀ (cdv : Value) (A : Around) (outer : List Env) (s : Shared) (H : Hp) (E : XK), PSs (cxOf (L2.CX P w) P w K mg base ["self", f1, f2] qual (defScope st) fI cdv A outer s H E) (defBody st) (tSeq (tOst K f1 (tVar 0) (tVar 1)) (tOst K f2 (tVar 0) (tVar 2)))) :
    FnOk P w K mg base (L2.CX P w) (k + 1) fI fd ["self", f1, f2] (spI C [f1, f2]) := by
  refine T.fn.okX S (fun vs H Q E h => ?_) (fun cdv A outer s H vs Q E hr h => ⟨_, hb cdv A outer s H E, ?_⟩)
  · obtain ⟨a, ws, rfl, hl, _⟩ := h
    rw [List.length_cons, hl]; rfl
  · obtain ⟨a, ws, rfl, hl, ha, q⟩ := h
    obtain ⟨v1, v2, rfl⟩ : ∃ v1 v2, ws = [v1, v2] := by
      match ws, hl with
      | [v1, v2], _ => exact ⟨v1, v2, rfl⟩
    refine ⟨v1, rfl, .ref a, rfl, a, C, rfl, T.ox, T.no f1 (by simp), .inl ⟨ha, fun dx n ne => ?_⟩⟩
    refine ⟨v2, rfl, .ref a, rfl, a, C, rfl, T.ox, T.no f2 (by simp), .inr ⟨dx, [(f1, v1)], upd_same, by rw [upd_ne ne, upd_same], (show 1 ≤ 900 by decide), ?_⟩⟩
    refine q dx _ n ne (by rw [upd_ne (fun z => ne z.symm), upd_same]) upd_same fun b h1 h2 => ?_
    rw [upd_ne h2, upd_ne h1, upd_ne h2]
end
theorem lookup_mem {α : Type} : ∀ {l : List (Str × α)} {f : Str} {v : α}, l.lookup f = some v → (f, v) ∈ l
  | (g, u) :: l, f, v, h => by
    rw [List.lookup_cons] at h
    split at h
    · rename_i e
      cases h
      have : f = g := by simpa using e
      rw [this]; exact List.mem_cons_self
    · exact List.mem_cons_of_mem _ (lookup_mem h)
theorem mem_lookup {α : Type} : ∀ {l : List (Str × α)} {f : Str} {v : α}, (l.map (·.1)).Nodup → (f, v) ∈ l → l.lookup f = some v
  | (g, u) :: l, f, v, nd, h => by
    rw [List.map_cons, List.nodup_cons] at nd
    rw [List.lookup_cons]
    rcases List.mem_cons.mp h with e | h
    · cases e
      simp
    · have ne : f ≠ g := fun z => nd.1 (by rw [← z]; exact List.mem_map.mpr ⟨_, h, rfl⟩)
      have : (f == g) = false := by simpa using ne
      rw [this]
      exact mem_lookup nd.2 h
theorem zip_keys {α : Type} : ∀ {fs : List Str} {ds : List α}, ds.length = fs.length → (fs.zip ds).map (·.1) = fs
  | [], [], _ => rfl
  | f :: fs, d :: ds, h => by
    rw [List.zip_cons_cons, List.map_cons, zip_keys (by simpa using h)]
theorem zip_dq {K : PySem.W.Frag} {G : Hp} : ∀ {fs : List Str} {ds : List PyData} {vs : List V} {f : Str} {x : PyData}, DqAll K G vs ds → (f, x) ∈ fs.zip ds → ∃ v, (f, v) ∈ fs.zip vs ∧ Dq K G v x
  | [], _, _, _, _, _, h => by simp at h
  | g :: fs, [], _, _, _, _, h => by simp at h
  | g :: fs, d :: ds, _, f, x, dq, h => by
    cases dq with
    | @cons v _ vs _ h1 h2 =>
      rw [List.zip_cons_cons] at h
      rcases List.mem_cons.mp h with e | h
      · cases e
        exact ⟨v, by rw [List.zip_cons_cons]; exact List.mem_cons_self, h1⟩
      · obtain ⟨u, hu, q⟩ := zip_dq h2 h
        exact ⟨u, by rw [List.zip_cons_cons]; exact List.mem_cons_of_mem _ hu, q⟩
def raiseA (nm : Str) (fs : List Str) (A : Rho → Res (List PyData)) : Rho → Out := fun ρ => (A ρ).out fun ds ρ => if ds.length = fs.length ∧ fs.Nodup ∧ fs.length ≤ 1000 then .ex ⟨nm, fs.zip ds⟩ ρ else .bad
theorem pass_none {P : Program} {w : World} {X : L2.Cx} : Passes (L2.CX P w) X (fun _ _ _ => False) := fun _ _ _ _ _ _ _ x => by
  obtain ⟨_, _, _, _, _, _, _, _, _, _, _, _, z⟩ := x
  exact z.elim
section
variable {X : L2.Cx} {B : Bx} {W : WX} {pos pos' : Pos} {e : Expr} {es : List Expr} {A : Rho → Res (List PyData)}
theorem pd_raiseI {nm qual : Str} {fs : List Str} {s : Stmt} {C fI : Addr} {fd : FuncData} {k : Nat} {p : Pos} (hc : X.calm = true) (tk : Takes X W) (T : ExcI X.K X.mg nm qual fs s C fI fd) (F1 : FnOk X.prog X.w X.K X.mg X.base (L2.CX X.prog X.w) k fI fd ("self" :: fs) (spI C fs)) (hr : Room (k + 1) X.A)
    (hb : Binds X.K fd ("self" :: fs) []) (ha : PA X (e :: es) (tDA (km X) B W A)) (hg : Gl X nm := by rfl) (hdb : (nm == ("__debug__" : Str)) = false := by decide)
    (he : starEach (e :: es) X.env = (false, eval e X.env) :: starEach es X.env := by rfl) (hpl : (backTo pos (starEach es X.env)).any (·.1) = false := by rfl) :
    PS X (.Raise (some (.Call (.Name nm p) (e :: es) [] pos)) none pos') (tDS (km X) B W (raiseA nm fs A)) := by
  refine (ps_raise hc tk (pmk_oex T.ox T.iC T.tI F1 hr hb .nil pass_none hg T.gP ha hdb he hpl)).of ?_
  rintro D σ H ⟨G, ρ, E, S⟩
  refine ⟨G, ρ, E, S.out.imp fun ds ρ1 s1 vs G1 H1 E1 g1 dp1 => ?_⟩
  by_cases hl : ds.length = fs.length ∧ fs.Nodup ∧ fs.length ≤ 1000
  · rw [if_pos hl] at s1
    obtain ⟨h1, h2, h3⟩ := hl
    have vl : vs.length = fs.length := by rw [dp1.len, h1]
    refine ⟨by omega, fun a ha => ⟨a, vs, by simp, vl, upd_same, fun dx H' hdx ne ea ed ho => ⟨rfl, dx, _, ea, ed, ?_, ?_⟩⟩⟩
    · rwa [upd_ne ne] at hdx
    · have hd1 : H1 dx = none := by rwa [upd_ne ne] at hdx
      have ef : upd (del H' a) dx (.xd (fs.zip vs).reverse) = upd H1 dx (.xd (fs.zip vs).reverse) := by
        funext b
        by_cases h : b = dx
        · subst h; rw [upd_same, upd_same]
        · rw [upd_ne h, upd_ne h]
          by_cases ha' : b = a
          · subst ha'; rw [del_same, ha]
          · rw [del_ne ha', ho b ha' h, upd_ne ha']
      rw [ef]
      refine s1 (.ref C) (some dx) σ G1 _ (E1.ext (Ext.newOwn E1.base.gh hd1)) g1 ⟨⟨C, T.gP, rfl⟩, .inr ⟨dx, _, rfl, upd_same, E1.base.gh.free hd1, ?_, fun f x hx => ?_⟩⟩
      · cases hb : B.H dx with
        | none => rfl
        | some o =>
          have := E1.base.h _ _ hb
          rw [hd1] at this
          cases this
      obtain ⟨v, hv, q⟩ := zip_dq dp1 (lookup_mem hx)
      refine ⟨v, mem_lookup ?_ (List.mem_reverse.mpr hv), q⟩
      rw [List.map_reverse]
      refine (List.reverse_perm _).nodup_iff.mpr ?_
      rw [zip_keys vl]
      exact h2
  · rw [if_neg hl] at s1
    exact s1.elim
end
end DL
namespace DL
open PySem PySem.Spec PyProof.Rows L2 RT
def noX : Ent → Ent
  | .exv => .un
  | e => e
def killX (ρ : Rho) : Rho := ρ.map noX
structure HOk (m : KM) (ct : Str → Option Bool) (e : Exn) (a : Addr) (cls : Value) (d : Option Addr) (B : Bx) : Prop where
  ex : B.ex = a
  ct : ct e.nm = some true
  cls : ∃ C, m.mg e.nm = some (.ref C) ∧ cls = .ref C
  fs : e.fs = [] ∨ ∃ dd fs, d = some dd ∧ B.G dd = some (.xd fs) ∧ ∀ f x, e.fs.lookup f = some x → ∃ v, fs.lookup f = some v ∧ Dq m.K B.G v x
def fldF (i : Nat) (f : Str) (e : Exn) : Rho → Res PyData := fun ρ => match ρ[i]? with
  | some .exv => (match e.fs.lookup f with
    | some x => .ok x ρ
    | none => .bad)
  | _ => .bad
def tryX (ct : Str → Option Bool) (i : Nat) (S1 : Rho → Out) (S2 : Exn → Rho → Out) : Rho → Out := fun ρ => match S1 ρ with
  | .ex e ρ1 => match ct e.nm with
    | some true => if i < ρ1.length then (match S2 e ((killX ρ1).set i .exv) with
      | .nx ρ2 => if i < ρ2.length then .nx ((killX ρ2).set i .un) else .bad
      | .bk ρ2 => if i < ρ2.length then .bk ((killX ρ2).set i .un) else .bad
      | .ct ρ2 => if i < ρ2.length then .ct ((killX ρ2).set i .un) else .bad
      | .rt d => .rt d
      | _ => .bad) else .bad
    | some false => .ex e ρ1
    | none => .bad
  | o => o
section
variable {m : KM} {B : Bx} {G H : Hp} {σ : L2.St} {ρ : Rho}
theorem kill_get {i : Nat} {e : Ent} (h : (killX ρ)[i]? = some e) : ∃ e', ρ[i]? = some e' ∧ noX e' = e := by
  unfold killX at h
  rw [List.getElem?_map] at h
  cases hz : ρ[i]? with
  | none => rw [hz] at h; cases h
  | some z => rw [hz] at h; cases h; exact ⟨z, rfl, rfl⟩
theorem kill_own {i : Nat} {xs : List PyData} (h : (killX ρ)[i]? = some (.own xs)) : ρ[i]? = some (.own xs) := by
  obtain ⟨e', h1, h2⟩ := kill_get h
  cases e' <;> cases h2 <;> exact h1
theorem kill_dct {i : Nat} {kvs : List (Key × PyData)} (h : (killX ρ)[i]? = some (.dct kvs)) : ρ[i]? = some (.dct kvs) := by
  obtain ⟨e', h1, h2⟩ := kill_get h
  cases e' <;> cases h2 <;> exact h1
theorem kill_dE {i : Nat} {f : Ent} (h : (killX ρ)[i]? = some f) (hf : dE f = true) : ρ[i]? = some f := by
  obtain ⟨e', h1, h2⟩ := kill_get h
  cases e' <;> cases h2 <;> first | exact h1 | cases hf
theorem DEnv.catch (E : DEnv m B G H σ ρ) {i : Nat} {a : Addr} {B' : Bx} {G' : Hp} (hi : i < ρ.length) (hex : B'.ex = a) (hb : Ext B'.G B'.H G' H) (hg : Same G G') (hlst : ∀ b vs, H b = some (.lst vs) → G b = none → B.H b = none → G' b = none ∧ B'.H b = none)
    (hdk : ∀ b vs, H b = some (.dK vs) → G b = none → B.H b = none → G' b = none ∧ B'.H b = none) (hnd : ∀ b xs, H b = some (NdO m.w b xs) → G b = none → B.H b = none → G' b = none ∧ B'.H b = none) : DEnv m B' G' H (σ.set i (some (.ref a))) ((killX ρ).set i .exv) := by
  have his : i < σ.length := by rw [← E.len]; exact hi
  have hik : i < (killX ρ).length := by unfold killX; rw [List.length_map]; exact hi
  refine ⟨hb, by unfold killX; simpa using E.len, fun j e hj => ?_, fun j k b ys zs hj hk s1 s2 => ?_, fun j k b kvs f hj hk hf s1 s2 => ?_⟩
  · by_cases hji : j = i
    · subst hji
      rw [List.getElem?_set_self hik] at hj
      cases hj
      rw [List.getElem?_set_self his, ← hex]
      exact .exv
    · rw [List.getElem?_set_ne (fun z => hji z.symm)] at hj ⊢
      obtain ⟨e', h1, rfl⟩ := kill_get hj
      have q := E.ent j e' h1
      generalize hs2 : σ[j]? = o2 at q
      cases q with
      | un => exact .un
      | d z => exact .d (dp_same hg _ _ z)
      | own z1 z2 z3 z4 =>
        obtain ⟨k1, k2⟩ := hlst _ _ z1 z2 z3
        exact .own z1 k1 k2 (dpAll_same hg _ _ z4)
      | dct z1 z2 z3 z4 =>
        obtain ⟨k1, k2⟩ := hdk _ _ z1 z2 z3
        exact .dct z1 k1 k2 (dk_same hg z4)
      | rdd z1 z4 => exact .rdd z1 (dk_same hg z4)
      | exv => exact .un
      | ndc z1 z2 z3 z4 =>
        obtain ⟨k1, k2⟩ := hnd _ _ z1 z2 z3
        exact .ndc z1 k1 k2 (ndk_same hg z4)
  · have hji : j ≠ i := fun z => by subst z; rw [List.getElem?_set_self hik] at hj; cases hj
    have hki : k ≠ i := fun z => by subst z; rw [List.getElem?_set_self hik] at hk; cases hk
    rw [List.getElem?_set_ne (fun z => hji z.symm)] at hj s1
    rw [List.getElem?_set_ne (fun z => hki z.symm)] at hk s2
    exact E.dis j k b ys zs (kill_own hj) (kill_own hk) s1 s2
  · have hji : j ≠ i := fun z => by subst z; rw [List.getElem?_set_self hik] at hj; cases hj
    have hki : k ≠ i := fun z => by subst z; rw [List.getElem?_set_self hik] at hk; cases hk; cases hf
    rw [List.getElem?_set_ne (fun z => hji z.symm)] at hj s1
    rw [List.getElem?_set_ne (fun z => hki z.symm)] at hk s2
    exact E.disD j k b kvs f (kill_dct hj) (kill_dE hk hf) hf s1 s2
theorem DEnv.uncatch {B' : Bx} (E : DEnv m B' G H σ ρ) {i : Nat} (hi : i < ρ.length) (hb : Ext B.G B.H G H) (hH : ∀ b, B'.H b = none → B.H b = none) : DEnv m B G H (σ.set i none) ((killX ρ).set i .un) := by
  have his : i < σ.length := by rw [← E.len]; exact hi
  have hik : i < (killX ρ).length := by unfold killX; rw [List.length_map]; exact hi
  refine ⟨hb, by unfold killX; simpa using E.len, fun j e hj => ?_, fun j k b ys zs hj hk s1 s2 => ?_, fun j k b kvs f hj hk hf s1 s2 => ?_⟩
  · by_cases hji : j = i
    · subst hji
      rw [List.getElem?_set_self hik] at hj
      cases hj
      exact .un
    · rw [List.getElem?_set_ne (fun z => hji z.symm)] at hj ⊢
      obtain ⟨e', h1, rfl⟩ := kill_get hj
      have q := E.ent j e' h1
      generalize hs2 : σ[j]? = o2 at q
      cases q with
      | un => exact .un
      | d z => exact .d z
      | own z1 z2 z3 z4 => exact .own z1 z2 (hH _ z3) z4
      | dct z1 z2 z3 z4 => exact .dct z1 z2 (hH _ z3) z4
      | rdd z1 z4 => exact .rdd z1 z4
      | exv => exact .un
      | ndc z1 z2 z3 z4 => exact .ndc z1 z2 (hH _ z3) z4
  · have hji : j ≠ i := fun z => by subst z; rw [List.getElem?_set_self hik] at hj; cases hj
    have hki : k ≠ i := fun z => by subst z; rw [List.getElem?_set_self hik] at hk; cases hk
    rw [List.getElem?_set_ne (fun z => hji z.symm)] at hj s1
    rw [List.getElem?_set_ne (fun z => hki z.symm)] at hk s2
    exact E.dis j k b ys zs (kill_own hj) (kill_own hk) s1 s2
  · have hji : j ≠ i := fun z => by subst z; rw [List.getElem?_set_self hik] at hj; cases hj
    have hki : k ≠ i := fun z => by subst z; rw [List.getElem?_set_self hik] at hk; cases hk; cases hf
    rw [List.getElem?_set_ne (fun z => hji z.symm)] at hj s1
    rw [List.getElem?_set_ne (fun z => hki z.symm)] at hk s2
    exact E.disD j k b kvs f (kill_dct hj) (kill_dE hk hf) hf s1 s2
end
theorem catch_box {m : KM} {B : Bx} {G H : Hp} {σ : L2.St} {ρ : Rho} {ct : Str → Option Bool} {e : Exn} {a : Addr} {cls : Value} {d : Option Addr} {i : Nat} (E : DEnv m B G H σ ρ) (hi : i < ρ.length) (hct : ct e.nm = some true) (ok : ExOk m B G H e cls d) :
    ∃ (B' : Bx) (G' : Hp), HOk m ct e a cls d B' ∧ Same G G' ∧ DEnv m B' G' H (σ.set i (some (.ref a))) ((killX ρ).set i .exv) ∧ (∀ b, B'.H b = none → B.H b = none) ∧ ∀ G2 H2, Ext B'.G B'.H G2 H2 → Ext B.G B.H G2 H2 := by
  obtain ⟨hc, h⟩ := ok
  rcases h with ⟨h1, h2⟩ | ⟨dd, fs, h1, h2, h3, h4, h5⟩
  · exact ⟨⟨B.G, B.H, a⟩, G, ⟨rfl, hct, hc, .inl h1⟩, Same.refl _, E.catch hi rfl E.base (Same.refl _) (fun _ _ _ a b => ⟨a, b⟩) (fun _ _ _ a b => ⟨a, b⟩) (fun _ _ _ a b => ⟨a, b⟩), fun _ z => z, fun _ _ z => z⟩
  · have g1 : Same G (upd G dd (.xd fs)) := upd_same_of h3
    refine ⟨⟨upd G dd (.xd fs), upd B.H dd (.xd fs), a⟩, upd G dd (.xd fs), ⟨rfl, hct, hc, .inr ⟨dd, fs, h1, upd_same, ?_⟩⟩, g1, ?_, fun b z => ?_, fun G2 H2 x => ?_⟩
    · intro f x hx
      obtain ⟨v, hv, q⟩ := h5 f x hx
      exact ⟨v, hv, dp_same g1 _ _ q⟩
    · have ne : ∀ {b : Addr} {o : HO}, H b = some o → o ≠ .xd fs → b ≠ dd := fun z1 z2 z => by
        rw [z, h2] at z1
        cases z1
        exact z2 rfl
      refine E.catch hi rfl ⟨Same.refl _, fun b o z => ?_, fun b o z => ?_, fun b _ k2 => k2⟩ g1 (fun b vs z1 z2 z3 => ?_) (fun b vs z1 z2 z3 => ?_) (fun b xs z1 z2 z3 => ?_)
      · have z' : upd B.H dd (.xd fs) b = some o := z
        by_cases hb : b = dd
        · subst hb; rw [upd_same] at z'; cases z'; exact h2
        · rw [upd_ne hb] at z'; exact E.base.h _ _ z'
      · have z' : upd G dd (.xd fs) b = some o := z
        by_cases hb : b = dd
        · subst hb; rw [upd_same] at z'; cases z'; exact h2
        · rw [upd_ne hb] at z'; exact E.base.gh _ _ z'
      · have nb := ne z1 (fun z => nomatch z)
        exact ⟨(upd_ne nb).trans z2, (upd_ne nb).trans z3⟩
      · have nb := ne z1 (fun z => nomatch z)
        exact ⟨(upd_ne nb).trans z2, (upd_ne nb).trans z3⟩
      · have nb := ne z1 (fun z => nomatch z)
        exact ⟨(upd_ne nb).trans z2, (upd_ne nb).trans z3⟩
    · by_cases hb : b = dd
      · subst hb; exact h4
      · have z' : upd B.H dd (.xd fs) b = none := z
        rwa [upd_ne hb] at z'
    · refine ⟨(E.base.g.trans g1).trans x.g, (upd_same_of h4).trans x.h, x.gh, fun b k1 k2 => ?_⟩
      have nb : b ≠ dd := fun z => k1 (z ▸ h4)
      exact x.cap b (by show upd B.H dd _ b ≠ none; rw [upd_ne nb]; exact k1) (by show upd G dd _ b = none; rw [upd_ne nb]; exact E.base.cap b k1 k2)
section
variable {X : L2.Cx} {B : Bx} {W : WX} {pos : Pos} {S1 : Rho → Out}
theorem pd_tryX {x n : Str} {c : Value} {i : Nat} {body suite : List Stmt} {b₀ : Stmt} {np pos' : Pos} {ct : Str → Option Bool} {S2 : Exn → Rho → Out} (hs : X.stack = X.env :: X.outer) (hf : X.env.frame = some X.env.locals) (hN : X.N.Nodup) (hi : X.N[i]? = some n) (hln : X.env.kindOf n = some .local) (hc : Names X x c) (tk : Takes X W)
    (hct : ∀ (nm : Str) (C : Addr) (b : Bool), ct nm = some b → X.mg nm = some (.ref C) → PySem.W.exmOne X.K (.ref C) c = some b)
    (hb : ∀ (W' : WX) (pn : List (Addr × Obj)) (xe : Value → Shared → Prop), Takes (X.tr pn xe) W' → PassesOwn (model X.prog X.w) X.A X.env xe → PSs (X.tr pn xe) body (tDS (km X) B W' S1))
    (hsu : ∀ (e : Exn) (a : Addr) (oe : Obj) (cls : Value) (d : Option Addr) (pn : List (Addr × Obj)) (B' : Bx), Zc cls d oe → (∃ vs, oe.data = .fields vs) → HOk (km X) ct e a cls d B' → PSs (X.suite a ((a, oe) :: pn)) (b₀ :: suite) (tDS (km X) B' (fun _ _ _ _ => False) (S2 e))) :
    PS X (.Try body [.ExceptHandler (some (.Name x np)) (some n) (b₀ :: suite) pos'] [] [] pos) (tDS (km X) B W (tryX ct i S1 S2)) := by
  refine (ps_try_as hs hf hN hi hln hc tk (tb := fun W' => tDS (km X) B W' S1) (ts := fun a cls d D σ H => ∃ (e : Exn) (B' : Bx), HOk (km X) ct e a cls d B' ∧ tDS (km X) B' (fun _ _ _ _ => False) (S2 e) D σ H) hb (fun a oe cls d pn hz hfl => ⟨fun pins s σ H D I h => ?_⟩)).of ?_
  · obtain ⟨e, B', ho, h⟩ := h
    exact (hsu e a oe cls d pn B' (by first | exact hz | exact hz.zc) hfl ho).run pins s σ H D I h
  rintro D σ H ⟨G, ρ, E, S⟩
  refine ⟨G, ρ, E, ?_⟩
  unfold tryX at S
  cases h : S1 ρ with
  | nx ρ1 => rw [h] at S; exact S
  | rt d => rw [h] at S; exact S
  | bk ρ1 => rw [h] at S; exact S
  | ct ρ1 => rw [h] at S; exact S
  | bad => rw [h] at S; exact S
  | ex x ρ1 =>
    rw [h] at S
    dsimp only at S
    intro cls dd σ1 G1 H1 E1 g1 ok
    obtain ⟨⟨C, hC, rfl⟩, ok2⟩ := id ok
    cases hb : ct x.nm with
    | none => rw [hb] at S; exact S.elim
    | some b =>
      rw [hb] at S
      refine ⟨b, hct _ C b hb hC, fun e a ha => ?_, fun e => ?_⟩
      · subst e
        dsimp only at S
        by_cases hi1 : i < ρ1.length
        · rw [if_pos hi1] at S
          obtain ⟨B', G', ho, g2, E2, hH, hx⟩ := catch_box (a := a) E1 hi1 hb ok
          refine ⟨x, B', ho, G', _, E2, ?_⟩
          have up : ∀ {ρ2 : Rho} {K : L2.St → Hp → Prop}, (∀ σ G H, DEnv (km X) B G H σ ((killX ρ2).set i .un) → Same G1 G → K σ H) → i < ρ2.length → ∀ σ2 G2 H2, DEnv (km X) B' G2 H2 σ2 ρ2 → Same G' G2 → K (σ2.set i none) H2 := fun z hl σ2 G2 H2 E3 g3 => z _ _ _ (E3.uncatch hl (hx _ _ E3.base) hH) (g2.trans g3)
          cases h2 : S2 x ((killX ρ1).set i .exv) with
          | nx ρ2 =>
            rw [h2] at S
            dsimp only at S
            by_cases hl : i < ρ2.length
            · rw [if_pos hl] at S
              exact up (fun σ G H E3 g3 => S σ G H E3 (g1.trans g3)) hl
            · rw [if_neg hl] at S
              exact S.elim
          | rt d => rw [h2] at S; exact fun v G2 H2 x2 dq => S v G2 H2 (hx _ _ x2) dq
          | bk ρ2 =>
            rw [h2] at S
            dsimp only at S
            by_cases hl : i < ρ2.length
            · rw [if_pos hl] at S
              exact up (fun σ G H E3 g3 => S σ G H E3 (g1.trans g3)) hl
            · rw [if_neg hl] at S
              exact S.elim
          | ct ρ2 =>
            rw [h2] at S
            dsimp only at S
            by_cases hl : i < ρ2.length
            · rw [if_pos hl] at S
              exact up (fun σ G H E3 g3 => S σ G H E3 (g1.trans g3)) hl
            · rw [if_neg hl] at S
              exact S.elim
          | bad => rw [h2] at S; exact S.elim
          | ex y ρ2 => rw [h2] at S; exact S.elim
        · rw [if_neg hi1] at S
          exact S.elim
      · subst e
        exact S _ dd σ1 G1 H1 E1 g1 ok
theorem pd_fld {a C fI : Addr} {oe : Obj} {cls : Value} {d : Option Addr} {pn : List (Addr × Obj)} {i : Nat} {n f nm qual : Str} {np : Pos} {fs : List Str} {s : Stmt} {fd : FuncData} {ct : Str → Option Bool} {e : Exn} (T : ExcI X.K X.mg nm qual fs s C fI fd) (hm : f ∈ fs) (hn : ∀ y, ct y = some true → y = nm) (hz : Zc cls d oe) (hfl : ∃ vs, oe.data = .fields vs) (ho : HOk (km X) ct e a cls d B)
    (hN : X.N[i]? = some n := by rfl) (hv : Vis X.env.scope n := by first | exact Or.inl rfl | exact Or.inr (Or.inl rfl) | exact Or.inr (Or.inr rfl)) (hd : (n == ("__debug__" : Str)) = false := by decide)
    (hcd : (n == ("__classdict__" : Str)) = false := by decide) (hb : attributeBase (.Name n np) f X.env (eval (.Name n np) X.env) = eval (.Name n np) X.env := by rfl) :
    PE (X.suite a ((a, oe) :: pn)) (.Attribute (.Name n np) f pos) (tD (km X) B W (fldF i f e)) := by
  refine (pe_xf T.xf (T.no f hm) hz hfl (pe_var hN hv hd hcd) hb).of ?_
  rintro σ H Q ⟨G, ρ, E, S⟩
  unfold fldF at S
  obtain ⟨C1, hC, rfl⟩ := ho.cls
  have e1 := hn _ ho.ct
  have e2 : X.mg e.nm = some (.ref C1) := hC
  rw [e1, T.gP] at e2
  cases e2
  cases e3 : ρ[i]? with
  | none => rw [e3] at S; exact S.elim
  | some en =>
    rw [e3] at S
    have q := E.ent i _ e3
    generalize hs : σ[i]? = o at q
    cases q with
    | exv =>
      dsimp only at S
      cases e4 : e.fs.lookup f with
      | none => rw [e4] at S; exact S.elim
      | some x =>
        rw [e4] at S
        rcases ho.fs with h0 | ⟨dd, fs', h1, h2, h3⟩
        · rw [h0] at e4; cases e4
        · obtain ⟨v, hv', dq⟩ := h3 f x e4
          refine ⟨.ref B.ex, hs, by rw [ho.ex], rfl, dd, fs', v, h1, E.base.gh _ _ (E.base.g _ _ h2), hv', ?_⟩
          exact S v G H E (Same.refl _) (dp_same E.base.g _ _ dq)
    | _ => exact S.elim
end
@[simp] theorem killX_nil : killX [] = [] := id rfl
@[simp] theorem killX_cons {e : Ent} {ρ : Rho} : killX (e :: ρ) = noX e :: killX ρ := id rfl
@[simp] theorem noX_d {x : PyData} : noX (.d x) = .d x := id rfl
@[simp] theorem noX_un : noX .un = .un := id rfl
@[simp] theorem fldF_apc {i : Nat} {f : Str} {e : Exn} {e0 : Ent} {ρ : Rho} : fldF i f e (e0 :: ρ) = match (e0 :: ρ)[i]? with
  | some .exv => (match e.fs.lookup f with
    | some x => .ok x (e0 :: ρ)
    | none => .bad)
  | _ => .bad := id rfl
@[simp] theorem tryX_apc {ct : Str → Option Bool} {i : Nat} {S1 : Rho → Out} {S2 : Exn → Rho → Out} {e0 : Ent} {ρ : Rho} : tryX ct i S1 S2 (e0 :: ρ) = match S1 (e0 :: ρ) with
  | .ex e ρ1 => match ct e.nm with
    | some true => if i < ρ1.length then (match S2 e ((killX ρ1).set i .exv) with
      | .nx ρ2 => if i < ρ2.length then .nx ((killX ρ2).set i .un) else .bad
      | .bk ρ2 => if i < ρ2.length then .bk ((killX ρ2).set i .un) else .bad
      | .ct ρ2 => if i < ρ2.length then .ct ((killX ρ2).set i .un) else .bad
      | .rt d => .rt d
      | _ => .bad) else .bad
    | some false => .ex e ρ1
    | none => .bad
  | o => o := id rfl
def clsIni (j : Nat) (s : Stmt) : Stmt := match s with
  | .ClassDef _ _ _ b _ _ _ _ _ _ _ => b.getD j (.Pass ⟨0, 0, 0, 0⟩)
  | s => s
theorem ct1_is {x : Str} : ∀ y, ct1 x y = some true → y = x := fun y h => by
  unfold ct1 at h
  split at h
  · assumption
  · cases h
end DL
namespace G_k09
open PySem PySem.Spec PyProof.Rows L2 DL
def topS (i : Nat) : Stmt := PySem.Challenge.pw_linpapers_k09_faults_of_comparisons.main.body.getD i (.Pass ⟨0, 0, 0, 0⟩)
abbrev ini_TextError : Stmt := clsIni 0 (topS 4)
theorem sci_TextError : FnScope ["self", "place", "what"] ["self", "place", "what"] (defScope ini_TextError) := ⟨rfl, rfl, rfl, by decide +kernel, rfl, by decide +kernel, by decide +kernel⟩
theorem di_TextError {P : Program} {w : World} {K : PySem.W.Frag} {mg : Str → Option Value} {base : Heap} {C fI : Addr} {fd : FuncData} (T : ExcI K mg "TextError" "TextError.__init__" ["place", "what"] ini_TextError C fI fd) : FnOk P w K mg base (L2.CX P w) 1 fI fd ["self", "place", "what"] (spI C ["place", "what"]) :=
  init2 (k := 0) T sci_TextError fun cdv A outer s H E => (pss_cons (ps_ost (pe_var (i := 0) (x := "self") rfl (Or.inl rfl)) (pe_var (i := 1) (x := "place") rfl (Or.inl rfl))) (pss_one (ps_ost (pe_var (i := 0) (x := "self") rfl (Or.inl rfl)) (pe_var (i := 2) (x := "what") rfl (Or.inl rfl)))))
abbrev s_number : Stmt := topS 11
theorem sc_number : FnScope ["top", "bottom", "common"] ["top", "bottom"] (defScope s_number) := ⟨rfl, rfl, rfl, by decide +kernel, rfl, by decide +kernel, by decide +kernel⟩
noncomputable def S_number : Rho → Out := (seqS (ifS (testF (binF dEq (varF 1) (cF (.int 0)))) (raiseS "NumberError") nxS) (seqS (asgS (appF (app2 bGcd) (consA (varF 0) (consA (varF 1) nilA))) (nameT 2)) (seqS (ifS (testF (binF dLt (varF 1) (cF (.int 0)))) (asgS (unF dNeg (varF 2)) (nameT 2)) nxS) (retS (tupF (consA (binF dDiv (varF 0) (varF 2)) (consA (binF dDiv (varF 1) (varF 2)) nilA)))))))
noncomputable def B_number (a0 a1 : PyData) : FR := outFR (S_number [.d a0, .d a1, .un])
noncomputable def m_number : Fn := fn2 B_number
abbrev s_plus : Stmt := topS 12
theorem sc_plus : FnScope ["first", "second", "top", "bottom", "other_top", "other_bottom"] ["first", "second"] (defScope s_plus) := ⟨rfl, rfl, rfl, by decide +kernel, rfl, by decide +kernel, by decide +kernel⟩
noncomputable def S_plus : Rho → Out := (seqS (asgS (varF 0) (tupT 2 (consTs (nameT 2) (consTs (nameT 3) nilTs)))) (seqS (asgS (varF 1) (tupT 2 (consTs (nameT 4) (consTs (nameT 5) nilTs)))) (retS (callF m_number (consA (binF dAdd (binF dMul (varF 2) (varF 5)) (binF dMul (varF 4) (varF 3))) (consA (binF dMul (varF 3) (varF 5)) nilA))))))
noncomputable def B_plus (a0 a1 : PyData) : FR := outFR (S_plus [.d a0, .d a1, .un, .un, .un, .un])
noncomputable def m_plus : Fn := fn2 B_plus
abbrev s_minus : Stmt := topS 13
theorem sc_minus : FnScope ["first", "second", "top", "bottom", "other_top", "other_bottom"] ["first", "second"] (defScope s_minus) := ⟨rfl, rfl, rfl, by decide +kernel, rfl, by decide +kernel, by decide +kernel⟩
noncomputable def S_minus : Rho → Out := (seqS (asgS (varF 0) (tupT 2 (consTs (nameT 2) (consTs (nameT 3) nilTs)))) (seqS (asgS (varF 1) (tupT 2 (consTs (nameT 4) (consTs (nameT 5) nilTs)))) (retS (callF m_number (consA (binF dSub (binF dMul (varF 2) (varF 5)) (binF dMul (varF 4) (varF 3))) (consA (binF dMul (varF 3) (varF 5)) nilA))))))
noncomputable def B_minus (a0 a1 : PyData) : FR := outFR (S_minus [.d a0, .d a1, .un, .un, .un, .un])
noncomputable def m_minus : Fn := fn2 B_minus
abbrev s_times : Stmt := topS 14
theorem sc_times : FnScope ["first", "second"] ["first", "second"] (defScope s_times) := ⟨rfl, rfl, rfl, by decide +kernel, rfl, by decide +kernel, by decide +kernel⟩
noncomputable def S_times : Rho → Out := (retS (callF m_number (consA (binF dMul (binF dIx (varF 0) (cF (.int 0))) (binF dIx (varF 1) (cF (.int 0)))) (consA (binF dMul (binF dIx (varF 0) (cF (.int 1))) (binF dIx (varF 1) (cF (.int 1)))) nilA))))
noncomputable def B_times (a0 a1 : PyData) : FR := outFR (S_times [.d a0, .d a1])
noncomputable def m_times : Fn := fn2 B_times
abbrev s_compare : Stmt := topS 15
theorem sc_compare : FnScope ["first", "second", "left", "right"] ["first", "second"] (defScope s_compare) := ⟨rfl, rfl, rfl, by decide +kernel, rfl, by decide +kernel, by decide +kernel⟩
noncomputable def S_compare : Rho → Out := (seqS (asgS (binF dMul (binF dIx (varF 0) (cF (.int 0))) (binF dIx (varF 1) (cF (.int 1)))) (nameT 2)) (seqS (asgS (binF dMul (binF dIx (varF 1) (cF (.int 0))) (binF dIx (varF 0) (cF (.int 1)))) (nameT 3)) (seqS (ifS (testF (binF dLt (varF 2) (varF 3))) (retS (unF dNeg (cF (.int 1)))) nxS) (seqS (ifS (testF (binF dGt (varF 2) (varF 3))) (retS (cF (.int 1))) nxS) (retS (cF (.int 0)))))))
noncomputable def B_compare (a0 a1 : PyData) : FR := outFR (S_compare [.d a0, .d a1, .un, .un])
noncomputable def m_compare : Fn := fn2 B_compare
abbrev s_whole_factor : Stmt := topS 16
theorem sc_whole_factor : FnScope ["values", "common", "multiple", "top", "bottom"] ["values"] (defScope s_whole_factor) := ⟨rfl, rfl, rfl, by decide +kernel, rfl, by decide +kernel, by decide +kernel⟩
noncomputable def L_whole_factor_1 : Rho → Out := (seqS (asgS (appF (app2 bGcd) (consA (varF 1) (consA (varF 3) nilA))) (nameT 1)) (asgS (appF (app2 bLcm) (consA (varF 2) (consA (varF 4) nilA))) (nameT 2)))
noncomputable def S_whole_factor : Rho → Out := (seqS (asgS (tupF (consA (cF (.int 0)) (consA (cF (.int 1)) nilA))) (tupT 2 (consTs (nameT 1) (consTs (nameT 2) nilTs)))) (seqS (forS (itemsQ (varF 0)) (tupT 2 (consTs (nameT 3) (consTs (nameT 4) nilTs))) L_whole_factor_1) (retS (callF m_number (consA (varF 2) (consA (varF 1) nilA))))))
noncomputable def B_whole_factor (a0 : PyData) : FR := outFR (S_whole_factor [.d a0, .un, .un, .un, .un])
noncomputable def m_whole_factor : Fn := fn1 B_whole_factor
abbrev s_added_up : Stmt := topS 18
theorem sc_added_up : FnScope ["pairs", "totals", "name", "amount"] ["pairs"] (defScope s_added_up) := ⟨rfl, rfl, rfl, by decide +kernel, rfl, by decide +kernel, by decide +kernel⟩
noncomputable def L_added_up_1 : Rho → Out := (putS 1 (varF 2) (callF m_plus (consA (dgetF 1 (varF 2) (cF (.tuple [.int 0, .int 1]))) (consA (varF 3) nilA))))
noncomputable def S_added_up : Rho → Out := (seqS (newDS 1) (seqS (forS (itemsQ (varF 0)) (tupT 2 (consTs (nameT 2) (consTs (nameT 3) nilTs))) L_added_up_1) (retS (appF (app1 bTuple) (consA (lcF [2] (itemsQ (dsortF 1)) (nameT 2) (testF (binF dNe (dixF 1 (varF 2)) (cF (.tuple [.int 0, .int 1])))) (tupF (consA (varF 2) (consA (dixF 1 (varF 2)) nilA)))) nilA)))))
noncomputable def B_added_up (a0 : PyData) : FR := outFR (S_added_up [.d a0, .un, .un, .un])
noncomputable def m_added_up : Fn := fn1 B_added_up
abbrev s_multiplied : Stmt := topS 19
theorem sc_multiplied : FnScope ["pairs", "factor", "name", "amount"] ["pairs", "factor"] (defScope s_multiplied) := ⟨rfl, rfl, rfl, by decide +kernel, rfl, by decide +kernel, by decide +kernel⟩
noncomputable def S_multiplied : Rho → Out := (retS (appF (app1 bTuple) (consA (lcF [2, 3] (itemsQ (varF 0)) (tupT 2 (consTs (nameT 2) (consTs (nameT 3) nilTs))) yesT (tupF (consA (varF 2) (consA (callF m_times (consA (varF 3) (consA (varF 1) nilA))) nilA)))) nilA)))
noncomputable def B_multiplied (a0 a1 : PyData) : FR := outFR (S_multiplied [.d a0, .d a1, .un, .un])
noncomputable def m_multiplied : Fn := fn2 B_multiplied
abbrev s_normal_factor : Stmt := topS 24
theorem sc_normal_factor : FnScope ["some_row", "parts", "sign", "bound", "amounts", "_", "amount", "factor"] ["some_row"] (defScope s_normal_factor) := ⟨rfl, rfl, rfl, by decide +kernel, rfl, by decide +kernel, by decide +kernel⟩
noncomputable def S_normal_factor : Rho → Out := (seqS (asgS (varF 0) (tupT 3 (consTs (nameT 1) (consTs (nameT 2) (consTs (nameT 3) nilTs))))) (seqS (ifS (andT (notT (truF (varF 1))) (testF (binF dEq (varF 3) (cF (.tuple [.int 0, .int 1]))))) (retS (cF (.tuple [.int 1, .int 1]))) nxS) (seqS (asgS (orL (lcF [5, 6] (itemsQ (varF 1)) (tupT 2 (consTs (nameT 5) (consTs (nameT 6) nilTs))) yesT (varF 6)) (lstF (consA (varF 3) nilA))) (nameT 4)) (seqS (asgS (callF m_whole_factor (consA (varF 4) nilA)) (nameT 7)) (seqS (ifS (andT (testF (binF dEq (varF 2) (cF (.str "=")))) (testF (binF dLt (callF m_compare (consA (binF dIx (varF 4) (cF (.int 0))) (consA (cF (.tuple [.int 0, .int 1])) nilA))) (cF (.int 0))))) (retS (callF m_minus (consA (cF (.tuple [.int 0, .int 1])) (consA (varF 7) nilA)))) nxS) (retS (varF 7)))))))
noncomputable def B_normal_factor (a0 : PyData) : FR := outFR (S_normal_factor [.d a0, .un, .un, .un, .un, .un, .un, .un])
noncomputable def m_normal_factor : Fn := fn1 B_normal_factor
abbrev s_normal : Stmt := topS 23
theorem sc_normal : FnScope ["some_row", "parts", "sign", "bound", "factor"] ["some_row"] (defScope s_normal) := ⟨rfl, rfl, rfl, by decide +kernel, rfl, by decide +kernel, by decide +kernel⟩
noncomputable def S_normal : Rho → Out := (seqS (asgS (varF 0) (tupT 3 (consTs (nameT 1) (consTs (nameT 2) (consTs (nameT 3) nilTs))))) (seqS (asgS (callF m_normal_factor (consA (varF 0) nilA)) (nameT 4)) (retS (tupF (consA (callF m_multiplied (consA (varF 1) (consA (varF 4) nilA))) (consA (varF 2) (consA (callF m_times (consA (varF 3) (consA (varF 4) nilA))) nilA)))))))
noncomputable def B_normal (a0 : PyData) : FR := outFR (S_normal [.d a0, .un, .un, .un, .un])
noncomputable def m_normal : Fn := fn1 B_normal
abbrev s_row : Stmt := topS 22
theorem sc_row : FnScope ["pairs", "sign", "bound", "parts"] ["pairs", "sign", "bound"] (defScope s_row) := ⟨rfl, rfl, rfl, by decide +kernel, rfl, by decide +kernel, by decide +kernel⟩
noncomputable def S_row : Rho → Out := (seqS (asgS (callF m_added_up (consA (varF 0) nilA)) (nameT 3)) (seqS (ifS (testF (inKF false [(">=", "<="), (">", "<")] ["<=", "<", "="] (varF 1))) (retS (callF m_normal (consA (tupF (consA (callF m_multiplied (consA (varF 3) (consA (cF (.tuple [.int (-1), .int 1])) nilA))) (consA (ixKF [(">=", "<="), (">", "<")] (varF 1)) (consA (callF m_minus (consA (cF (.tuple [.int 0, .int 1])) (consA (varF 2) nilA))) nilA)))) nilA))) nxS) (retS (callF m_normal (consA (tupF (consA (varF 3) (consA (varF 1) (consA (varF 2) nilA)))) nilA)))))
noncomputable def B_row (a0 a1 a2 : PyData) : FR := outFR (S_row [.d a0, .d a1, .d a2, .un])
noncomputable def m_row : Fn := fn3 B_row
abbrev s__run_end : Stmt := topS 34
theorem sc__run_end : FnScope ["text", "at", "chars", "most", "end"] ["text", "at", "chars", "most"] (defScope s__run_end) := ⟨rfl, rfl, rfl, by decide +kernel, rfl, by decide +kernel, by decide +kernel⟩
noncomputable def L__run_end_1 : Rho → Out := (augS 4 (fun i j => i + j) (cF (.int 1)))
noncomputable def S__run_end : Rho → Out := (seqS (asgS (varF 1) (nameT 4)) (seqS (whileS (andT (testF (binF dLt (varF 4) (appF (app1 bLen) (consA (varF 0) nilA)))) (andT (testF (binF dLt (binF dSub (varF 4) (varF 1)) (varF 3))) (testF (binF dIn3 (binF dIx (varF 0) (varF 4)) (varF 2))))) L__run_end_1) (retS (varF 4))))
noncomputable def B__run_end (a0 a1 a2 a3 : PyData) : FR := outFR (S__run_end [.d a0, .d a1, .d a2, .d a3, .un])
noncomputable def m__run_end : Fn := fn4 B__run_end
abbrev s__digits_end : Stmt := topS 33
theorem sc__digits_end : FnScope ["text", "at"] ["text", "at"] (defScope s__digits_end) := ⟨rfl, rfl, rfl, by decide +kernel, rfl, by decide +kernel, by decide +kernel⟩
noncomputable def S__digits_end : Rho → Out := (seqS (ifS (testF (binF dEq (binF dIx (varF 0) (varF 1)) (cF (.str "0")))) (retS (binF dAdd (varF 1) (cF (.int 1)))) nxS) (retS (callF m__run_end (consA (varF 0) (consA (varF 1) (consA (cF (.str "0123456789")) (consA (cF (.int 6)) nilA)))))))
noncomputable def B__digits_end (a0 a1 : PyData) : FR := outFR (S__digits_end [.d a0, .d a1])
noncomputable def m__digits_end : Fn := fn2 B__digits_end
abbrev s__number_end : Stmt := topS 32
theorem sc__number_end : FnScope ["text", "at", "end", "below"] ["text", "at"] (defScope s__number_end) := ⟨rfl, rfl, rfl, by decide +kernel, rfl, by decide +kernel, by decide +kernel⟩
noncomputable def S__number_end : Rho → Out := (seqS (asgS (callF m__digits_end (consA (varF 0) (consA (varF 1) nilA))) (nameT 2)) (seqS (asgS (cutF (varF 0) (someP (binF dAdd (varF 2) (cF (.int 1)))) (someP (binF dAdd (varF 2) (cF (.int 2))))) (nameT 3)) (seqS (ifS (andT (testF (binF dEq (cutF (varF 0) (someP (varF 2)) (someP (binF dAdd (varF 2) (cF (.int 1))))) (cF (.str "/")))) (andT (testF (binF dNe (varF 3) (cF (.str "")))) (andT (testF (binF dIn3 (varF 3) (cF (.str "0123456789")))) (testF (binF dNe (varF 3) (cF (.str "0"))))))) (retS (callF m__digits_end (consA (varF 0) (consA (binF dAdd (varF 2) (cF (.int 1))) nilA)))) nxS) (retS (varF 2)))))
noncomputable def B__number_end (a0 a1 : PyData) : FR := outFR (S__number_end [.d a0, .d a1, .un, .un])
noncomputable def m__number_end : Fn := fn2 B__number_end
abbrev s__token_end : Stmt := topS 31
theorem sc__token_end : FnScope ["text", "at"] ["text", "at"] (defScope s__token_end) := ⟨rfl, rfl, rfl, by decide +kernel, rfl, by decide +kernel, by decide +kernel⟩
noncomputable def S__token_end : Rho → Out := (seqS (ifS (testF (binF dIn3 (binF dIx (varF 0) (varF 1)) (cF (.str "0123456789")))) (retS (callF m__number_end (consA (varF 0) (consA (varF 1) nilA)))) nxS) (seqS (ifS (testF (binF dIn3 (binF dIx (varF 0) (varF 1)) (cF (.str "abcdefghijklmnopqrstuvwxyz")))) (retS (callF m__run_end (consA (varF 0) (consA (varF 1) (consA (binF dAdd (cF (.str "abcdefghijklmnopqrstuvwxyz")) (cF (.str "0123456789"))) (consA (cF (.int 8)) nilA)))))) nxS) (seqS (ifS (testF (binF dIn3 (cutF (varF 0) (someP (varF 1)) (someP (binF dAdd (varF 1) (cF (.int 2))))) (tupF (consA (cF (.str "<=")) (consA (cF (.str ">=")) nilA))))) (retS (binF dAdd (varF 1) (cF (.int 2)))) nxS) (seqS (ifS (testF (binF dIn3 (binF dIx (varF 0) (varF 1)) (cF (.str "+-<=>")))) (retS (binF dAdd (varF 1) (cF (.int 1)))) nxS) (retS (varF 1))))))
noncomputable def B__token_end (a0 a1 : PyData) : FR := outFR (S__token_end [.d a0, .d a1])
noncomputable def m__token_end : Fn := fn2 B__token_end
abbrev s__is_cut_off : Stmt := topS 35
theorem sc__is_cut_off : FnScope ["text", "at", "end"] ["text", "at", "end"] (defScope s__is_cut_off) := ⟨rfl, rfl, rfl, by decide +kernel, rfl, by decide +kernel, by decide +kernel⟩
noncomputable def S__is_cut_off : Rho → Out := (seqS (ifS (testF (binF dEq (varF 2) (appF (app1 bLen) (consA (varF 0) nilA)))) (retS (cF (.bool false))) nxS) (seqS (ifS (testF (binF dIn3 (binF dIx (varF 0) (varF 1)) (cF (.str "abcdefghijklmnopqrstuvwxyz")))) (retS (orV (binF dIn3 (binF dIx (varF 0) (varF 2)) (cF (.str "abcdefghijklmnopqrstuvwxyz"))) (binF dIn3 (binF dIx (varF 0) (varF 2)) (cF (.str "0123456789"))))) nxS) (retS (andV (binF dIn3 (binF dIx (varF 0) (varF 1)) (cF (.str "0123456789"))) (binF dIn3 (binF dIx (varF 0) (varF 2)) (cF (.str "0123456789")))))))
noncomputable def B__is_cut_off (a0 a1 a2 : PyData) : FR := outFR (S__is_cut_off [.d a0, .d a1, .d a2])
noncomputable def m__is_cut_off : Fn := fn3 B__is_cut_off
abbrev s__tokens : Stmt := topS 30
theorem sc__tokens : FnScope ["text", "tokens", "at", "end"] ["text"] (defScope s__tokens) := ⟨rfl, rfl, rfl, by decide +kernel, rfl, by decide +kernel, by decide +kernel⟩
noncomputable def L__tokens_1 : Rho → Out := (seqS (ifS (testF (binF dEq (binF dIx (varF 0) (varF 2)) (cF (.str " ")))) (seqS (augS 2 (fun i j => i + j) (cF (.int 1))) .ct) nxS) (seqS (asgS (callF m__token_end (consA (varF 0) (consA (varF 2) nilA))) (nameT 3)) (seqS (ifS (testF (binF dEq (varF 3) (varF 2))) (retS (tupF (consA (varF 1) (consA (varF 2) nilA)))) nxS) (seqS (appendS 1 (tupF (consA (varF 2) (consA (cutF (varF 0) (someP (varF 2)) (someP (varF 3))) nilA)))) (seqS (ifS (truF (callF m__is_cut_off (consA (varF 0) (consA (varF 2) (consA (varF 3) nilA))))) (retS (tupF (consA (varF 1) (consA (varF 3) nilA)))) nxS) (asgS (varF 3) (nameT 2)))))))
noncomputable def S__tokens : Rho → Out := (seqS (ownS nilA 1) (seqS (asgS (cF (.int 0)) (nameT 2)) (seqS (whileS (testF (binF dLt (varF 2) (appF (app1 bLen) (consA (varF 0) nilA)))) L__tokens_1) (retS (tupF (consA (varF 1) (consA (cF (.none)) nilA)))))))
noncomputable def B__tokens (a0 : PyData) : FR := outFR (S__tokens [.d a0, .un, .un, .un])
noncomputable def m__tokens : Fn := fn1 B__tokens
abbrev s__kind : Stmt := topS 36
theorem sc__kind : FnScope ["token"] ["token"] (defScope s__kind) := ⟨rfl, rfl, rfl, by decide +kernel, rfl, by decide +kernel, by decide +kernel⟩
noncomputable def S__kind : Rho → Out := (seqS (ifS (testF (binF dIn3 (binF dIx (varF 0) (cF (.int 0))) (cF (.str "0123456789")))) (retS (cF (.str "number"))) nxS) (seqS (ifS (testF (binF dIn3 (binF dIx (varF 0) (cF (.int 0))) (cF (.str "abcdefghijklmnopqrstuvwxyz")))) (retS (cF (.str "unknown"))) nxS) (seqS (ifS (testF (binF dIn3 (varF 0) (tupF (consA (cF (.str "+")) (consA (cF (.str "-")) nilA))))) (retS (varF 0)) nxS) (retS (cF (.str "sign"))))))
noncomputable def B__kind (a0 : PyData) : FR := outFR (S__kind [.d a0])
noncomputable def m__kind : Fn := fn1 B__kind
abbrev s__check : Stmt := topS 37
theorem sc__check : FnScope ["text", "tokens", "wrong", "before", "signs", "at", "token", "kind"] ["text", "tokens", "wrong"] (defScope s__check) := ⟨rfl, rfl, rfl, by decide +kernel, rfl, by decide +kernel, by decide +kernel⟩
noncomputable def L__check_1 : Rho → Out := (seqS (asgS (callF m__kind (consA (varF 6) nilA)) (nameT 7)) (seqS (ifS (orT (testF (binF dNotIn3 (varF 7) (ixGF [("number", .tuple [.str "unknown", .str "+", .str "-", .str "sign"]), ("unknown", .tuple [.str "+", .str "-", .str "sign"]), ("+", .tuple [.str "number", .str "unknown"]), ("-", .tuple [.str "number", .str "unknown"]), ("sign", .tuple [.str "number", .str "unknown", .str "-"])] (varF 3)))) (andT (testF (binF dEq (varF 7) (cF (.str "sign")))) (testF (binF dEq (varF 4) (cF (.int 1)))))) (raiseA "TextError" ["place", "what"] (consA (varF 5) (consA (cF (.str "not expected")) nilA))) nxS) (seqS (ifS (testF (binF dEq (varF 7) (cF (.str "sign")))) (augS 4 (fun i j => i + j) (cF (.int 1))) nxS) (asgS (varF 7) (nameT 3)))))
noncomputable def S__check : Rho → Out := (seqS (asgS (tupF (consA (cF (.str "sign")) (consA (cF (.int 0)) nilA))) (tupT 2 (consTs (nameT 3) (consTs (nameT 4) nilTs)))) (seqS (forS (itemsQ (varF 1)) (tupT 2 (consTs (nameT 5) (consTs (nameT 6) nilTs))) L__check_1) (seqS (ifS (testF (binF dNotN2 (varF 2) (cF (.none)))) (raiseA "TextError" ["place", "what"] (consA (varF 2) (consA (cF (.str "not a token")) nilA))) nxS) (ifS (orT (testF (binF dEq (varF 4) (cF (.int 0)))) (testF (binF dNotIn3 (varF 3) (tupF (consA (cF (.str "number")) (consA (cF (.str "unknown")) nilA)))))) (raiseA "TextError" ["place", "what"] (consA (appF (app1 bLen) (consA (varF 0) nilA)) (consA (cF (.str "not finished")) nilA))) nxS))))
noncomputable def B__check (a0 a1 a2 : PyData) : FR := outFR (S__check [.d a0, .d a1, .d a2, .un, .un, .un, .un, .un])
noncomputable def m__check : Fn := fn3 B__check
abbrev s__number_of : Stmt := topS 39
theorem sc__number_of : FnScope ["token", "top", "_", "bottom"] ["token"] (defScope s__number_of) := ⟨rfl, rfl, rfl, by decide +kernel, rfl, by decide +kernel, by decide +kernel⟩
noncomputable def S__number_of : Rho → Out := (seqS (part3S (varF 0) (cF (.str "/")) (consTs (nameT 1) (consTs (nameT 2) (consTs (nameT 3) nilTs)))) (retS (callF m_number (consA (appF (app1 bInt) (consA (varF 1) nilA)) (consA (appF (app1 bInt) (consA (orL (varF 3) (cF (.str "1"))) nilA)) nilA)))))
noncomputable def B__number_of (a0 : PyData) : FR := outFR (S__number_of [.d a0, .un, .un, .un])
noncomputable def m__number_of : Fn := fn1 B__number_of
abbrev s__row_of : Stmt := topS 38
theorem sc__row_of : FnScope ["tokens", "pairs", "sign", "bound", "side", "factor", "place", "token", "kind"] ["tokens"] (defScope s__row_of) := ⟨rfl, rfl, rfl, by decide +kernel, rfl, by decide +kernel, by decide +kernel⟩
noncomputable def L__row_of_1 : Rho → Out := (seqS (asgS (callF m__kind (consA (varF 7) nilA)) (nameT 8)) (ifS (testF (binF dEq (varF 8) (cF (.str "sign")))) (seqS (asgS (varF 7) (nameT 2)) (asg2S (cF (.tuple [.int (-1), .int 1])) 4 5)) (ifS (testF (binF dEq (varF 8) (cF (.str "unknown")))) (appendS 1 (tupF (consA (varF 7) (consA (varF 5) nilA)))) (ifS (testF (binF dEq (varF 8) (cF (.str "number")))) (seqS (asgS (callF m_times (consA (varF 5) (consA (callF m__number_of (consA (varF 7) nilA)) nilA))) (nameT 5)) (ifS (orT (testF (binF dEq (binF dAdd (varF 6) (cF (.int 1))) (appF (app1 bLen) (consA (varF 0) nilA)))) (testF (binF dNe (callF m__kind (consA (binF dIx (varF 0) (binF dAdd (varF 6) (cF (.int 1)))) nilA)) (cF (.str "unknown"))))) (asgS (callF m_minus (consA (varF 3) (consA (varF 5) nilA))) (nameT 3)) nxS)) (asgS (ifF (testF (binF dEq (varF 7) (cF (.str "+")))) (varF 4) (callF m_times (consA (varF 4) (consA (cF (.tuple [.int (-1), .int 1])) nilA)))) (nameT 5))))))
noncomputable def S__row_of : Rho → Out := (seqS (par3T 1 2 3 "" (.tuple [.int 0, .int 1])) (seqS (asg2S (cF (.tuple [.int 1, .int 1])) 4 5) (seqS (forP (enumF (varF 0)) (consTs (nameT 6) (consTs (nameT 7) nilTs)) L__row_of_1) (retS (callF m_row (consA (varF 1) (consA (varF 2) (consA (varF 3) nilA))))))))
noncomputable def B__row_of (a0 : PyData) : FR := outFR (S__row_of [.d a0, .un, .un, .un, .un, .un, .un, .un, .un])
noncomputable def m__row_of : Fn := fn1 B__row_of
abbrev s_read_row : Stmt := topS 29
theorem sc_read_row : FnScope ["text", "tokens", "wrong", "_", "token"] ["text"] (defScope s_read_row) := ⟨rfl, rfl, rfl, by decide +kernel, rfl, by decide +kernel, by decide +kernel⟩
noncomputable def S_read_row : Rho → Out := (seqS (asgS (callF m__tokens (consA (varF 0) nilA)) (tupT 2 (consTs (nameT 1) (consTs (nameT 2) nilTs)))) (seqS (dropS (callF m__check (consA (varF 0) (consA (varF 1) (consA (varF 2) nilA))))) (retS (callF m__row_of (consA (lcF [3, 4] (itemsQ (varF 1)) (tupT 2 (consTs (nameT 3) (consTs (nameT 4) nilTs))) yesT (varF 4)) nilA)))))
noncomputable def B_read_row (a0 : PyData) : FR := outFR (S_read_row [.d a0, .un, .un, .un, .un])
noncomputable def m_read_row : Fn := fn1 B_read_row
abbrev s__law_cell : Stmt := topS 41
theorem sc__law_cell : FnScope ["script", "k"] ["script", "k"] (defScope s__law_cell) := ⟨rfl, rfl, rfl, by decide +kernel, rfl, by decide +kernel, by decide +kernel⟩
noncomputable def S__law_cell : Rho → Out := (seqS (ifS (testF (binF dLt (varF 1) (appF (app1 bLen) (consA (varF 0) nilA)))) (retS (binF dIx (varF 0) (varF 1))) nxS) (retS (cF (.int 0))))
noncomputable def B__law_cell (a0 a1 : PyData) : FR := outFR (S__law_cell [.d a0, .d a1])
noncomputable def m__law_cell : Fn := fn2 B__law_cell
abbrev s__law_draw : Stmt := topS 42
theorem sc__law_draw : FnScope ["script", "k", "sizes", "cell", "drawn", "size", "stirred", "j"] ["script", "k", "sizes"] (defScope s__law_draw) := ⟨rfl, rfl, rfl, by decide +kernel, rfl, by decide +kernel, by decide +kernel⟩
noncomputable def L__law_draw_1 : Rho → Out := (seqS (appendS 4 (binF dMod (varF 3) (varF 5))) (asgS (binF dDiv (varF 3) (varF 5)) (nameT 3)))
noncomputable def L__law_draw_2 : Rho → Out := (seqS (asgS (binF dMod (binF dAdd (binF dAdd (binF dMul (varF 6) (cF (.int 48271))) (cF (.int 11))) (varF 7)) (cF (.int 2147483647))) (nameT 6)) (seqS (asgS (binF dMod (binF dAdd (binF dMul (varF 6) (cF (.int 69621))) (cF (.int 3))) (cF (.int 2147483647))) (nameT 6)) (appendS 4 (binF dMod (binF dDiv (varF 6) (cF (.int 7))) (binF dIx (varF 2) (varF 7))))))
noncomputable def S__law_draw : Rho → Out := (seqS (asgS (callF m__law_cell (consA (varF 0) (consA (varF 1) nilA))) (nameT 3)) (seqS (ifS (testF (binF dLt (varF 3) (cF (.int 0)))) (asgS (unF dNeg (varF 3)) (nameT 3)) nxS) (seqS (ownS nilA 4) (seqS (ifS (testF (binF dGe (varF 3) (binF dPow (cF (.int 10)) (cF (.int 18))))) (seqS (asgS (binF dSub (varF 3) (binF dPow (cF (.int 10)) (cF (.int 18)))) (nameT 3)) (seqS (forS (itemsQ (varF 2)) (nameT 5) L__law_draw_1) (retS (varF 4)))) nxS) (seqS (asgS (binF dMod (binF dAdd (binF dAdd (varF 3) (cF (.int 1))) (binF dMul (cF (.int 31)) (varF 1))) (cF (.int 2147483647))) (nameT 6)) (seqS (forS (range1F (consA (appF (app1 bLen) (consA (varF 2) nilA)) nilA)) (nameT 7) L__law_draw_2) (retS (varF 4))))))))
noncomputable def B__law_draw (a0 a1 a2 : PyData) : FR := outFR (S__law_draw [.d a0, .d a1, .d a2, .un, .un, .un, .un, .un])
noncomputable def m__law_draw : Fn := fn3 B__law_draw
abbrev s__law_f : Stmt := topS 43
theorem sc__law_f : FnScope ["top", "bottom", "first", "second"] ["top", "bottom"] (defScope s__law_f) := ⟨rfl, rfl, rfl, by decide +kernel, rfl, by decide +kernel, by decide +kernel⟩
noncomputable def L__law_f_1 : Rho → Out := (parS (consA (varF 3) (consA (binF dMod (varF 2) (varF 3)) nilA)) 2 3)
noncomputable def S__law_f : Rho → Out := (seqS (ifS (testF (binF dLt (varF 1) (cF (.int 0)))) (seqS (asgS (unF dNeg (varF 0)) (nameT 0)) (asgS (unF dNeg (varF 1)) (nameT 1))) nxS) (seqS (asgS (appF (app2 bMax) (consA (varF 0) (consA (unF dNeg (varF 0)) nilA))) (nameT 2)) (seqS (asgS (varF 1) (nameT 3)) (seqS (whileS (testF (binF dNe (varF 3) (cF (.int 0)))) L__law_f_1) (retS (tupF (consA (binF dDiv (varF 0) (varF 2)) (consA (binF dDiv (varF 1) (varF 2)) nilA))))))))
noncomputable def B__law_f (a0 a1 : PyData) : FR := outFR (S__law_f [.d a0, .d a1, .un, .un])
noncomputable def m__law_f : Fn := fn2 B__law_f
abbrev s__law_add : Stmt := topS 44
theorem sc__law_add : FnScope ["a", "b"] ["a", "b"] (defScope s__law_add) := ⟨rfl, rfl, rfl, by decide +kernel, rfl, by decide +kernel, by decide +kernel⟩
noncomputable def S__law_add : Rho → Out := (retS (callF m__law_f (consA (binF dAdd (binF dMul (binF dIx (varF 0) (cF (.int 0))) (binF dIx (varF 1) (cF (.int 1)))) (binF dMul (binF dIx (varF 1) (cF (.int 0))) (binF dIx (varF 0) (cF (.int 1))))) (consA (binF dMul (binF dIx (varF 0) (cF (.int 1))) (binF dIx (varF 1) (cF (.int 1)))) nilA))))
noncomputable def B__law_add (a0 a1 : PyData) : FR := outFR (S__law_add [.d a0, .d a1])
noncomputable def m__law_add : Fn := fn2 B__law_add
abbrev s__law_sub : Stmt := topS 45
theorem sc__law_sub : FnScope ["a", "b"] ["a", "b"] (defScope s__law_sub) := ⟨rfl, rfl, rfl, by decide +kernel, rfl, by decide +kernel, by decide +kernel⟩
noncomputable def S__law_sub : Rho → Out := (retS (callF m__law_f (consA (binF dSub (binF dMul (binF dIx (varF 0) (cF (.int 0))) (binF dIx (varF 1) (cF (.int 1)))) (binF dMul (binF dIx (varF 1) (cF (.int 0))) (binF dIx (varF 0) (cF (.int 1))))) (consA (binF dMul (binF dIx (varF 0) (cF (.int 1))) (binF dIx (varF 1) (cF (.int 1)))) nilA))))
noncomputable def B__law_sub (a0 a1 : PyData) : FR := outFR (S__law_sub [.d a0, .d a1])
noncomputable def m__law_sub : Fn := fn2 B__law_sub
abbrev s__law_mul : Stmt := topS 46
theorem sc__law_mul : FnScope ["a", "b"] ["a", "b"] (defScope s__law_mul) := ⟨rfl, rfl, rfl, by decide +kernel, rfl, by decide +kernel, by decide +kernel⟩
noncomputable def S__law_mul : Rho → Out := (retS (callF m__law_f (consA (binF dMul (binF dIx (varF 0) (cF (.int 0))) (binF dIx (varF 1) (cF (.int 0)))) (consA (binF dMul (binF dIx (varF 0) (cF (.int 1))) (binF dIx (varF 1) (cF (.int 1)))) nilA))))
noncomputable def B__law_mul (a0 a1 : PyData) : FR := outFR (S__law_mul [.d a0, .d a1])
noncomputable def m__law_mul : Fn := fn2 B__law_mul
abbrev s__law_div : Stmt := topS 47
theorem sc__law_div : FnScope ["a", "b"] ["a", "b"] (defScope s__law_div) := ⟨rfl, rfl, rfl, by decide +kernel, rfl, by decide +kernel, by decide +kernel⟩
noncomputable def S__law_div : Rho → Out := (retS (callF m__law_f (consA (binF dMul (binF dIx (varF 0) (cF (.int 0))) (binF dIx (varF 1) (cF (.int 1)))) (consA (binF dMul (binF dIx (varF 0) (cF (.int 1))) (binF dIx (varF 1) (cF (.int 0)))) nilA))))
noncomputable def B__law_div (a0 a1 : PyData) : FR := outFR (S__law_div [.d a0, .d a1])
noncomputable def m__law_div : Fn := fn2 B__law_div
abbrev s__law_scaled : Stmt := topS 48
theorem sc__law_scaled : FnScope ["line", "factor", "name", "number_v"] ["line", "factor"] (defScope s__law_scaled) := ⟨rfl, rfl, rfl, by decide +kernel, rfl, by decide +kernel, by decide +kernel⟩
noncomputable def S__law_scaled : Rho → Out := (retS (tupF (consA (appF (app1 bTuple) (consA (lcF [2, 3] (itemsQ (binF dIx (varF 0) (cF (.int 0)))) (tupT 2 (consTs (nameT 2) (consTs (nameT 3) nilTs))) yesT (tupF (consA (varF 2) (consA (callF m__law_mul (consA (varF 3) (consA (varF 1) nilA))) nilA)))) nilA)) (consA (binF dIx (varF 0) (cF (.int 1))) (consA (callF m__law_mul (consA (binF dIx (varF 0) (cF (.int 2))) (consA (varF 1) nilA))) nilA)))))
noncomputable def B__law_scaled (a0 a1 : PyData) : FR := outFR (S__law_scaled [.d a0, .d a1, .un, .un])
noncomputable def m__law_scaled : Fn := fn2 B__law_scaled
abbrev s__law_factor : Stmt := topS 49
theorem sc__law_factor : FnScope ["line", "parts", "sign", "bound", "factor", "common", "name", "number_v", "shared", "first", "second"] ["line"] (defScope s__law_factor) := ⟨rfl, rfl, rfl, by decide +kernel, rfl, by decide +kernel, by decide +kernel⟩
noncomputable def L__law_factor_1 : Rho → Out := (asgS (binF dMul (varF 5) (binF dIx (varF 7) (cF (.int 1)))) (nameT 5))
noncomputable def L__law_factor_2 : Rho → Out := (parS (consA (varF 10) (consA (binF dMod (varF 9) (varF 10)) nilA)) 9 10)
noncomputable def L__law_factor_3 : Rho → Out := (seqS (asgS (binF dMul (appF (app2 bMax) (consA (binF dIx (varF 7) (cF (.int 0))) (consA (unF dNeg (binF dIx (varF 7) (cF (.int 0)))) nilA))) (binF dDiv (varF 5) (binF dIx (varF 7) (cF (.int 1))))) (nameT 9)) (seqS (asgS (varF 8) (nameT 10)) (seqS (whileS (testF (binF dNe (varF 10) (cF (.int 0)))) L__law_factor_2) (asgS (varF 9) (nameT 8)))))
noncomputable def S__law_factor : Rho → Out := (seqS (asgS (varF 0) (tupT 3 (consTs (nameT 1) (consTs (nameT 2) (consTs (nameT 3) nilTs))))) (seqS (ifS (testF (binF dEq (appF (app1 bLen) (consA (varF 1) nilA)) (cF (.int 0)))) (seqS (ifS (testF (binF dEq (binF dIx (varF 3) (cF (.int 0))) (cF (.int 0)))) (retS (tupF (consA (cF (.int 1)) (consA (cF (.int 1)) nilA)))) nxS) (seqS (asgS (callF m__law_div (consA (tupF (consA (cF (.int 1)) (consA (cF (.int 1)) nilA))) (consA (callF m__law_f (consA (appF (app2 bMax) (consA (binF dIx (varF 3) (cF (.int 0))) (consA (unF dNeg (binF dIx (varF 3) (cF (.int 0)))) nilA))) (consA (binF dIx (varF 3) (cF (.int 1))) nilA))) nilA))) (nameT 4)) (seqS (ifS (andT (testF (binF dEq (varF 2) (cF (.str "=")))) (testF (binF dLt (binF dIx (varF 3) (cF (.int 0))) (cF (.int 0))))) (asgS (callF m__law_mul (consA (varF 4) (consA (tupF (consA (unF dNeg (cF (.int 1))) (consA (cF (.int 1)) nilA))) nilA))) (nameT 4)) nxS) (retS (varF 4))))) nxS) (seqS (asgS (cF (.int 1)) (nameT 5)) (seqS (forS (itemsQ (varF 1)) (tupT 2 (consTs (nameT 6) (consTs (nameT 7) nilTs))) L__law_factor_1) (seqS (asgS (cF (.int 0)) (nameT 8)) (seqS (forS (itemsQ (varF 1)) (tupT 2 (consTs (nameT 6) (consTs (nameT 7) nilTs))) L__law_factor_3) (seqS (asgS (callF m__law_f (consA (varF 5) (consA (varF 8) nilA))) (nameT 4)) (seqS (ifS (andT (testF (binF dEq (varF 2) (cF (.str "=")))) (testF (binF dLt (binF dIx (binF dIx (binF dIx (varF 1) (cF (.int 0))) (cF (.int 1))) (cF (.int 0))) (cF (.int 0))))) (asgS (callF m__law_mul (consA (varF 4) (consA (tupF (consA (unF dNeg (cF (.int 1))) (consA (cF (.int 1)) nilA))) nilA))) (nameT 4)) nxS) (retS (varF 4))))))))))
noncomputable def B__law_factor (a0 : PyData) : FR := outFR (S__law_factor [.d a0, .un, .un, .un, .un, .un, .un, .un, .un, .un, .un])
noncomputable def m__law_factor : Fn := fn1 B__law_factor
abbrev s__law_normal : Stmt := topS 50
theorem sc__law_normal : FnScope ["line"] ["line"] (defScope s__law_normal) := ⟨rfl, rfl, rfl, by decide +kernel, rfl, by decide +kernel, by decide +kernel⟩
noncomputable def S__law_normal : Rho → Out := (retS (callF m__law_scaled (consA (varF 0) (consA (callF m__law_factor (consA (varF 0) nilA)) nilA))))
noncomputable def B__law_normal (a0 : PyData) : FR := outFR (S__law_normal [.d a0])
noncomputable def m__law_normal : Fn := fn1 B__law_normal
abbrev s__law_parts : Stmt := topS 51
theorem sc__law_parts : FnScope ["pairs", "sums", "name", "number_v"] ["pairs"] (defScope s__law_parts) := ⟨rfl, rfl, rfl, by decide +kernel, rfl, by decide +kernel, by decide +kernel⟩
noncomputable def L__law_parts_1 : Rho → Out := (putS 1 (varF 2) (callF m__law_add (consA (dgetF 1 (varF 2) (tupF (consA (cF (.int 0)) (consA (cF (.int 1)) nilA)))) (consA (varF 3) nilA))))
noncomputable def S__law_parts : Rho → Out := (seqS (newDS 1) (seqS (forS (itemsQ (varF 0)) (tupT 2 (consTs (nameT 2) (consTs (nameT 3) nilTs))) L__law_parts_1) (retS (appF (app1 bTuple) (consA (lcF [2] (itemsQ (dsortF 1)) (nameT 2) (testF (binF dNe (binF dIx (dixF 1 (varF 2)) (cF (.int 0))) (cF (.int 0)))) (tupF (consA (varF 2) (consA (dixF 1 (varF 2)) nilA)))) nilA)))))
noncomputable def B__law_parts (a0 : PyData) : FR := outFR (S__law_parts [.d a0, .un, .un, .un])
noncomputable def m__law_parts : Fn := fn1 B__law_parts
abbrev s__law_row : Stmt := topS 52
theorem sc__law_row : FnScope ["pairs", "sign", "bound", "name", "number_v"] ["pairs", "sign", "bound"] (defScope s__law_row) := ⟨rfl, rfl, rfl, by decide +kernel, rfl, by decide +kernel, by decide +kernel⟩
noncomputable def S__law_row : Rho → Out := (seqS (ifS (orT (testF (binF dEq (varF 1) (cF (.str ">=")))) (testF (binF dEq (varF 1) (cF (.str ">"))))) (seqS (lcS 0 [3, 4] (itemsQ (varF 0)) (tupT 2 (consTs (nameT 3) (consTs (nameT 4) nilTs))) yesT (tupF (consA (varF 3) (consA (callF m__law_sub (consA (tupF (consA (cF (.int 0)) (consA (cF (.int 1)) nilA))) (consA (varF 4) nilA))) nilA)))) (seqS (asgS (callF m__law_sub (consA (tupF (consA (cF (.int 0)) (consA (cF (.int 1)) nilA))) (consA (varF 2) nilA))) (nameT 2)) (asgS (dispF [(">=", "<="), (">", "<")] 1) (nameT 1)))) nxS) (retS (callF m__law_normal (consA (tupF (consA (callF m__law_parts (consA (varF 0) nilA)) (consA (varF 1) (consA (varF 2) nilA)))) nilA))))
noncomputable def B__law_row (a0 a1 a2 : PyData) : FR := outFR (S__law_row [.d a0, .d a1, .d a2, .un, .un])
noncomputable def m__law_row : Fn := fn3 B__law_row
abbrev s__law_pairs : Stmt := topS 53
theorem sc__law_pairs : FnScope ["digits", "pairs", "j"] ["digits"] (defScope s__law_pairs) := ⟨rfl, rfl, rfl, by decide +kernel, rfl, by decide +kernel, by decide +kernel⟩
noncomputable def L__law_pairs_1 : Rho → Out := (ifS (testF (binF dNe (binF dIx (varF 0) (varF 2)) (cF (.int 3)))) (appendS 1 (tupF (consA (binF dIx (lstF (consA (cF (.str "x")) (consA (cF (.str "b1")) (consA (cF (.str "total")) nilA)))) (varF 2)) (consA (callF m__law_f (consA (binF dSub (binF dIx (varF 0) (varF 2)) (cF (.int 3))) (consA (binF dAdd (cF (.int 1)) (binF dDiv (binF dIx (varF 0) (cF (.int 3))) (cF (.int 5)))) nilA))) nilA)))) nxS)
noncomputable def S__law_pairs : Rho → Out := (seqS (ownS nilA 1) (seqS (forS (range1F (consA (cF (.int 3)) nilA)) (nameT 2) L__law_pairs_1) (retS (varF 1))))
noncomputable def B__law_pairs (a0 : PyData) : FR := outFR (S__law_pairs [.d a0, .un, .un])
noncomputable def m__law_pairs : Fn := fn1 B__law_pairs
abbrev s__law_anyrow : Stmt := topS 54
theorem sc__law_anyrow : FnScope ["digits", "sign"] ["digits"] (defScope s__law_anyrow) := ⟨rfl, rfl, rfl, by decide +kernel, rfl, by decide +kernel, by decide +kernel⟩
noncomputable def S__law_anyrow : Rho → Out := (seqS (asgS (binF dIx (lstF (consA (cF (.str "<=")) (consA (cF (.str "<=")) (consA (cF (.str "<")) (consA (cF (.str "=")) (consA (cF (.str ">=")) (consA (cF (.str ">")) nilA))))))) (binF dIx (varF 0) (cF (.int 4)))) (nameT 1)) (retS (callF m__law_row (consA (callF m__law_pairs (consA (cutF (varF 0) noP (someP (cF (.int 4)))) nilA)) (consA (varF 1) (consA (callF m__law_f (consA (binF dSub (binF dIx (varF 0) (cF (.int 5))) (cF (.int 5))) (consA (binF dAdd (cF (.int 1)) (binF dIx (varF 0) (cF (.int 6)))) nilA))) nilA))))))
noncomputable def B__law_anyrow (a0 : PyData) : FR := outFR (S__law_anyrow [.d a0, .un])
noncomputable def m__law_anyrow : Fn := fn1 B__law_anyrow
abbrev s__law_system : Stmt := topS 55
theorem sc__law_system : FnScope ["script", "k", "most", "digits", "rows", "j", "line"] ["script", "k", "most"] (defScope s__law_system) := ⟨rfl, rfl, rfl, by decide +kernel, rfl, by decide +kernel, by decide +kernel⟩
noncomputable def L__law_system_1 : Rho → Out := (seqS (newS (cutL (varF 3) (someP (binF dAdd (cF (.int 2)) (binF dMul (cF (.int 7)) (varF 5)))) (someP (binF dAdd (cF (.int 9)) (binF dMul (cF (.int 7)) (varF 5))))) 6) (seqS (ifS (testF (binF dGt (binF dIx (varF 3) (cF (.int 1))) (cF (.int 0)))) (ownS (consA (binF dAdd (binF dDiv (binF dIx (varF 6) (cF (.int 0))) (cF (.int 2))) (cF (.int 2))) (consA (binF dIx (varF 6) (cF (.int 1))) (consA (binF dIx (varF 6) (cF (.int 2))) (consA (binF dMul (binF dIx (varF 6) (cF (.int 3))) (binF dMod (binF dIx (varF 6) (cF (.int 3))) (cF (.int 2)))) (consA (binF dIx (varF 6) (cF (.int 4))) (consA (binF dIx (varF 6) (cF (.int 5))) (consA (binF dIx (varF 6) (cF (.int 6))) nilA))))))) 6) nxS) (seqS (ifS (testF (binF dEq (binF dIx (varF 3) (cF (.int 1))) (cF (.int 3)))) (lsetS 6 (cF (.int 2)) (cF (.int 3))) nxS) (appendS 4 (callF m__law_anyrow (consA (varF 6) nilA))))))
noncomputable def S__law_system : Rho → Out := (seqS (asgS (callF m__law_draw (consA (varF 0) (consA (varF 1) (consA (binF dAdd (lstF (consA (varF 2) (consA (cF (.int 4)) nilA))) (repF (consA (cF (.int 7)) (consA (cF (.int 7)) (consA (cF (.int 7)) (consA (cF (.int 7)) (consA (cF (.int 6)) (consA (cF (.int 11)) (consA (cF (.int 2)) nilA))))))) (cF (.int 6)))) nilA)))) (nameT 3)) (seqS (ownS nilA 4) (seqS (forS (range1F (consA (binF dAdd (cF (.int 1)) (binF dIx (varF 3) (cF (.int 0)))) nilA)) (nameT 5) L__law_system_1) (retS (varF 4)))))
noncomputable def B__law_system (a0 a1 a2 : PyData) : FR := outFR (S__law_system [.d a0, .d a1, .d a2, .un, .un, .un, .un])
noncomputable def m__law_system : Fn := fn3 B__law_system
abbrev s__law_word : Stmt := topS 56
theorem sc__law_word : FnScope ["a"] ["a"] (defScope s__law_word) := ⟨rfl, rfl, rfl, by decide +kernel, rfl, by decide +kernel, by decide +kernel⟩
noncomputable def S__law_word : Rho → Out := (seqS (ifS (testF (binF dEq (binF dIx (varF 0) (cF (.int 1))) (cF (.int 1)))) (retS (appF (app1 bStr) (consA (binF dIx (varF 0) (cF (.int 0))) nilA))) nxS) (retS (binF dAdd (binF dAdd (appF (app1 bStr) (consA (binF dIx (varF 0) (cF (.int 0))) nilA)) (cF (.str "/"))) (appF (app1 bStr) (consA (binF dIx (varF 0) (cF (.int 1))) nilA)))))
noncomputable def B__law_word (a0 : PyData) : FR := outFR (S__law_word [.d a0])
noncomputable def m__law_word : Fn := fn1 B__law_word
abbrev s__law_rowtext : Stmt := topS 57
theorem sc__law_rowtext : FnScope ["line", "words", "name", "number_v", "size", "word"] ["line"] (defScope s__law_rowtext) := ⟨rfl, rfl, rfl, by decide +kernel, rfl, by decide +kernel, by decide +kernel⟩
noncomputable def L__law_rowtext_1 : Rho → Out := (seqS (asgS (callF m__law_f (consA (appF (app2 bMax) (consA (binF dIx (varF 3) (cF (.int 0))) (consA (unF dNeg (binF dIx (varF 3) (cF (.int 0)))) nilA))) (consA (binF dIx (varF 3) (cF (.int 1))) nilA))) (nameT 4)) (seqS (asgS (varF 2) (nameT 5)) (seqS (ifS (testF (binF dNe (varF 4) (tupF (consA (cF (.int 1)) (consA (cF (.int 1)) nilA))))) (asgS (binF dAdd (binF dAdd (callF m__law_word (consA (varF 4) nilA)) (cF (.str " "))) (varF 2)) (nameT 5)) nxS) (seqS (ifS (andT (testF (binF dEq (lenO 1) (cF (.int 0)))) (testF (binF dLt (binF dIx (varF 3) (cF (.int 0))) (cF (.int 0))))) (asgS (binF dAdd (cF (.str "-")) (varF 5)) (nameT 5)) (ifS (testF (binF dGt (lenO 1) (cF (.int 0)))) (appendS 1 (binF dIx (cF (.str "+-")) (appF (app1 bInt) (consA (binF dLt (binF dIx (varF 3) (cF (.int 0))) (cF (.int 0))) nilA)))) nxS)) (appendS 1 (varF 5))))))
noncomputable def S__law_rowtext : Rho → Out := (seqS (ownS nilA 1) (seqS (forS (itemsQ (binF dIx (varF 0) (cF (.int 0)))) (tupT 2 (consTs (nameT 2) (consTs (nameT 3) nilTs))) L__law_rowtext_1) (seqS (ifS (testF (binF dEq (lenO 1) (cF (.int 0)))) (ownS (consA (cF (.str "0")) nilA) 1) nxS) (retS (m1F dJoin (cF (.str " ")) (binF dAdd (varF 1) (lstF (consA (binF dIx (varF 0) (cF (.int 1))) (consA (callF m__law_word (consA (binF dIx (varF 0) (cF (.int 2))) nilA)) nilA)))))))))
noncomputable def B__law_rowtext (a0 : PyData) : FR := outFR (S__law_rowtext [.d a0, .un, .un, .un, .un, .un])
noncomputable def m__law_rowtext : Fn := fn1 B__law_rowtext
abbrev s__law_token : Stmt := topS 58
theorem sc__law_token : FnScope ["text", "at", "letters", "end", "last"] ["text", "at"] (defScope s__law_token) := ⟨rfl, rfl, rfl, by decide +kernel, rfl, by decide +kernel, by decide +kernel⟩
noncomputable def L__law_token_1 : Rho → Out := (asgS (binF dAdd (varF 3) (cF (.int 1))) (nameT 3))
noncomputable def L__law_token_2 : Rho → Out := (asgS (binF dAdd (varF 4) (cF (.int 1))) (nameT 4))
noncomputable def L__law_token_3 : Rho → Out := (asgS (binF dAdd (varF 3) (cF (.int 1))) (nameT 3))
noncomputable def S__law_token : Rho → Out := (seqS (asgS (cF (.str "abcdefghijklmnopqrstuvwxyz")) (nameT 2)) (seqS (ifS (testF (binF dIn3 (binF dIx (varF 0) (varF 1)) (cF (.str "0123456789")))) (seqS (asgS (binF dAdd (varF 1) (cF (.int 1))) (nameT 3)) (seqS (whileS (andT (testF (binF dLt (varF 3) (appF (app1 bLen) (consA (varF 0) nilA)))) (andT (testF (binF dIn3 (binF dIx (varF 0) (varF 3)) (cF (.str "0123456789")))) (andT (testF (binF dNe (binF dIx (varF 0) (varF 1)) (cF (.str "0")))) (testF (binF dLt (varF 3) (binF dAdd (varF 1) (cF (.int 6)))))))) L__law_token_1) (seqS (ifS (andT (testF (binF dLt (binF dAdd (varF 3) (cF (.int 1))) (appF (app1 bLen) (consA (varF 0) nilA)))) (andT (testF (binF dEq (binF dIx (varF 0) (varF 3)) (cF (.str "/")))) (testF (binF dIn3 (binF dIx (varF 0) (binF dAdd (varF 3) (cF (.int 1)))) (cF (.str "123456789")))))) (seqS (asgS (binF dAdd (varF 3) (cF (.int 2))) (nameT 4)) (seqS (whileS (andT (testF (binF dLt (varF 4) (appF (app1 bLen) (consA (varF 0) nilA)))) (andT (testF (binF dIn3 (binF dIx (varF 0) (varF 4)) (cF (.str "0123456789")))) (testF (binF dLt (varF 4) (binF dAdd (varF 3) (cF (.int 7))))))) L__law_token_2) (asgS (varF 4) (nameT 3)))) nxS) (retS (tupF (consA (cF (.str "number")) (consA (varF 3) (consA (andV (binF dLt (varF 3) (appF (app1 bLen) (consA (varF 0) nilA))) (orV (binF dIn3 (binF dIx (varF 0) (varF 3)) (cF (.str "0123456789"))) (binF dEq (binF dIx (varF 0) (varF 3)) (cF (.str "/"))))) nilA)))))))) nxS) (seqS (ifS (testF (binF dIn3 (binF dIx (varF 0) (varF 1)) (varF 2))) (seqS (asgS (binF dAdd (varF 1) (cF (.int 1))) (nameT 3)) (seqS (whileS (andT (testF (binF dLt (varF 3) (appF (app1 bLen) (consA (varF 0) nilA)))) (andT (testF (binF dIn3 (binF dIx (varF 0) (varF 3)) (binF dAdd (varF 2) (cF (.str "0123456789"))))) (testF (binF dLt (varF 3) (binF dAdd (varF 1) (cF (.int 8))))))) L__law_token_3) (retS (tupF (consA (cF (.str "name")) (consA (varF 3) (consA (andV (binF dLt (varF 3) (appF (app1 bLen) (consA (varF 0) nilA))) (binF dIn3 (binF dIx (varF 0) (varF 3)) (binF dAdd (varF 2) (cF (.str "0123456789"))))) nilA))))))) nxS) (seqS (ifS (testF (binF dIn3 (cutF (varF 0) (someP (varF 1)) (someP (binF dAdd (varF 1) (cF (.int 2))))) (lstF (consA (cF (.str "<=")) (consA (cF (.str ">=")) nilA))))) (retS (tupF (consA (cF (.str "sign")) (consA (binF dAdd (varF 1) (cF (.int 2))) (consA (cF (.bool false)) nilA))))) nxS) (seqS (ifS (testF (binF dIn3 (binF dIx (varF 0) (varF 1)) (cF (.str "<>=")))) (retS (tupF (consA (cF (.str "sign")) (consA (binF dAdd (varF 1) (cF (.int 1))) (consA (cF (.bool false)) nilA))))) nxS) (seqS (ifS (testF (binF dIn3 (binF dIx (varF 0) (varF 1)) (cF (.str "+-")))) (retS (tupF (consA (binF dIx (varF 0) (varF 1)) (consA (binF dAdd (varF 1) (cF (.int 1))) (consA (cF (.bool false)) nilA))))) nxS) (retS (tupF (consA (cF (.str "bad")) (consA (varF 1) (consA (cF (.bool true)) nilA)))))))))))
noncomputable def B__law_token (a0 a1 : PyData) : FR := outFR (S__law_token [.d a0, .d a1, .un, .un, .un])
noncomputable def m__law_token : Fn := fn2 B__law_token
abbrev s__law_fault : Stmt := topS 59
theorem sc__law_fault : FnScope ["text", "state", "signs", "at", "turn", "after", "kind", "end", "broken"] ["text"] (defScope s__law_fault) := ⟨rfl, rfl, rfl, by decide +kernel, rfl, by decide +kernel, by decide +kernel⟩
noncomputable def L__law_fault_1 : Rho → Out := (asgS (binF dAdd (varF 3) (cF (.int 1))) (nameT 3))
noncomputable def L__law_fault_2 : Rho → Out := (seqS (whileS (andT (testF (binF dLt (varF 3) (appF (app1 bLen) (consA (varF 0) nilA)))) (testF (binF dEq (binF dIx (varF 0) (varF 3)) (cF (.str " "))))) L__law_fault_1) (ifS (testF (binF dLt (varF 3) (appF (app1 bLen) (consA (varF 0) nilA)))) (seqS (asgS (callF m__law_token (consA (varF 0) (consA (varF 3) nilA))) (tupT 3 (consTs (nameT 6) (consTs (nameT 7) (consTs (nameT 8) nilTs))))) (seqS (ifS (testF (binF dEq (varF 6) (cF (.str "bad")))) (retS (tupF (consA (varF 3) (consA (cF (.str "not a token")) nilA)))) nxS) (seqS (asgS (cF (.none)) (nameT 5)) (seqS (ifS (andT (testF (binF dIn3 (varF 1) (lstF (consA (cF (.str "side")) (consA (cF (.str "item")) (consA (cF (.str "coefficient")) nilA)))))) (testF (binF dEq (varF 6) (cF (.str "name"))))) (asgS (cF (.str "done")) (nameT 5)) nxS) (seqS (ifS (andT (testF (binF dIn3 (varF 1) (lstF (consA (cF (.str "side")) (consA (cF (.str "item")) nilA))))) (testF (binF dEq (varF 6) (cF (.str "number"))))) (asgS (cF (.str "coefficient")) (nameT 5)) nxS) (seqS (ifS (andT (testF (binF dEq (varF 1) (cF (.str "side")))) (testF (binF dEq (varF 6) (cF (.str "-"))))) (asgS (cF (.str "item")) (nameT 5)) nxS) (seqS (ifS (andT (testF (binF dIn3 (varF 1) (lstF (consA (cF (.str "done")) (consA (cF (.str "coefficient")) nilA))))) (testF (binF dIn3 (varF 6) (lstF (consA (cF (.str "+")) (consA (cF (.str "-")) nilA)))))) (asgS (cF (.str "item")) (nameT 5)) nxS) (seqS (ifS (andT (testF (binF dIn3 (varF 1) (lstF (consA (cF (.str "done")) (consA (cF (.str "coefficient")) nilA))))) (andT (testF (binF dEq (varF 6) (cF (.str "sign")))) (testF (binF dEq (varF 2) (cF (.int 0)))))) (seqS (asgS (cF (.str "side")) (nameT 5)) (asgS (cF (.int 1)) (nameT 2))) nxS) (seqS (ifS (testF (binF dIsN2 (varF 5) (cF (.none)))) (retS (tupF (consA (varF 3) (consA (cF (.str "not expected")) nilA)))) nxS) (seqS (ifS (truF (varF 8)) (retS (tupF (consA (varF 7) (consA (cF (.str "not a token")) nilA)))) nxS) (seqS (asgS (varF 5) (nameT 1)) (asgS (varF 7) (nameT 3))))))))))))) nxS))
noncomputable def S__law_fault : Rho → Out := (seqS (asgS (cF (.str "side")) (nameT 1)) (seqS (asgS (cF (.int 0)) (nameT 2)) (seqS (asgS (cF (.int 0)) (nameT 3)) (seqS (forS (range1F (consA (binF dAdd (appF (app1 bLen) (consA (varF 0) nilA)) (cF (.int 1))) nilA)) (nameT 4) L__law_fault_2) (seqS (ifS (orT (testF (binF dEq (varF 2) (cF (.int 0)))) (testF (binF dIn3 (varF 1) (lstF (consA (cF (.str "side")) (consA (cF (.str "item")) nilA)))))) (retS (tupF (consA (appF (app1 bLen) (consA (varF 0) nilA)) (consA (cF (.str "not finished")) nilA)))) nxS) (retS (cF (.none))))))))
noncomputable def B__law_fault (a0 : PyData) : FR := outFR (S__law_fault [.d a0, .un, .un, .un, .un, .un, .un, .un, .un])
noncomputable def m__law_fault : Fn := fn1 B__law_fault
abbrev s__law_told : Stmt := topS 60
theorem sc__law_told : FnScope ["text", "error"] ["text"] (defScope s__law_told) := ⟨rfl, rfl, rfl, by decide +kernel, rfl, by decide +kernel, by decide +kernel⟩
noncomputable def S__law_told : Rho → Out := (seqS (tryX (ct1 "TextError") 1 (dropS (callF m_read_row (consA (varF 0) nilA))) (fun e_ => (retS (tupF (consA (fldF 1 "place" e_) (consA (fldF 1 "what" e_) nilA)))))) (retS (cF (.none))))
noncomputable def B__law_told (a0 : PyData) : FR := outFR (S__law_told [.d a0, .un])
noncomputable def m__law_told : Fn := fn1 B__law_told
abbrev s_law : Stmt := topS 61
theorem sc_law : FnScope ["script", "k", "text", "digits", "j", "part", "place", "sign", "words", "digit"] ["script"] (defScope s_law) := ⟨rfl, rfl, rfl, by decide +kernel, rfl, by decide +kernel, by decide +kernel⟩
noncomputable def L_law_1 : Rho → Out := (seqS (asgS (cutF (varF 3) (someP (binF dAdd (cF (.int 1)) (binF dMul (cF (.int 3)) (varF 4)))) (someP (binF dAdd (cF (.int 4)) (binF dMul (cF (.int 3)) (varF 4))))) (nameT 5)) (seqS (asgS (binF dMod (binF dIx (varF 5) (cF (.int 0))) (binF dAdd (appF (app1 bLen) (consA (varF 2) nilA)) (cF (.int 1)))) (nameT 6)) (seqS (asgS (binF dIx (lstF (consA (cF (.str "0")) (consA (cF (.str "1")) (consA (cF (.str "5")) (consA (cF (.str "/")) (consA (cF (.str "x")) (consA (cF (.str "b")) (consA (cF (.str "<")) (consA (cF (.str "=")) (consA (cF (.str ">")) (consA (cF (.str "+")) (consA (cF (.str "-")) (consA (cF (.str " ")) (consA (cF (.str "?")) (consA (cF (.str "X")) (consA (cF (.str "
")) (consA (cF (.str "00")) (consA (cF (.str "1234567")) (consA (cF (.str "abcdefghi")) (consA (cF (.str "1/0")) (consA (cF (.str "1/")) (consA (cF (.str "<=")) (consA (cF (.str "")) nilA))))))))))))))))))))))) (binF dIx (varF 5) (cF (.int 1)))) (nameT 7)) (asgS (binF dAdd (binF dAdd (cutF (varF 2) noP (someP (varF 6))) (varF 7)) (cutF (varF 2) (someP (binF dAdd (varF 6) (binF dMod (binF dIx (varF 5) (cF (.int 2))) (cF (.int 2))))) noP)) (nameT 2)))))
noncomputable def L_law_2 : Rho → Out := (seqS (asgS (callF m__law_rowtext (consA (binF dIx (callF m__law_system (consA (varF 0) (consA (binF dMul (cF (.int 2)) (varF 1)) (consA (cF (.int 1)) nilA)))) (cF (.int 0))) nilA)) (nameT 2)) (seqS (asgS (callF m__law_draw (consA (varF 0) (consA (binF dAdd (binF dMul (cF (.int 2)) (varF 1)) (cF (.int 1))) (consA (binF dAdd (binF dAdd (binF dAdd (lstF (consA (cF (.int 4)) nilA)) (repF (consA (cF (.int 40)) (consA (cF (.int 22)) (consA (cF (.int 3)) nilA))) (cF (.int 2)))) (lstF (consA (cF (.int 9)) nilA))) (repF (consA (cF (.int 14)) nilA) (cF (.int 8)))) nilA)))) (nameT 3)) (seqS (forS (range1F (consA (binF dMod (binF dIx (varF 3) (cF (.int 0))) (cF (.int 3))) nilA)) (nameT 4) L_law_1) (seqS (ifS (testF (binF dEq (binF dIx (varF 3) (cF (.int 0))) (cF (.int 3)))) (seqS (ownS (consA (cF (.str "x")) (consA (cF (.str "y2")) (consA (cF (.str "1")) (consA (cF (.str "3/4")) (consA (cF (.str "+")) (consA (cF (.str "-")) (consA (cF (.str "<")) (consA (cF (.str "<=")) (consA (cF (.str "=")) (consA (cF (.str ">")) (consA (cF (.str ">=")) (consA (cF (.str " ")) (consA (cF (.str "12")) (consA (cF (.str "0")) nilA)))))))))))))) 8) (asgS (m1F dJoin (cF (.str " ")) (lcF [9] (itemsQ (cutF (varF 3) (someP (cF (.int 8))) (someP (binF dAdd (cF (.int 8)) (binF dIx (varF 3) (cF (.int 7))))))) (nameT 9) yesT (binF dIx (varF 8) (varF 9)))) (nameT 2))) nxS) (ifS (testF (binF dNe (callF m__law_told (consA (varF 2) nilA)) (callF m__law_fault (consA (varF 2) nilA)))) (retS (cF (.bool false))) nxS)))))
noncomputable def S_law : Rho → Out := (seqS (forS (range1F (consA (appF (app2 bMin) (consA (cF (.int 14)) (consA (appF (app2 bMax) (consA (cF (.int 1)) (consA (binF dDiv (appF (app1 bLen) (consA (varF 0) nilA)) (cF (.int 2))) nilA))) nilA))) nilA)) (nameT 1) L_law_2) (retS (cF (.bool true))))
noncomputable def B_law (a0 : PyData) : FR := outFR (S_law [.d a0, .un, .un, .un, .un, .un, .un, .un, .un, .un])
noncomputable def m_law : Fn := fn1 B_law
structure Txt (w : World) (K : PySem.W.Frag) (mg : Str → Option Value) : Prop where
  f_number : ∃ f fd, Fun K "number" "number" s_number f fd ∧ mg "number" = some (.ref f)
  f_plus : ∃ f fd, Fun K "plus" "plus" s_plus f fd ∧ mg "plus" = some (.ref f)
  f_minus : ∃ f fd, Fun K "minus" "minus" s_minus f fd ∧ mg "minus" = some (.ref f)
  f_times : ∃ f fd, Fun K "times" "times" s_times f fd ∧ mg "times" = some (.ref f)
  f_compare : ∃ f fd, Fun K "compare" "compare" s_compare f fd ∧ mg "compare" = some (.ref f)
  f_whole_factor : ∃ f fd, Fun K "whole_factor" "whole_factor" s_whole_factor f fd ∧ mg "whole_factor" = some (.ref f)
  f_added_up : ∃ f fd, Fun K "added_up" "added_up" s_added_up f fd ∧ mg "added_up" = some (.ref f)
  f_multiplied : ∃ f fd, Fun K "multiplied" "multiplied" s_multiplied f fd ∧ mg "multiplied" = some (.ref f)
  f_normal_factor : ∃ f fd, Fun K "normal_factor" "normal_factor" s_normal_factor f fd ∧ mg "normal_factor" = some (.ref f)
  f_normal : ∃ f fd, Fun K "normal" "normal" s_normal f fd ∧ mg "normal" = some (.ref f)
  f_row : ∃ f fd, Fun K "row" "row" s_row f fd ∧ mg "row" = some (.ref f)
  f__run_end : ∃ f fd, Fun K "_run_end" "_run_end" s__run_end f fd ∧ mg "_run_end" = some (.ref f)
  f__digits_end : ∃ f fd, Fun K "_digits_end" "_digits_end" s__digits_end f fd ∧ mg "_digits_end" = some (.ref f)
  f__number_end : ∃ f fd, Fun K "_number_end" "_number_end" s__number_end f fd ∧ mg "_number_end" = some (.ref f)
  f__token_end : ∃ f fd, Fun K "_token_end" "_token_end" s__token_end f fd ∧ mg "_token_end" = some (.ref f)
  f__is_cut_off : ∃ f fd, Fun K "_is_cut_off" "_is_cut_off" s__is_cut_off f fd ∧ mg "_is_cut_off" = some (.ref f)
  f__tokens : ∃ f fd, Fun K "_tokens" "_tokens" s__tokens f fd ∧ mg "_tokens" = some (.ref f)
  f__kind : ∃ f fd, Fun K "_kind" "_kind" s__kind f fd ∧ mg "_kind" = some (.ref f)
  f__check : ∃ f fd, Fun K "_check" "_check" s__check f fd ∧ mg "_check" = some (.ref f)
  f__number_of : ∃ f fd, Fun K "_number_of" "_number_of" s__number_of f fd ∧ mg "_number_of" = some (.ref f)
  f__row_of : ∃ f fd, Fun K "_row_of" "_row_of" s__row_of f fd ∧ mg "_row_of" = some (.ref f)
  f_read_row : ∃ f fd, Fun K "read_row" "read_row" s_read_row f fd ∧ mg "read_row" = some (.ref f)
  f__law_cell : ∃ f fd, Fun K "_law_cell" "_law_cell" s__law_cell f fd ∧ mg "_law_cell" = some (.ref f)
  f__law_draw : ∃ f fd, Fun K "_law_draw" "_law_draw" s__law_draw f fd ∧ mg "_law_draw" = some (.ref f)
  f__law_f : ∃ f fd, Fun K "_law_f" "_law_f" s__law_f f fd ∧ mg "_law_f" = some (.ref f)
  f__law_add : ∃ f fd, Fun K "_law_add" "_law_add" s__law_add f fd ∧ mg "_law_add" = some (.ref f)
  f__law_sub : ∃ f fd, Fun K "_law_sub" "_law_sub" s__law_sub f fd ∧ mg "_law_sub" = some (.ref f)
  f__law_mul : ∃ f fd, Fun K "_law_mul" "_law_mul" s__law_mul f fd ∧ mg "_law_mul" = some (.ref f)
  f__law_div : ∃ f fd, Fun K "_law_div" "_law_div" s__law_div f fd ∧ mg "_law_div" = some (.ref f)
  f__law_scaled : ∃ f fd, Fun K "_law_scaled" "_law_scaled" s__law_scaled f fd ∧ mg "_law_scaled" = some (.ref f)
  f__law_factor : ∃ f fd, Fun K "_law_factor" "_law_factor" s__law_factor f fd ∧ mg "_law_factor" = some (.ref f)
  f__law_normal : ∃ f fd, Fun K "_law_normal" "_law_normal" s__law_normal f fd ∧ mg "_law_normal" = some (.ref f)
  f__law_parts : ∃ f fd, Fun K "_law_parts" "_law_parts" s__law_parts f fd ∧ mg "_law_parts" = some (.ref f)
  f__law_row : ∃ f fd, Fun K "_law_row" "_law_row" s__law_row f fd ∧ mg "_law_row" = some (.ref f)
  f__law_pairs : ∃ f fd, Fun K "_law_pairs" "_law_pairs" s__law_pairs f fd ∧ mg "_law_pairs" = some (.ref f)
  f__law_anyrow : ∃ f fd, Fun K "_law_anyrow" "_law_anyrow" s__law_anyrow f fd ∧ mg "_law_anyrow" = some (.ref f)
  f__law_system : ∃ f fd, Fun K "_law_system" "_law_system" s__law_system f fd ∧ mg "_law_system" = some (.ref f)
  f__law_word : ∃ f fd, Fun K "_law_word" "_law_word" s__law_word f fd ∧ mg "_law_word" = some (.ref f)
  f__law_rowtext : ∃ f fd, Fun K "_law_rowtext" "_law_rowtext" s__law_rowtext f fd ∧ mg "_law_rowtext" = some (.ref f)
  f__law_token : ∃ f fd, Fun K "_law_token" "_law_token" s__law_token f fd ∧ mg "_law_token" = some (.ref f)
  f__law_fault : ∃ f fd, Fun K "_law_fault" "_law_fault" s__law_fault f fd ∧ mg "_law_fault" = some (.ref f)
  f__law_told : ∃ f fd, Fun K "_law_told" "_law_told" s__law_told f fd ∧ mg "_law_told" = some (.ref f)
  f_law : ∃ f fd, Fun K "law" "law" s_law f fd ∧ mg "law" = some (.ref f)
  z_enumerate : mg "enumerate" = none
  z_int : mg "int" = none
  z_len : mg "len" = none
  z_max : mg "max" = none
  z_min : mg "min" = none
  z_range : mg "range" = none
  z_sorted : mg "sorted" = none
  z_str : mg "str" = none
  z_tuple : mg "tuple" = none
  z_gcd : mg "gcd" = some (.builtin "math.gcd")
  z_lcm : mg "lcm" = some (.builtin "math.lcm")
  x_NumberError : ∃ C, ExcTxt K mg "NumberError" C
  x_TextError : ∃ C fI fd, ExcI K mg "TextError" "TextError.__init__" ["place", "what"] ini_TextError C fI fd
  c__BEHIND : KDG w K mg "_BEHIND" [("number", .tuple [.str "unknown", .str "+", .str "-", .str "sign"]), ("unknown", .tuple [.str "+", .str "-", .str "sign"]), ("+", .tuple [.str "number", .str "unknown"]), ("-", .tuple [.str "number", .str "unknown"]), ("sign", .tuple [.str "number", .str "unknown", .str "-"])]
  c__TURNED : KD w K mg "_TURNED" [(">=", "<="), (">", "<")] ["<=", "<", "="]
  c_DIGITS : ∃ v u, mg "DIGITS" = some u ∧ RelV v u ∧ ∀ G : Hp, Dq K G v (.int 6)
  c_LETTERS : ∃ v u, mg "LETTERS" = some u ∧ RelV v u ∧ ∀ G : Hp, Dq K G v (.int 8)
  c_MINUS_ONE : ∃ v u, mg "MINUS_ONE" = some u ∧ RelV v u ∧ ∀ G : Hp, Dq K G v (.tuple [.int (-1), .int 1])
  c_ONE : ∃ v u, mg "ONE" = some u ∧ RelV v u ∧ ∀ G : Hp, Dq K G v (.tuple [.int 1, .int 1])
  c_ZERO : ∃ v u, mg "ZERO" = some u ∧ RelV v u ∧ ∀ G : Hp, Dq K G v (.tuple [.int 0, .int 1])
  c__DIGIT_CHARS : ∃ v u, mg "_DIGIT_CHARS" = some u ∧ RelV v u ∧ ∀ G : Hp, Dq K G v (.str "0123456789")
  c__LETTER_CHARS : ∃ v u, mg "_LETTER_CHARS" = some u ∧ RelV v u ∧ ∀ G : Hp, Dq K G v (.str "abcdefghijklmnopqrstuvwxyz")
section
variable {P : Program} {w : World} {K : PySem.W.Frag} {mg : Str → Option Value} {base : Heap}
theorem d_number (T : Txt w K mg) : DefOk P w K mg base "number" 1 m_number := by
  obtain ⟨f, fd, F, hm⟩ := T.f_number
  have z_gcd := T.z_gcd
  obtain ⟨C_NumberError, x_NumberError⟩ := T.x_NumberError
  exact ⟨f, fd, ["top", "bottom"], fnD F sc_number S_number m_number (fn2_len _) (fn2_body fun _ _ => rfl) (fun cdv A outer s H E B W hr tk hp => (pds_cons (pd_if (pt_cmp' (op_eqD hr.units) rd_eq (nomark _) (pd_var 1) pd_int) (pds_one (pd_raise0 rfl tk PySem.F.excBase_ValueError x_NumberError.xP x_NumberError.gP x_NumberError.kP (raises_own x_NumberError.bP x_NumberError.tP))) pds_nil) (pds_cons (pd_set 2 sc_number.nd (pd_callM cr_gcd rd_gcd z_gcd (pda_cons (pd_var 0) (pda_cons (pd_var 1) pda_nil)))) (pds_cons (pd_if (pt_cmp' (op_lt.or op_lt_str) rd_lt (nomark _) (pd_var 1) pd_int) (pds_one (pd_set 2 sc_number.nd (pd_neg (pd_var 2)))) pds_nil) (pds_one (pd_ret (pd_tup (pda_cons (pd_div (pd_var 0) (pd_var 2)) (pda_cons (pd_div (pd_var 1) (pd_var 2)) pda_nil))))))))), hm, F.kp, F.binds fun _ _ _ _ _ _ us hl => match us, hl with | [_, _], _ => rfl⟩
theorem d_plus (T : Txt w K mg) : DefOk P w K mg base "plus" 2 m_plus := by
  obtain ⟨f, fd, F, hm⟩ := T.f_plus
  have d_number : DefOk P w K mg base "number" 1 m_number := d_number T
  exact ⟨f, fd, ["first", "second"], fnD F sc_plus S_plus m_plus (fn2_len _) (fn2_body fun _ _ => rfl) (fun cdv A outer s H E B W hr tk hp => (pds_cons (pd_asg (pd_var 0) (pgd_tup rfl (pgds_cons (pgd_name 2 sc_plus.nd) (pgds_cons (pgd_name 3 sc_plus.nd) pgds_nil)))) (pds_cons (pd_asg (pd_var 1) (pgd_tup rfl (pgds_cons (pgd_name 4 sc_plus.nd) (pgds_cons (pgd_name 5 sc_plus.nd) pgds_nil)))) (pds_one (pd_ret (pd_call d_number (hr.mono (by decide)) tk (pda_cons (pd_add (pd_mul (pd_var 2) (pd_var 5)) (pd_mul (pd_var 4) (pd_var 3))) (pda_cons (pd_mul (pd_var 3) (pd_var 5)) pda_nil)))))))), hm, F.kp, F.binds fun _ _ _ _ _ _ us hl => match us, hl with | [_, _], _ => rfl⟩
theorem d_minus (T : Txt w K mg) : DefOk P w K mg base "minus" 2 m_minus := by
  obtain ⟨f, fd, F, hm⟩ := T.f_minus
  have d_number : DefOk P w K mg base "number" 1 m_number := d_number T
  exact ⟨f, fd, ["first", "second"], fnD F sc_minus S_minus m_minus (fn2_len _) (fn2_body fun _ _ => rfl) (fun cdv A outer s H E B W hr tk hp => (pds_cons (pd_asg (pd_var 0) (pgd_tup rfl (pgds_cons (pgd_name 2 sc_minus.nd) (pgds_cons (pgd_name 3 sc_minus.nd) pgds_nil)))) (pds_cons (pd_asg (pd_var 1) (pgd_tup rfl (pgds_cons (pgd_name 4 sc_minus.nd) (pgds_cons (pgd_name 5 sc_minus.nd) pgds_nil)))) (pds_one (pd_ret (pd_call d_number (hr.mono (by decide)) tk (pda_cons (pd_sub (pd_mul (pd_var 2) (pd_var 5)) (pd_mul (pd_var 4) (pd_var 3))) (pda_cons (pd_mul (pd_var 3) (pd_var 5)) pda_nil)))))))), hm, F.kp, F.binds fun _ _ _ _ _ _ us hl => match us, hl with | [_, _], _ => rfl⟩
theorem d_times (T : Txt w K mg) : DefOk P w K mg base "times" 2 m_times := by
  obtain ⟨f, fd, F, hm⟩ := T.f_times
  have d_number : DefOk P w K mg base "number" 1 m_number := d_number T
  exact ⟨f, fd, ["first", "second"], fnD F sc_times S_times m_times (fn2_len _) (fn2_body fun _ _ => rfl) (fun cdv A outer s H E B W hr tk hp => (pds_one (pd_ret (pd_call d_number (hr.mono (by decide)) tk (pda_cons (pd_mul (pd_ix (pd_var 0) pd_int) (pd_ix (pd_var 1) pd_int)) (pda_cons (pd_mul (pd_ix (pd_var 0) pd_int) (pd_ix (pd_var 1) pd_int)) pda_nil)))))), hm, F.kp, F.binds fun _ _ _ _ _ _ us hl => match us, hl with | [_, _], _ => rfl⟩
theorem d_compare (T : Txt w K mg) : DefOk P w K mg base "compare" 1 m_compare := by
  obtain ⟨f, fd, F, hm⟩ := T.f_compare
  exact ⟨f, fd, ["first", "second"], fnD F sc_compare S_compare m_compare (fn2_len _) (fn2_body fun _ _ => rfl) (fun cdv A outer s H E B W hr tk hp => (pds_cons (pd_set 2 sc_compare.nd (pd_mul (pd_ix (pd_var 0) pd_int) (pd_ix (pd_var 1) pd_int))) (pds_cons (pd_set 3 sc_compare.nd (pd_mul (pd_ix (pd_var 1) pd_int) (pd_ix (pd_var 0) pd_int))) (pds_cons (pd_if (pt_cmp' (op_lt.or op_lt_str) rd_lt (nomark _) (pd_var 2) (pd_var 3)) (pds_one (pd_ret (pd_neg pd_int))) pds_nil) (pds_cons (pd_if (pt_cmp' op_gt rd_gt (nomark _) (pd_var 2) (pd_var 3)) (pds_one (pd_ret pd_int)) pds_nil) (pds_one (pd_ret pd_int))))))), hm, F.kp, F.binds fun _ _ _ _ _ _ us hl => match us, hl with | [_, _], _ => rfl⟩
theorem d_whole_factor (T : Txt w K mg) : DefOk P w K mg base "whole_factor" 2 m_whole_factor := by
  obtain ⟨f, fd, F, hm⟩ := T.f_whole_factor
  have d_number : DefOk P w K mg base "number" 1 m_number := d_number T
  have z_gcd := T.z_gcd
  have z_lcm := T.z_lcm
  exact ⟨f, fd, ["values"], fnD F sc_whole_factor S_whole_factor m_whole_factor (fn1_len _) (fn1_body fun _ => rfl) (fun cdv A outer s H E B W hr tk hp => (pds_cons (pd_asg (pd_tup (pda_cons pd_int (pda_cons pd_int pda_nil))) (pgd_tup rfl (pgds_cons (pgd_name 1 sc_whole_factor.nd) (pgds_cons (pgd_name 2 sc_whole_factor.nd) pgds_nil)))) (pds_cons (pd_for hp rfl (pid_seq (pd_var 0)) (pgd_tup rfl (pgds_cons (pgd_name 3 sc_whole_factor.nd) (pgds_cons (pgd_name 4 sc_whole_factor.nd) pgds_nil))) (pds_cons (pd_set 1 sc_whole_factor.nd (pd_callM cr_gcd rd_gcd z_gcd (pda_cons (pd_var 1) (pda_cons (pd_var 3) pda_nil)))) (pds_one (pd_set 2 sc_whole_factor.nd (pd_callM cr_lcm rd_lcm z_lcm (pda_cons (pd_var 2) (pda_cons (pd_var 4) pda_nil))))))) (pds_one (pd_ret (pd_call d_number (hr.mono (by decide)) tk (pda_cons (pd_var 2) (pda_cons (pd_var 1) pda_nil)))))))), hm, F.kp, F.binds fun _ _ _ _ _ _ us hl => match us, hl with | [_], _ => rfl⟩
theorem d_added_up (T : Txt w K mg) : DefOk P w K mg base "added_up" 3 m_added_up := by
  obtain ⟨f, fd, F, hm⟩ := T.f_added_up
  have d_plus : DefOk P w K mg base "plus" 2 m_plus := d_plus T
  have z_sorted := T.z_sorted
  have z_tuple := T.z_tuple
  obtain ⟨v_ZERO, u_ZERO, c_ZERO, r_ZERO, t_ZERO⟩ := T.c_ZERO
  exact ⟨f, fd, ["pairs"], fnD F sc_added_up S_added_up m_added_up (fn1_len _) (fn1_body fun _ => rfl) (fun cdv A outer s H E B W hr tk hp => (pds_cons (pd_newD 1 sc_added_up.nd) (pds_cons (pd_for hp rfl (pid_seq (pd_var 0)) (pgd_tup rfl (pgds_cons (pgd_name 2 sc_added_up.nd) (pgds_cons (pgd_name 3 sc_added_up.nd) pgds_nil))) (pds_one (pd_put 1 (hu1 hr) (pd_var 2) (pd_call d_plus (hr.mono (by decide)) tk (pda_cons (pd_dget 1 (hu1 hr) (pd_var 2) (pd_glob c_ZERO r_ZERO t_ZERO) ⟨rfl, rfl, rfl, rfl⟩) (pda_cons (pd_var 3) pda_nil)))))) (pds_one (pd_ret (pd_callTy call_tupleN rd_tuple z_tuple (by decide +kernel) (pda_cons (pd_lc (own := [("name", 2)]) rfl sc_added_up.nd (pid_seq (pd_dsort 1 rfl z_sorted)) (blkOk_by (N := ["pairs", "totals", "name", "amount"]) (sc := defScope s_added_up) (by decide +kernel)) (fun _ _ _ _ _ => (pgw_name 2 sc_added_up.nd)) (fun _ _ _ _ _ => (pts_oneD fun B => (pt_cmp' (op_neD hr.units) rd_ne (nomark _) (pd_dix 1 (hu1 hr) (pd_var 2)) (pd_glob c_ZERO r_ZERO t_ZERO)))) (fun _ _ _ _ _ B => (pd_tup (pda_cons (pd_var 2) (pda_cons (pd_dix 1 (hu1 hr) (pd_var 2)) pda_nil))))) pda_nil))))))), hm, F.kp, F.binds fun _ _ _ _ _ _ us hl => match us, hl with | [_], _ => rfl⟩
theorem d_multiplied (T : Txt w K mg) : DefOk P w K mg base "multiplied" 3 m_multiplied := by
  obtain ⟨f, fd, F, hm⟩ := T.f_multiplied
  have d_times : DefOk P w K mg base "times" 2 m_times := d_times T
  have z_tuple := T.z_tuple
  exact ⟨f, fd, ["pairs", "factor"], fnD F sc_multiplied S_multiplied m_multiplied (fn2_len _) (fn2_body fun _ _ => rfl) (fun cdv A outer s H E B W hr tk hp => (pds_one (pd_ret (pd_callTy call_tupleN rd_tuple z_tuple (by decide +kernel) (pda_cons (pd_lc (own := [("name", 2), ("amount", 3)]) rfl sc_multiplied.nd (pid_seq (pd_var 0)) (blkOk_by (N := ["pairs", "factor", "name", "amount"]) (sc := defScope s_multiplied) (by decide +kernel)) (fun _ _ _ _ _ => (pgw_tup rfl (pgws_cons (pgw_name 2 sc_multiplied.nd) (pgws_cons (pgw_name 3 sc_multiplied.nd) pgws_nil)))) (fun _ _ _ _ _ => pts_nilD) (fun _ _ _ _ _ B => (pd_tup (pda_cons (pd_var 2) (pda_cons (pd_call d_times (hr.mono (by decide)) takes0 (pda_cons (pd_var 3) (pda_cons (pd_var 1) pda_nil))) pda_nil))))) pda_nil))))), hm, F.kp, F.binds fun _ _ _ _ _ _ us hl => match us, hl with | [_, _], _ => rfl⟩
theorem d_normal_factor (T : Txt w K mg) : DefOk P w K mg base "normal_factor" 3 m_normal_factor := by
  obtain ⟨f, fd, F, hm⟩ := T.f_normal_factor
  have d_whole_factor : DefOk P w K mg base "whole_factor" 2 m_whole_factor := d_whole_factor T
  have d_compare : DefOk P w K mg base "compare" 1 m_compare := d_compare T
  have d_minus : DefOk P w K mg base "minus" 2 m_minus := d_minus T
  obtain ⟨v_ZERO, u_ZERO, c_ZERO, r_ZERO, t_ZERO⟩ := T.c_ZERO
  obtain ⟨v_ONE, u_ONE, c_ONE, r_ONE, t_ONE⟩ := T.c_ONE
  exact ⟨f, fd, ["some_row"], fnD F sc_normal_factor S_normal_factor m_normal_factor (fn1_len _) (fn1_body fun _ => rfl) (fun cdv A outer s H E B W hr tk hp => (pds_cons (pd_asg (pd_var 0) (pgd_tup rfl (pgds_cons (pgd_name 1 sc_normal_factor.nd) (pgds_cons (pgd_name 2 sc_normal_factor.nd) (pgds_cons (pgd_name 3 sc_normal_factor.nd) pgds_nil))))) (pds_cons (pd_if (PW.pt (pw_andD (pt_notD (pd_tru (pd_var 1))) (pw_and1 (pt_cmp' (op_eqD hr.units) rd_eq (nomark _) (pd_var 3) (pd_glob c_ZERO r_ZERO t_ZERO))))) (pds_one (pd_ret (pd_glob c_ONE r_ONE t_ONE))) pds_nil) (pds_cons (pd_set 4 sc_normal_factor.nd (pd_orL (pd_lc (own := [("_", 5), ("amount", 6)]) rfl sc_normal_factor.nd (pid_seq (pd_var 1)) (blkOk_by (N := ["some_row", "parts", "sign", "bound", "amounts", "_", "amount", "factor"]) (sc := defScope s_normal_factor) (by decide +kernel)) (fun _ _ _ _ _ => (pgw_tup rfl (pgws_cons (pgw_name 5 sc_normal_factor.nd) (pgws_cons (pgw_name 6 sc_normal_factor.nd) pgws_nil)))) (fun _ _ _ _ _ => pts_nilD) (fun _ _ _ _ _ B => (pd_var 6))) (pe_one (pd_lst (pda_cons (pd_var 3) pda_nil))))) (pds_cons (pd_set 7 sc_normal_factor.nd (pd_call d_whole_factor (hr.mono (by decide)) tk (pda_cons (pd_var 4) pda_nil))) (pds_cons (pd_if (PW.pt (pw_andD (pt_cmp' (op_eqD hr.units) rd_eq (nomark _) (pd_var 2) pd_str) (pw_and1 (pt_cmp' (op_lt.or op_lt_str) rd_lt (nomark _) (pd_call d_compare (hr.mono (by decide)) tk (pda_cons (pd_ix (pd_var 4) pd_int) (pda_cons (pd_glob c_ZERO r_ZERO t_ZERO) pda_nil))) pd_int)))) (pds_one (pd_ret (pd_call d_minus (hr.mono (by decide)) tk (pda_cons (pd_glob c_ZERO r_ZERO t_ZERO) (pda_cons (pd_var 7) pda_nil))))) pds_nil) (pds_one (pd_ret (pd_var 7))))))))), hm, F.kp, F.binds fun _ _ _ _ _ _ us hl => match us, hl with | [_], _ => rfl⟩
theorem d_normal (T : Txt w K mg) : DefOk P w K mg base "normal" 4 m_normal := by
  obtain ⟨f, fd, F, hm⟩ := T.f_normal
  have d_normal_factor : DefOk P w K mg base "normal_factor" 3 m_normal_factor := d_normal_factor T
  have d_times : DefOk P w K mg base "times" 2 m_times := d_times T
  have d_multiplied : DefOk P w K mg base "multiplied" 3 m_multiplied := d_multiplied T
  exact ⟨f, fd, ["some_row"], fnD F sc_normal S_normal m_normal (fn1_len _) (fn1_body fun _ => rfl) (fun cdv A outer s H E B W hr tk hp => (pds_cons (pd_asg (pd_var 0) (pgd_tup rfl (pgds_cons (pgd_name 1 sc_normal.nd) (pgds_cons (pgd_name 2 sc_normal.nd) (pgds_cons (pgd_name 3 sc_normal.nd) pgds_nil))))) (pds_cons (pd_set 4 sc_normal.nd (pd_call d_normal_factor (hr.mono (by decide)) tk (pda_cons (pd_var 0) pda_nil))) (pds_one (pd_ret (pd_tup (pda_cons (pd_call d_multiplied (hr.mono (by decide)) tk (pda_cons (pd_var 1) (pda_cons (pd_var 4) pda_nil))) (pda_cons (pd_var 2) (pda_cons (pd_call d_times (hr.mono (by decide)) tk (pda_cons (pd_var 3) (pda_cons (pd_var 4) pda_nil))) pda_nil))))))))), hm, F.kp, F.binds fun _ _ _ _ _ _ us hl => match us, hl with | [_], _ => rfl⟩
theorem d_row (T : Txt w K mg) : DefOk P w K mg base "row" 5 m_row := by
  obtain ⟨f, fd, F, hm⟩ := T.f_row
  have d_added_up : DefOk P w K mg base "added_up" 3 m_added_up := d_added_up T
  have d_minus : DefOk P w K mg base "minus" 2 m_minus := d_minus T
  have d_multiplied : DefOk P w K mg base "multiplied" 3 m_multiplied := d_multiplied T
  have d_normal : DefOk P w K mg base "normal" 4 m_normal := d_normal T
  have c__TURNED := T.c__TURNED
  obtain ⟨v_ZERO, u_ZERO, c_ZERO, r_ZERO, t_ZERO⟩ := T.c_ZERO
  obtain ⟨v_MINUS_ONE, u_MINUS_ONE, c_MINUS_ONE, r_MINUS_ONE, t_MINUS_ONE⟩ := T.c_MINUS_ONE
  exact ⟨f, fd, ["pairs", "sign", "bound"], fnD F sc_row S_row m_row (fn3_len _) (fn3_body fun _ _ _ => rfl) (fun cdv A outer s H E B W hr tk hp => (pds_cons (pd_set 3 sc_row.nd (pd_call d_added_up (hr.mono (by decide)) tk (pda_cons (pd_var 0) pda_nil))) (pds_cons (pd_if (pt_inK c__TURNED (pd_var 1)) (pds_one (pd_ret (pd_call d_normal (hr.mono (by decide)) tk (pda_cons (pd_tup (pda_cons (pd_call d_multiplied (hr.mono (by decide)) tk (pda_cons (pd_var 3) (pda_cons (pd_glob c_MINUS_ONE r_MINUS_ONE t_MINUS_ONE) pda_nil))) (pda_cons (pd_ixK c__TURNED (pd_var 1)) (pda_cons (pd_call d_minus (hr.mono (by decide)) tk (pda_cons (pd_glob c_ZERO r_ZERO t_ZERO) (pda_cons (pd_var 2) pda_nil))) pda_nil)))) pda_nil)))) pds_nil) (pds_one (pd_ret (pd_call d_normal (hr.mono (by decide)) tk (pda_cons (pd_tup (pda_cons (pd_var 3) (pda_cons (pd_var 1) (pda_cons (pd_var 2) pda_nil)))) pda_nil))))))), hm, F.kp, F.binds fun _ _ _ _ _ _ us hl => match us, hl with | [_, _, _], _ => rfl⟩
theorem d__run_end (T : Txt w K mg) : DefOk P w K mg base "_run_end" 1 m__run_end := by
  obtain ⟨f, fd, F, hm⟩ := T.f__run_end
  have z_len := T.z_len
  exact ⟨f, fd, ["text", "at", "chars", "most"], fnD F sc__run_end S__run_end m__run_end (fn4_len _) (fn4_body fun _ _ _ _ => rfl) (fun cdv A outer s H E B W hr tk hp => (pds_cons (pd_set 4 sc__run_end.nd (pd_var 1)) (pds_cons (pd_while hp (PW.pt (pw_andD (pt_cmp' (op_lt.or op_lt_str) rd_lt (nomark _) (pd_var 4) (pd_callB call_len rd_len z_len (by decide +kernel) (pda_cons (pd_var 0) pda_nil))) (pw_andD (pt_cmp' (op_lt.or op_lt_str) rd_lt (nomark _) (pd_sub (pd_var 4) (pd_var 1)) (pd_var 3)) (pw_and1 (pt_cmp' (op_in3 (hu65 hr)) rd_in3 rfl (pd_ix (pd_var 0) (pd_var 4)) (pd_var 2)))))) (pds_one (pd_aug 4 ip_add sc__run_end.nd pd_int))) (pds_one (pd_ret (pd_var 4)))))), hm, F.kp, F.binds fun _ _ _ _ _ _ us hl => match us, hl with | [_, _, _, _], _ => rfl⟩
theorem d__digits_end (T : Txt w K mg) : DefOk P w K mg base "_digits_end" 2 m__digits_end := by
  obtain ⟨f, fd, F, hm⟩ := T.f__digits_end
  have d__run_end : DefOk P w K mg base "_run_end" 1 m__run_end := d__run_end T
  obtain ⟨v_DIGITS, u_DIGITS, c_DIGITS, r_DIGITS, t_DIGITS⟩ := T.c_DIGITS
  obtain ⟨v__DIGIT_CHARS, u__DIGIT_CHARS, c__DIGIT_CHARS, r__DIGIT_CHARS, t__DIGIT_CHARS⟩ := T.c__DIGIT_CHARS
  exact ⟨f, fd, ["text", "at"], fnD F sc__digits_end S__digits_end m__digits_end (fn2_len _) (fn2_body fun _ _ => rfl) (fun cdv A outer s H E B W hr tk hp => (pds_cons (pd_if (pt_cmp' (op_eqD hr.units) rd_eq (nomark _) (pd_ix (pd_var 0) (pd_var 1)) pd_str) (pds_one (pd_ret (pd_add (pd_var 1) pd_int))) pds_nil) (pds_one (pd_ret (pd_call d__run_end (hr.mono (by decide)) tk (pda_cons (pd_var 0) (pda_cons (pd_var 1) (pda_cons (pd_glob c__DIGIT_CHARS r__DIGIT_CHARS t__DIGIT_CHARS) (pda_cons (pd_glob c_DIGITS r_DIGITS t_DIGITS) pda_nil))))))))), hm, F.kp, F.binds fun _ _ _ _ _ _ us hl => match us, hl with | [_, _], _ => rfl⟩
theorem d__number_end (T : Txt w K mg) : DefOk P w K mg base "_number_end" 3 m__number_end := by
  obtain ⟨f, fd, F, hm⟩ := T.f__number_end
  have d__digits_end : DefOk P w K mg base "_digits_end" 2 m__digits_end := d__digits_end T
  obtain ⟨v__DIGIT_CHARS, u__DIGIT_CHARS, c__DIGIT_CHARS, r__DIGIT_CHARS, t__DIGIT_CHARS⟩ := T.c__DIGIT_CHARS
  exact ⟨f, fd, ["text", "at"], fnD F sc__number_end S__number_end m__number_end (fn2_len _) (fn2_body fun _ _ => rfl) (fun cdv A outer s H E B W hr tk hp => (pds_cons (pd_set 2 sc__number_end.nd (pd_call d__digits_end (hr.mono (by decide)) tk (pda_cons (pd_var 0) (pda_cons (pd_var 1) pda_nil)))) (pds_cons (pd_set 3 sc__number_end.nd (pd_slice (pd_var 0) (pod_some (pd_add (pd_var 2) pd_int)) (pod_some (pd_add (pd_var 2) pd_int)))) (pds_cons (pd_if (PW.pt (pw_andD (pt_cmp' (op_eqD hr.units) rd_eq (nomark _) (pd_slice (pd_var 0) (pod_some (pd_var 2)) (pod_some (pd_add (pd_var 2) pd_int))) pd_str) (pw_andD (pt_cmp' (op_neD hr.units) rd_ne (nomark _) (pd_var 3) pd_str) (pw_andD (pt_cmp' (op_in3 (hu65 hr)) rd_in3 rfl (pd_var 3) (pd_glob c__DIGIT_CHARS r__DIGIT_CHARS t__DIGIT_CHARS)) (pw_and1 (pt_cmp' (op_neD hr.units) rd_ne (nomark _) (pd_var 3) pd_str)))))) (pds_one (pd_ret (pd_call d__digits_end (hr.mono (by decide)) tk (pda_cons (pd_var 0) (pda_cons (pd_add (pd_var 2) pd_int) pda_nil))))) pds_nil) (pds_one (pd_ret (pd_var 2))))))), hm, F.kp, F.binds fun _ _ _ _ _ _ us hl => match us, hl with | [_, _], _ => rfl⟩
theorem d__token_end (T : Txt w K mg) : DefOk P w K mg base "_token_end" 4 m__token_end := by
  obtain ⟨f, fd, F, hm⟩ := T.f__token_end
  have d__number_end : DefOk P w K mg base "_number_end" 3 m__number_end := d__number_end T
  have d__run_end : DefOk P w K mg base "_run_end" 1 m__run_end := d__run_end T
  obtain ⟨v__DIGIT_CHARS, u__DIGIT_CHARS, c__DIGIT_CHARS, r__DIGIT_CHARS, t__DIGIT_CHARS⟩ := T.c__DIGIT_CHARS
  obtain ⟨v__LETTER_CHARS, u__LETTER_CHARS, c__LETTER_CHARS, r__LETTER_CHARS, t__LETTER_CHARS⟩ := T.c__LETTER_CHARS
  obtain ⟨v_LETTERS, u_LETTERS, c_LETTERS, r_LETTERS, t_LETTERS⟩ := T.c_LETTERS
  exact ⟨f, fd, ["text", "at"], fnD F sc__token_end S__token_end m__token_end (fn2_len _) (fn2_body fun _ _ => rfl) (fun cdv A outer s H E B W hr tk hp => (pds_cons (pd_if (pt_cmp' (op_in3 (hu65 hr)) rd_in3 rfl (pd_ix (pd_var 0) (pd_var 1)) (pd_glob c__DIGIT_CHARS r__DIGIT_CHARS t__DIGIT_CHARS)) (pds_one (pd_ret (pd_call d__number_end (hr.mono (by decide)) tk (pda_cons (pd_var 0) (pda_cons (pd_var 1) pda_nil))))) pds_nil) (pds_cons (pd_if (pt_cmp' (op_in3 (hu65 hr)) rd_in3 rfl (pd_ix (pd_var 0) (pd_var 1)) (pd_glob c__LETTER_CHARS r__LETTER_CHARS t__LETTER_CHARS)) (pds_one (pd_ret (pd_call d__run_end (hr.mono (by decide)) tk (pda_cons (pd_var 0) (pda_cons (pd_var 1) (pda_cons (pd_add (pd_glob c__LETTER_CHARS r__LETTER_CHARS t__LETTER_CHARS) (pd_glob c__DIGIT_CHARS r__DIGIT_CHARS t__DIGIT_CHARS)) (pda_cons (pd_glob c_LETTERS r_LETTERS t_LETTERS) pda_nil))))))) pds_nil) (pds_cons (pd_if (pt_cmp' (op_in3 (hu65 hr)) rd_in3 rfl (pd_slice (pd_var 0) (pod_some (pd_var 1)) (pod_some (pd_add (pd_var 1) pd_int))) (pd_tup (pda_cons pd_str (pda_cons pd_str pda_nil)))) (pds_one (pd_ret (pd_add (pd_var 1) pd_int))) pds_nil) (pds_cons (pd_if (pt_cmp' (op_in3 (hu65 hr)) rd_in3 rfl (pd_ix (pd_var 0) (pd_var 1)) pd_str) (pds_one (pd_ret (pd_add (pd_var 1) pd_int))) pds_nil) (pds_one (pd_ret (pd_var 1)))))))), hm, F.kp, F.binds fun _ _ _ _ _ _ us hl => match us, hl with | [_, _], _ => rfl⟩
theorem d__is_cut_off (T : Txt w K mg) : DefOk P w K mg base "_is_cut_off" 1 m__is_cut_off := by
  obtain ⟨f, fd, F, hm⟩ := T.f__is_cut_off
  have z_len := T.z_len
  obtain ⟨v__LETTER_CHARS, u__LETTER_CHARS, c__LETTER_CHARS, r__LETTER_CHARS, t__LETTER_CHARS⟩ := T.c__LETTER_CHARS
  obtain ⟨v__DIGIT_CHARS, u__DIGIT_CHARS, c__DIGIT_CHARS, r__DIGIT_CHARS, t__DIGIT_CHARS⟩ := T.c__DIGIT_CHARS
  exact ⟨f, fd, ["text", "at", "end"], fnD F sc__is_cut_off S__is_cut_off m__is_cut_off (fn3_len _) (fn3_body fun _ _ _ => rfl) (fun cdv A outer s H E B W hr tk hp => (pds_cons (pd_if (pt_cmp' (op_eqD hr.units) rd_eq (nomark _) (pd_var 2) (pd_callB call_len rd_len z_len (by decide +kernel) (pda_cons (pd_var 0) pda_nil))) (pds_one (pd_ret pd_bl)) pds_nil) (pds_cons (pd_if (pt_cmp' (op_in3 (hu65 hr)) rd_in3 rfl (pd_ix (pd_var 0) (pd_var 1)) (pd_glob c__LETTER_CHARS r__LETTER_CHARS t__LETTER_CHARS)) (pds_one (pd_ret (pd_or (pd_cmp (op_in3 (hu65 hr)) rd_in3 rfl (pd_ix (pd_var 0) (pd_var 2)) (pd_glob c__LETTER_CHARS r__LETTER_CHARS t__LETTER_CHARS)) (pe_one (pd_cmp (op_in3 (hu65 hr)) rd_in3 rfl (pd_ix (pd_var 0) (pd_var 2)) (pd_glob c__DIGIT_CHARS r__DIGIT_CHARS t__DIGIT_CHARS)))))) pds_nil) (pds_one (pd_ret (pd_and (pd_cmp (op_in3 (hu65 hr)) rd_in3 rfl (pd_ix (pd_var 0) (pd_var 1)) (pd_glob c__DIGIT_CHARS r__DIGIT_CHARS t__DIGIT_CHARS)) (pe_one (pd_cmp (op_in3 (hu65 hr)) rd_in3 rfl (pd_ix (pd_var 0) (pd_var 2)) (pd_glob c__DIGIT_CHARS r__DIGIT_CHARS t__DIGIT_CHARS))))))))), hm, F.kp, F.binds fun _ _ _ _ _ _ us hl => match us, hl with | [_, _, _], _ => rfl⟩
theorem d__tokens (T : Txt w K mg) : DefOk P w K mg base "_tokens" 5 m__tokens := by
  obtain ⟨f, fd, F, hm⟩ := T.f__tokens
  have d__token_end : DefOk P w K mg base "_token_end" 4 m__token_end := d__token_end T
  have d__is_cut_off : DefOk P w K mg base "_is_cut_off" 1 m__is_cut_off := d__is_cut_off T
  have z_len := T.z_len
  exact ⟨f, fd, ["text"], fnD F sc__tokens S__tokens m__tokens (fn1_len _) (fn1_body fun _ => rfl) (fun cdv A outer s H E B W hr tk hp => (pds_cons (pd_setOwn 1 sc__tokens.nd pda_nil) (pds_cons (pd_set 2 sc__tokens.nd pd_int) (pds_cons (pd_while hp (pt_cmp' (op_lt.or op_lt_str) rd_lt (nomark _) (pd_var 2) (pd_callB call_len rd_len z_len (by decide +kernel) (pda_cons (pd_var 0) pda_nil))) (pds_cons (pd_if (pt_cmp' (op_eqD hr.units) rd_eq (nomark _) (pd_ix (pd_var 0) (pd_var 2)) pd_str) (pds_cons (pd_aug 2 ip_add sc__tokens.nd pd_int) (pds_one pd_cont)) pds_nil) (pds_cons (pd_set 3 sc__tokens.nd (pd_call d__token_end (hr.mono (by decide)) tk (pda_cons (pd_var 0) (pda_cons (pd_var 2) pda_nil)))) (pds_cons (pd_if (pt_cmp' (op_eqD hr.units) rd_eq (nomark _) (pd_var 3) (pd_var 2)) (pds_one (pd_ret (pd_tup (pda_cons (pd_var 1) (pda_cons (pd_var 2) pda_nil))))) pds_nil) (pds_cons (pd_append 1 (pd_tup (pda_cons (pd_var 2) (pda_cons (pd_slice (pd_var 0) (pod_some (pd_var 2)) (pod_some (pd_var 3))) pda_nil)))) (pds_cons (pd_if (pd_tru (pd_call d__is_cut_off (hr.mono (by decide)) tk (pda_cons (pd_var 0) (pda_cons (pd_var 2) (pda_cons (pd_var 3) pda_nil))))) (pds_one (pd_ret (pd_tup (pda_cons (pd_var 1) (pda_cons (pd_var 3) pda_nil))))) pds_nil) (pds_one (pd_set 2 sc__tokens.nd (pd_var 3))))))))) (pds_one (pd_ret (pd_tup (pda_cons (pd_var 1) (pda_cons pd_non pda_nil))))))))), hm, F.kp, F.binds fun _ _ _ _ _ _ us hl => match us, hl with | [_], _ => rfl⟩
theorem d__kind (T : Txt w K mg) : DefOk P w K mg base "_kind" 1 m__kind := by
  obtain ⟨f, fd, F, hm⟩ := T.f__kind
  obtain ⟨v__DIGIT_CHARS, u__DIGIT_CHARS, c__DIGIT_CHARS, r__DIGIT_CHARS, t__DIGIT_CHARS⟩ := T.c__DIGIT_CHARS
  obtain ⟨v__LETTER_CHARS, u__LETTER_CHARS, c__LETTER_CHARS, r__LETTER_CHARS, t__LETTER_CHARS⟩ := T.c__LETTER_CHARS
  exact ⟨f, fd, ["token"], fnD F sc__kind S__kind m__kind (fn1_len _) (fn1_body fun _ => rfl) (fun cdv A outer s H E B W hr tk hp => (pds_cons (pd_if (pt_cmp' (op_in3 (hu65 hr)) rd_in3 rfl (pd_ix (pd_var 0) pd_int) (pd_glob c__DIGIT_CHARS r__DIGIT_CHARS t__DIGIT_CHARS)) (pds_one (pd_ret pd_str)) pds_nil) (pds_cons (pd_if (pt_cmp' (op_in3 (hu65 hr)) rd_in3 rfl (pd_ix (pd_var 0) pd_int) (pd_glob c__LETTER_CHARS r__LETTER_CHARS t__LETTER_CHARS)) (pds_one (pd_ret pd_str)) pds_nil) (pds_cons (pd_if (pt_cmp' (op_in3 (hu65 hr)) rd_in3 rfl (pd_var 0) (pd_tup (pda_cons pd_str (pda_cons pd_str pda_nil)))) (pds_one (pd_ret (pd_var 0))) pds_nil) (pds_one (pd_ret pd_str)))))), hm, F.kp, F.binds fun _ _ _ _ _ _ us hl => match us, hl with | [_], _ => rfl⟩
theorem d__check (T : Txt w K mg) : DefOk P w K mg base "_check" 3 m__check := by
  obtain ⟨f, fd, F, hm⟩ := T.f__check
  have d__kind : DefOk P w K mg base "_kind" 1 m__kind := d__kind T
  have z_len := T.z_len
  obtain ⟨C_TextError, fI_TextError, fd_TextError, x_TextError⟩ := T.x_TextError
  have dI_TextError := di_TextError (P := P) (w := w) (base := base) x_TextError
  have xb_TextError : Binds K fd_TextError ["self", "place", "what"] [] := x_TextError.fn.binds fun _ _ _ _ _ _ us hl => match us, hl with | [_, _, _], _ => rfl
  have c__BEHIND := T.c__BEHIND
  exact ⟨f, fd, ["text", "tokens", "wrong"], fnD F sc__check S__check m__check (fn3_len _) (fn3_body fun _ _ _ => rfl) (fun cdv A outer s H E B W hr tk hp => (pds_cons (pd_asg (pd_tup (pda_cons pd_str (pda_cons pd_int pda_nil))) (pgd_tup rfl (pgds_cons (pgd_name 3 sc__check.nd) (pgds_cons (pgd_name 4 sc__check.nd) pgds_nil)))) (pds_cons (pd_for hp rfl (pid_seq (pd_var 1)) (pgd_tup rfl (pgds_cons (pgd_name 5 sc__check.nd) (pgds_cons (pgd_name 6 sc__check.nd) pgds_nil))) (pds_cons (pd_set 7 sc__check.nd (pd_call d__kind (hr.mono (by decide)) tk (pda_cons (pd_var 6) pda_nil))) (pds_cons (pd_if (PW.pt (pw_orD (pt_cmp' (op_notIn3 (hu65 hr)) rd_notIn3 rfl (pd_var 7) (pd_ixG c__BEHIND (pd_var 3))) (pw_or1 (PW.pt (pw_andD (pt_cmp' (op_eqD hr.units) rd_eq (nomark _) (pd_var 7) pd_str) (pw_and1 (pt_cmp' (op_eqD hr.units) rd_eq (nomark _) (pd_var 4) pd_int))))))) (pds_one (pd_raiseI rfl tk x_TextError dI_TextError (hr.mono (by decide)) xb_TextError (pda_cons (pd_var 5) (pda_cons pd_str pda_nil)))) pds_nil) (pds_cons (pd_if (pt_cmp' (op_eqD hr.units) rd_eq (nomark _) (pd_var 7) pd_str) (pds_one (pd_aug 4 ip_add sc__check.nd pd_int)) pds_nil) (pds_one (pd_set 3 sc__check.nd (pd_var 7))))))) (pds_cons (pd_if (pt_cmp' op_notN rd_notN (nomark _) (pd_var 2) pd_non) (pds_one (pd_raiseI rfl tk x_TextError dI_TextError (hr.mono (by decide)) xb_TextError (pda_cons (pd_var 2) (pda_cons pd_str pda_nil)))) pds_nil) (pds_one (pd_if (PW.pt (pw_orD (pt_cmp' (op_eqD hr.units) rd_eq (nomark _) (pd_var 4) pd_int) (pw_or1 (pt_cmp' (op_notIn3 (hu65 hr)) rd_notIn3 rfl (pd_var 3) (pd_tup (pda_cons pd_str (pda_cons pd_str pda_nil))))))) (pds_one (pd_raiseI rfl tk x_TextError dI_TextError (hr.mono (by decide)) xb_TextError (pda_cons (pd_callB call_len rd_len z_len (by decide +kernel) (pda_cons (pd_var 0) pda_nil)) (pda_cons pd_str pda_nil)))) pds_nil)))))), hm, F.kp, F.binds fun _ _ _ _ _ _ us hl => match us, hl with | [_, _, _], _ => rfl⟩
theorem d__number_of (T : Txt w K mg) : DefOk P w K mg base "_number_of" 2 m__number_of := by
  obtain ⟨f, fd, F, hm⟩ := T.f__number_of
  have d_number : DefOk P w K mg base "number" 1 m_number := d_number T
  have z_int := T.z_int
  exact ⟨f, fd, ["token"], fnD F sc__number_of S__number_of m__number_of (fn1_len _) (fn1_body fun _ => rfl) (fun cdv A outer s H E B W hr tk hp => (pds_cons (pd_part3 rfl (pd_var 0) pd_str (pgds_cons (pgd_name 1 sc__number_of.nd) (pgds_cons (pgd_name 2 sc__number_of.nd) (pgds_cons (pgd_name 3 sc__number_of.nd) pgds_nil)))) (pds_one (pd_ret (pd_call d_number (hr.mono (by decide)) tk (pda_cons (pd_callTy (callR_or call_int1 call_int_str) rd_int z_int (by decide +kernel) (pda_cons (pd_var 1) pda_nil)) (pda_cons (pd_callTy (callR_or call_int1 call_int_str) rd_int z_int (by decide +kernel) (pda_cons (pd_orL (pd_var 3) (pe_one pd_str)) pda_nil)) pda_nil))))))), hm, F.kp, F.binds fun _ _ _ _ _ _ us hl => match us, hl with | [_], _ => rfl⟩
theorem d__row_of (T : Txt w K mg) : DefOk P w K mg base "_row_of" 6 m__row_of := by
  obtain ⟨f, fd, F, hm⟩ := T.f__row_of
  have d__kind : DefOk P w K mg base "_kind" 1 m__kind := d__kind T
  have d__number_of : DefOk P w K mg base "_number_of" 2 m__number_of := d__number_of T
  have d_times : DefOk P w K mg base "times" 2 m_times := d_times T
  have d_minus : DefOk P w K mg base "minus" 2 m_minus := d_minus T
  have d_row : DefOk P w K mg base "row" 5 m_row := d_row T
  have z_enumerate := T.z_enumerate
  have z_len := T.z_len
  obtain ⟨v_ZERO, u_ZERO, c_ZERO, r_ZERO, t_ZERO⟩ := T.c_ZERO
  obtain ⟨v_ONE, u_ONE, c_ONE, r_ONE, t_ONE⟩ := T.c_ONE
  obtain ⟨v_MINUS_ONE, u_MINUS_ONE, c_MINUS_ONE, r_MINUS_ONE, t_MINUS_ONE⟩ := T.c_MINUS_ONE
  exact ⟨f, fd, ["tokens"], fnD F sc__row_of S__row_of m__row_of (fn1_len _) (fn1_body fun _ => rfl) (fun cdv A outer s H E B W hr tk hp => (pds_cons (pd_par3T 1 2 3 rfl sc__row_of.nd c_ZERO r_ZERO t_ZERO) (pds_cons (pd_asg2 4 5 sc__row_of.nd (pd_glob c_ONE r_ONE t_ONE)) (pds_cons (pd_forP hp rfl (pid_enum z_enumerate (pd_var 0)) (pgp_tup rfl (pgds_cons (pgd_name 6 sc__row_of.nd) (pgds_cons (pgd_name 7 sc__row_of.nd) pgds_nil))) (pds_cons (pd_set 8 sc__row_of.nd (pd_call d__kind (hr.mono (by decide)) tk (pda_cons (pd_var 7) pda_nil))) (pds_one (pd_if (pt_cmp' (op_eqD hr.units) rd_eq (nomark _) (pd_var 8) pd_str) (pds_cons (pd_set 2 sc__row_of.nd (pd_var 7)) (pds_one (pd_asg2 4 5 sc__row_of.nd (pd_glob c_MINUS_ONE r_MINUS_ONE t_MINUS_ONE)))) (pds_one (pd_if (pt_cmp' (op_eqD hr.units) rd_eq (nomark _) (pd_var 8) pd_str) (pds_one (pd_append 1 (pd_tup (pda_cons (pd_var 7) (pda_cons (pd_var 5) pda_nil))))) (pds_one (pd_if (pt_cmp' (op_eqD hr.units) rd_eq (nomark _) (pd_var 8) pd_str) (pds_cons (pd_set 5 sc__row_of.nd (pd_call d_times (hr.mono (by decide)) tk (pda_cons (pd_var 5) (pda_cons (pd_call d__number_of (hr.mono (by decide)) tk (pda_cons (pd_var 7) pda_nil)) pda_nil)))) (pds_one (pd_if (PW.pt (pw_orD (pt_cmp' (op_eqD hr.units) rd_eq (nomark _) (pd_add (pd_var 6) pd_int) (pd_callB call_len rd_len z_len (by decide +kernel) (pda_cons (pd_var 0) pda_nil))) (pw_or1 (pt_cmp' (op_neD hr.units) rd_ne (nomark _) (pd_call d__kind (hr.mono (by decide)) tk (pda_cons (pd_ix (pd_var 0) (pd_add (pd_var 6) pd_int)) pda_nil)) pd_str)))) (pds_one (pd_set 3 sc__row_of.nd (pd_call d_minus (hr.mono (by decide)) tk (pda_cons (pd_var 3) (pda_cons (pd_var 5) pda_nil))))) pds_nil))) (pds_one (pd_set 5 sc__row_of.nd (pd_ifExp (pt_cmp' (op_eqD hr.units) rd_eq (nomark _) (pd_var 7) pd_str) (pd_var 4) (pd_call d_times (hr.mono (by decide)) tk (pda_cons (pd_var 4) (pda_cons (pd_glob c_MINUS_ONE r_MINUS_ONE t_MINUS_ONE) pda_nil)))))))))))))) (pds_one (pd_ret (pd_call d_row (hr.mono (by decide)) tk (pda_cons (pd_var 1) (pda_cons (pd_var 2) (pda_cons (pd_var 3) pda_nil)))))))))), hm, F.kp, F.binds fun _ _ _ _ _ _ us hl => match us, hl with | [_], _ => rfl⟩
theorem d_read_row (T : Txt w K mg) : DefOk P w K mg base "read_row" 7 m_read_row := by
  obtain ⟨f, fd, F, hm⟩ := T.f_read_row
  have d__tokens : DefOk P w K mg base "_tokens" 5 m__tokens := d__tokens T
  have d__check : DefOk P w K mg base "_check" 3 m__check := d__check T
  have d__row_of : DefOk P w K mg base "_row_of" 6 m__row_of := d__row_of T
  exact ⟨f, fd, ["text"], fnD F sc_read_row S_read_row m_read_row (fn1_len _) (fn1_body fun _ => rfl) (fun cdv A outer s H E B W hr tk hp => (pds_cons (pd_asg (pd_call d__tokens (hr.mono (by decide)) tk (pda_cons (pd_var 0) pda_nil)) (pgd_tup rfl (pgds_cons (pgd_name 1 sc_read_row.nd) (pgds_cons (pgd_name 2 sc_read_row.nd) pgds_nil)))) (pds_cons (pd_expr (pd_call d__check (hr.mono (by decide)) tk (pda_cons (pd_var 0) (pda_cons (pd_var 1) (pda_cons (pd_var 2) pda_nil))))) (pds_one (pd_ret (pd_call d__row_of (hr.mono (by decide)) tk (pda_cons (pd_lc (own := [("_", 3), ("token", 4)]) rfl sc_read_row.nd (pid_seq (pd_var 1)) (blkOk_by (N := ["text", "tokens", "wrong", "_", "token"]) (sc := defScope s_read_row) (by decide +kernel)) (fun _ _ _ _ _ => (pgw_tup rfl (pgws_cons (pgw_name 3 sc_read_row.nd) (pgws_cons (pgw_name 4 sc_read_row.nd) pgws_nil)))) (fun _ _ _ _ _ => pts_nilD) (fun _ _ _ _ _ B => (pd_var 4))) pda_nil))))))), hm, F.kp, F.binds fun _ _ _ _ _ _ us hl => match us, hl with | [_], _ => rfl⟩
theorem d__law_cell (T : Txt w K mg) : DefOk P w K mg base "_law_cell" 1 m__law_cell := by
  obtain ⟨f, fd, F, hm⟩ := T.f__law_cell
  have z_len := T.z_len
  exact ⟨f, fd, ["script", "k"], fnD F sc__law_cell S__law_cell m__law_cell (fn2_len _) (fn2_body fun _ _ => rfl) (fun cdv A outer s H E B W hr tk hp => (pds_cons (pd_if (pt_cmp' (op_lt.or op_lt_str) rd_lt (nomark _) (pd_var 1) (pd_callB call_len rd_len z_len (by decide +kernel) (pda_cons (pd_var 0) pda_nil))) (pds_one (pd_ret (pd_ix (pd_var 0) (pd_var 1)))) pds_nil) (pds_one (pd_ret pd_int)))), hm, F.kp, F.binds fun _ _ _ _ _ _ us hl => match us, hl with | [_, _], _ => rfl⟩
theorem d__law_draw (T : Txt w K mg) : DefOk P w K mg base "_law_draw" 2 m__law_draw := by
  obtain ⟨f, fd, F, hm⟩ := T.f__law_draw
  have d__law_cell : DefOk P w K mg base "_law_cell" 1 m__law_cell := d__law_cell T
  have z_len := T.z_len
  have z_range := T.z_range
  exact ⟨f, fd, ["script", "k", "sizes"], fnD F sc__law_draw S__law_draw m__law_draw (fn3_len _) (fn3_body fun _ _ _ => rfl) (fun cdv A outer s H E B W hr tk hp => (pds_cons (pd_set 3 sc__law_draw.nd (pd_call d__law_cell (hr.mono (by decide)) tk (pda_cons (pd_var 0) (pda_cons (pd_var 1) pda_nil)))) (pds_cons (pd_if (pt_cmp' (op_lt.or op_lt_str) rd_lt (nomark _) (pd_var 3) pd_int) (pds_one (pd_set 3 sc__law_draw.nd (pd_neg (pd_var 3)))) pds_nil) (pds_cons (pd_setOwn 4 sc__law_draw.nd pda_nil) (pds_cons (pd_if (pt_cmp' op_ge rd_ge (nomark _) (pd_var 3) (pd_pow pd_int pd_int)) (pds_cons (pd_set 3 sc__law_draw.nd (pd_sub (pd_var 3) (pd_pow pd_int pd_int))) (pds_cons (pd_for hp rfl (pid_seq (pd_var 2)) (pgd_name 5 sc__law_draw.nd) (pds_cons (pd_append 4 (pd_mod (pd_var 3) (pd_var 5))) (pds_one (pd_set 3 sc__law_draw.nd (pd_div (pd_var 3) (pd_var 5)))))) (pds_one (pd_ret (pd_var 4))))) pds_nil) (pds_cons (pd_set 6 sc__law_draw.nd (pd_mod (pd_add (pd_add (pd_var 3) pd_int) (pd_mul pd_int (pd_var 1))) pd_int)) (pds_cons (pd_for hp rfl (pid_range1 z_range (pda_cons (pd_callB call_len rd_len z_len (by decide +kernel) (pda_cons (pd_var 2) pda_nil)) pda_nil)) (pgd_name 7 sc__law_draw.nd) (pds_cons (pd_set 6 sc__law_draw.nd (pd_mod (pd_add (pd_add (pd_mul (pd_var 6) pd_int) pd_int) (pd_var 7)) pd_int)) (pds_cons (pd_set 6 sc__law_draw.nd (pd_mod (pd_add (pd_mul (pd_var 6) pd_int) pd_int) pd_int)) (pds_one (pd_append 4 (pd_mod (pd_div (pd_var 6) pd_int) (pd_ix (pd_var 2) (pd_var 7)))))))) (pds_one (pd_ret (pd_var 4)))))))))), hm, F.kp, F.binds fun _ _ _ _ _ _ us hl => match us, hl with | [_, _, _], _ => rfl⟩
theorem d__law_f (T : Txt w K mg) : DefOk P w K mg base "_law_f" 1 m__law_f := by
  obtain ⟨f, fd, F, hm⟩ := T.f__law_f
  have z_max := T.z_max
  exact ⟨f, fd, ["top", "bottom"], fnD F sc__law_f S__law_f m__law_f (fn2_len _) (fn2_body fun _ _ => rfl) (fun cdv A outer s H E B W hr tk hp => (pds_cons (pd_if (pt_cmp' (op_lt.or op_lt_str) rd_lt (nomark _) (pd_var 1) pd_int) (pds_cons (pd_set 0 sc__law_f.nd (pd_neg (pd_var 0))) (pds_one (pd_set 1 sc__law_f.nd (pd_neg (pd_var 1))))) pds_nil) (pds_cons (pd_set 2 sc__law_f.nd (pd_callB (call_max2 rfl) rd_max z_max (by decide +kernel) (pda_cons (pd_var 0) (pda_cons (pd_neg (pd_var 0)) pda_nil)))) (pds_cons (pd_set 3 sc__law_f.nd (pd_var 1)) (pds_cons (pd_while hp (pt_cmp' (op_neD hr.units) rd_ne (nomark _) (pd_var 3) pd_int) (pds_one (pd_par 2 3 rfl sc__law_f.nd (pda_cons (pd_var 3) (pda_cons (pd_mod (pd_var 2) (pd_var 3)) pda_nil))))) (pds_one (pd_ret (pd_tup (pda_cons (pd_div (pd_var 0) (pd_var 2)) (pda_cons (pd_div (pd_var 1) (pd_var 2)) pda_nil)))))))))), hm, F.kp, F.binds fun _ _ _ _ _ _ us hl => match us, hl with | [_, _], _ => rfl⟩
theorem d__law_add (T : Txt w K mg) : DefOk P w K mg base "_law_add" 2 m__law_add := by
  obtain ⟨f, fd, F, hm⟩ := T.f__law_add
  have d__law_f : DefOk P w K mg base "_law_f" 1 m__law_f := d__law_f T
  exact ⟨f, fd, ["a", "b"], fnD F sc__law_add S__law_add m__law_add (fn2_len _) (fn2_body fun _ _ => rfl) (fun cdv A outer s H E B W hr tk hp => (pds_one (pd_ret (pd_call d__law_f (hr.mono (by decide)) tk (pda_cons (pd_add (pd_mul (pd_ix (pd_var 0) pd_int) (pd_ix (pd_var 1) pd_int)) (pd_mul (pd_ix (pd_var 1) pd_int) (pd_ix (pd_var 0) pd_int))) (pda_cons (pd_mul (pd_ix (pd_var 0) pd_int) (pd_ix (pd_var 1) pd_int)) pda_nil)))))), hm, F.kp, F.binds fun _ _ _ _ _ _ us hl => match us, hl with | [_, _], _ => rfl⟩
theorem d__law_sub (T : Txt w K mg) : DefOk P w K mg base "_law_sub" 2 m__law_sub := by
  obtain ⟨f, fd, F, hm⟩ := T.f__law_sub
  have d__law_f : DefOk P w K mg base "_law_f" 1 m__law_f := d__law_f T
  exact ⟨f, fd, ["a", "b"], fnD F sc__law_sub S__law_sub m__law_sub (fn2_len _) (fn2_body fun _ _ => rfl) (fun cdv A outer s H E B W hr tk hp => (pds_one (pd_ret (pd_call d__law_f (hr.mono (by decide)) tk (pda_cons (pd_sub (pd_mul (pd_ix (pd_var 0) pd_int) (pd_ix (pd_var 1) pd_int)) (pd_mul (pd_ix (pd_var 1) pd_int) (pd_ix (pd_var 0) pd_int))) (pda_cons (pd_mul (pd_ix (pd_var 0) pd_int) (pd_ix (pd_var 1) pd_int)) pda_nil)))))), hm, F.kp, F.binds fun _ _ _ _ _ _ us hl => match us, hl with | [_, _], _ => rfl⟩
theorem d__law_mul (T : Txt w K mg) : DefOk P w K mg base "_law_mul" 2 m__law_mul := by
  obtain ⟨f, fd, F, hm⟩ := T.f__law_mul
  have d__law_f : DefOk P w K mg base "_law_f" 1 m__law_f := d__law_f T
  exact ⟨f, fd, ["a", "b"], fnD F sc__law_mul S__law_mul m__law_mul (fn2_len _) (fn2_body fun _ _ => rfl) (fun cdv A outer s H E B W hr tk hp => (pds_one (pd_ret (pd_call d__law_f (hr.mono (by decide)) tk (pda_cons (pd_mul (pd_ix (pd_var 0) pd_int) (pd_ix (pd_var 1) pd_int)) (pda_cons (pd_mul (pd_ix (pd_var 0) pd_int) (pd_ix (pd_var 1) pd_int)) pda_nil)))))), hm, F.kp, F.binds fun _ _ _ _ _ _ us hl => match us, hl with | [_, _], _ => rfl⟩
theorem d__law_div (T : Txt w K mg) : DefOk P w K mg base "_law_div" 2 m__law_div := by
  obtain ⟨f, fd, F, hm⟩ := T.f__law_div
  have d__law_f : DefOk P w K mg base "_law_f" 1 m__law_f := d__law_f T
  exact ⟨f, fd, ["a", "b"], fnD F sc__law_div S__law_div m__law_div (fn2_len _) (fn2_body fun _ _ => rfl) (fun cdv A outer s H E B W hr tk hp => (pds_one (pd_ret (pd_call d__law_f (hr.mono (by decide)) tk (pda_cons (pd_mul (pd_ix (pd_var 0) pd_int) (pd_ix (pd_var 1) pd_int)) (pda_cons (pd_mul (pd_ix (pd_var 0) pd_int) (pd_ix (pd_var 1) pd_int)) pda_nil)))))), hm, F.kp, F.binds fun _ _ _ _ _ _ us hl => match us, hl with | [_, _], _ => rfl⟩
theorem d__law_scaled (T : Txt w K mg) : DefOk P w K mg base "_law_scaled" 3 m__law_scaled := by
  obtain ⟨f, fd, F, hm⟩ := T.f__law_scaled
  have d__law_mul : DefOk P w K mg base "_law_mul" 2 m__law_mul := d__law_mul T
  have z_tuple := T.z_tuple
  exact ⟨f, fd, ["line", "factor"], fnD F sc__law_scaled S__law_scaled m__law_scaled (fn2_len _) (fn2_body fun _ _ => rfl) (fun cdv A outer s H E B W hr tk hp => (pds_one (pd_ret (pd_tup (pda_cons (pd_callTy call_tupleN rd_tuple z_tuple (by decide +kernel) (pda_cons (pd_lc (own := [("name", 2), ("number_v", 3)]) rfl sc__law_scaled.nd (pid_seq (pd_ix (pd_var 0) pd_int)) (blkOk_by (N := ["line", "factor", "name", "number_v"]) (sc := defScope s__law_scaled) (by decide +kernel)) (fun _ _ _ _ _ => (pgw_tup rfl (pgws_cons (pgw_name 2 sc__law_scaled.nd) (pgws_cons (pgw_name 3 sc__law_scaled.nd) pgws_nil)))) (fun _ _ _ _ _ => pts_nilD) (fun _ _ _ _ _ B => (pd_tup (pda_cons (pd_var 2) (pda_cons (pd_call d__law_mul (hr.mono (by decide)) takes0 (pda_cons (pd_var 3) (pda_cons (pd_var 1) pda_nil))) pda_nil))))) pda_nil)) (pda_cons (pd_ix (pd_var 0) pd_int) (pda_cons (pd_call d__law_mul (hr.mono (by decide)) tk (pda_cons (pd_ix (pd_var 0) pd_int) (pda_cons (pd_var 1) pda_nil))) pda_nil))))))), hm, F.kp, F.binds fun _ _ _ _ _ _ us hl => match us, hl with | [_, _], _ => rfl⟩
theorem d__law_factor (T : Txt w K mg) : DefOk P w K mg base "_law_factor" 3 m__law_factor := by
  obtain ⟨f, fd, F, hm⟩ := T.f__law_factor
  have d__law_f : DefOk P w K mg base "_law_f" 1 m__law_f := d__law_f T
  have d__law_div : DefOk P w K mg base "_law_div" 2 m__law_div := d__law_div T
  have d__law_mul : DefOk P w K mg base "_law_mul" 2 m__law_mul := d__law_mul T
  have z_len := T.z_len
  have z_max := T.z_max
  exact ⟨f, fd, ["line"], fnD F sc__law_factor S__law_factor m__law_factor (fn1_len _) (fn1_body fun _ => rfl) (fun cdv A outer s H E B W hr tk hp => (pds_cons (pd_asg (pd_var 0) (pgd_tup rfl (pgds_cons (pgd_name 1 sc__law_factor.nd) (pgds_cons (pgd_name 2 sc__law_factor.nd) (pgds_cons (pgd_name 3 sc__law_factor.nd) pgds_nil))))) (pds_cons (pd_if (pt_cmp' (op_eqD hr.units) rd_eq (nomark _) (pd_callB call_len rd_len z_len (by decide +kernel) (pda_cons (pd_var 1) pda_nil)) pd_int) (pds_cons (pd_if (pt_cmp' (op_eqD hr.units) rd_eq (nomark _) (pd_ix (pd_var 3) pd_int) pd_int) (pds_one (pd_ret (pd_tup (pda_cons pd_int (pda_cons pd_int pda_nil))))) pds_nil) (pds_cons (pd_set 4 sc__law_factor.nd (pd_call d__law_div (hr.mono (by decide)) tk (pda_cons (pd_tup (pda_cons pd_int (pda_cons pd_int pda_nil))) (pda_cons (pd_call d__law_f (hr.mono (by decide)) tk (pda_cons (pd_callB (call_max2 rfl) rd_max z_max (by decide +kernel) (pda_cons (pd_ix (pd_var 3) pd_int) (pda_cons (pd_neg (pd_ix (pd_var 3) pd_int)) pda_nil))) (pda_cons (pd_ix (pd_var 3) pd_int) pda_nil))) pda_nil)))) (pds_cons (pd_if (PW.pt (pw_andD (pt_cmp' (op_eqD hr.units) rd_eq (nomark _) (pd_var 2) pd_str) (pw_and1 (pt_cmp' (op_lt.or op_lt_str) rd_lt (nomark _) (pd_ix (pd_var 3) pd_int) pd_int)))) (pds_one (pd_set 4 sc__law_factor.nd (pd_call d__law_mul (hr.mono (by decide)) tk (pda_cons (pd_var 4) (pda_cons (pd_tup (pda_cons (pd_neg pd_int) (pda_cons pd_int pda_nil))) pda_nil))))) pds_nil) (pds_one (pd_ret (pd_var 4)))))) pds_nil) (pds_cons (pd_set 5 sc__law_factor.nd pd_int) (pds_cons (pd_for hp rfl (pid_seq (pd_var 1)) (pgd_tup rfl (pgds_cons (pgd_name 6 sc__law_factor.nd) (pgds_cons (pgd_name 7 sc__law_factor.nd) pgds_nil))) (pds_one (pd_set 5 sc__law_factor.nd (pd_mul (pd_var 5) (pd_ix (pd_var 7) pd_int))))) (pds_cons (pd_set 8 sc__law_factor.nd pd_int) (pds_cons (pd_for hp rfl (pid_seq (pd_var 1)) (pgd_tup rfl (pgds_cons (pgd_name 6 sc__law_factor.nd) (pgds_cons (pgd_name 7 sc__law_factor.nd) pgds_nil))) (pds_cons (pd_set 9 sc__law_factor.nd (pd_mul (pd_callB (call_max2 rfl) rd_max z_max (by decide +kernel) (pda_cons (pd_ix (pd_var 7) pd_int) (pda_cons (pd_neg (pd_ix (pd_var 7) pd_int)) pda_nil))) (pd_div (pd_var 5) (pd_ix (pd_var 7) pd_int)))) (pds_cons (pd_set 10 sc__law_factor.nd (pd_var 8)) (pds_cons (pd_while hp (pt_cmp' (op_neD hr.units) rd_ne (nomark _) (pd_var 10) pd_int) (pds_one (pd_par 9 10 rfl sc__law_factor.nd (pda_cons (pd_var 10) (pda_cons (pd_mod (pd_var 9) (pd_var 10)) pda_nil))))) (pds_one (pd_set 8 sc__law_factor.nd (pd_var 9))))))) (pds_cons (pd_set 4 sc__law_factor.nd (pd_call d__law_f (hr.mono (by decide)) tk (pda_cons (pd_var 5) (pda_cons (pd_var 8) pda_nil)))) (pds_cons (pd_if (PW.pt (pw_andD (pt_cmp' (op_eqD hr.units) rd_eq (nomark _) (pd_var 2) pd_str) (pw_and1 (pt_cmp' (op_lt.or op_lt_str) rd_lt (nomark _) (pd_ix (pd_ix (pd_ix (pd_var 1) pd_int) pd_int) pd_int) pd_int)))) (pds_one (pd_set 4 sc__law_factor.nd (pd_call d__law_mul (hr.mono (by decide)) tk (pda_cons (pd_var 4) (pda_cons (pd_tup (pda_cons (pd_neg pd_int) (pda_cons pd_int pda_nil))) pda_nil))))) pds_nil) (pds_one (pd_ret (pd_var 4)))))))))))), hm, F.kp, F.binds fun _ _ _ _ _ _ us hl => match us, hl with | [_], _ => rfl⟩
theorem d__law_normal (T : Txt w K mg) : DefOk P w K mg base "_law_normal" 4 m__law_normal := by
  obtain ⟨f, fd, F, hm⟩ := T.f__law_normal
  have d__law_factor : DefOk P w K mg base "_law_factor" 3 m__law_factor := d__law_factor T
  have d__law_scaled : DefOk P w K mg base "_law_scaled" 3 m__law_scaled := d__law_scaled T
  exact ⟨f, fd, ["line"], fnD F sc__law_normal S__law_normal m__law_normal (fn1_len _) (fn1_body fun _ => rfl) (fun cdv A outer s H E B W hr tk hp => (pds_one (pd_ret (pd_call d__law_scaled (hr.mono (by decide)) tk (pda_cons (pd_var 0) (pda_cons (pd_call d__law_factor (hr.mono (by decide)) tk (pda_cons (pd_var 0) pda_nil)) pda_nil)))))), hm, F.kp, F.binds fun _ _ _ _ _ _ us hl => match us, hl with | [_], _ => rfl⟩
theorem d__law_parts (T : Txt w K mg) : DefOk P w K mg base "_law_parts" 3 m__law_parts := by
  obtain ⟨f, fd, F, hm⟩ := T.f__law_parts
  have d__law_add : DefOk P w K mg base "_law_add" 2 m__law_add := d__law_add T
  have z_sorted := T.z_sorted
  have z_tuple := T.z_tuple
  exact ⟨f, fd, ["pairs"], fnD F sc__law_parts S__law_parts m__law_parts (fn1_len _) (fn1_body fun _ => rfl) (fun cdv A outer s H E B W hr tk hp => (pds_cons (pd_newD 1 sc__law_parts.nd) (pds_cons (pd_for hp rfl (pid_seq (pd_var 0)) (pgd_tup rfl (pgds_cons (pgd_name 2 sc__law_parts.nd) (pgds_cons (pgd_name 3 sc__law_parts.nd) pgds_nil))) (pds_one (pd_put 1 (hu1 hr) (pd_var 2) (pd_call d__law_add (hr.mono (by decide)) tk (pda_cons (pd_dget 1 (hu1 hr) (pd_var 2) (pd_tup (pda_cons pd_int (pda_cons pd_int pda_nil))) ⟨rfl, rfl, rfl, rfl⟩) (pda_cons (pd_var 3) pda_nil)))))) (pds_one (pd_ret (pd_callTy call_tupleN rd_tuple z_tuple (by decide +kernel) (pda_cons (pd_lc (own := [("name", 2)]) rfl sc__law_parts.nd (pid_seq (pd_dsort 1 rfl z_sorted)) (blkOk_by (N := ["pairs", "sums", "name", "number_v"]) (sc := defScope s__law_parts) (by decide +kernel)) (fun _ _ _ _ _ => (pgw_name 2 sc__law_parts.nd)) (fun _ _ _ _ _ => (pts_oneD fun B => (pt_cmp' (op_neD hr.units) rd_ne (nomark _) (pd_ix (pd_dix 1 (hu1 hr) (pd_var 2)) pd_int) pd_int))) (fun _ _ _ _ _ B => (pd_tup (pda_cons (pd_var 2) (pda_cons (pd_dix 1 (hu1 hr) (pd_var 2)) pda_nil))))) pda_nil))))))), hm, F.kp, F.binds fun _ _ _ _ _ _ us hl => match us, hl with | [_], _ => rfl⟩
theorem d__law_row (T : Txt w K mg) : DefOk P w K mg base "_law_row" 5 m__law_row := by
  obtain ⟨f, fd, F, hm⟩ := T.f__law_row
  have d__law_sub : DefOk P w K mg base "_law_sub" 2 m__law_sub := d__law_sub T
  have d__law_parts : DefOk P w K mg base "_law_parts" 3 m__law_parts := d__law_parts T
  have d__law_normal : DefOk P w K mg base "_law_normal" 4 m__law_normal := d__law_normal T
  exact ⟨f, fd, ["pairs", "sign", "bound"], fnD F sc__law_row S__law_row m__law_row (fn3_len _) (fn3_body fun _ _ _ => rfl) (fun cdv A outer s H E B W hr tk hp => (pds_cons (pd_if (PW.pt (pw_orD (pt_cmp' (op_eqD hr.units) rd_eq (nomark _) (pd_var 1) pd_str) (pw_or1 (pt_cmp' (op_eqD hr.units) rd_eq (nomark _) (pd_var 1) pd_str)))) (pds_cons (pd_setLc 0 (own := [("name", 3), ("number_v", 4)]) rfl sc__law_row.nd (sw_true rfl rfl rfl (by decide +kernel)) (pid_seq (pd_var 0)) (blkOk_by (N := ["pairs", "sign", "bound", "name", "number_v"]) (sc := defScope s__law_row) (by decide +kernel)) (fun _ _ _ _ _ => (pgw_tup rfl (pgws_cons (pgw_name 3 sc__law_row.nd) (pgws_cons (pgw_name 4 sc__law_row.nd) pgws_nil)))) (fun _ _ _ _ _ => pts_nilD) (fun _ _ _ _ _ B => (pd_tup (pda_cons (pd_var 3) (pda_cons (pd_call d__law_sub (hr.mono (by decide)) takes0 (pda_cons (pd_tup (pda_cons pd_int (pda_cons pd_int pda_nil))) (pda_cons (pd_var 4) pda_nil))) pda_nil))))) (pds_cons (pd_set 2 sc__law_row.nd (pd_call d__law_sub (hr.mono (by decide)) tk (pda_cons (pd_tup (pda_cons pd_int (pda_cons pd_int pda_nil))) (pda_cons (pd_var 2) pda_nil)))) (pds_one (pd_set 1 sc__law_row.nd (pd_disp [(">=", "<="), (">", "<")] 1 (hu1 hr) (pps_cons pe_str pe_str (pps_cons pe_str pe_str pps_nil))))))) pds_nil) (pds_one (pd_ret (pd_call d__law_normal (hr.mono (by decide)) tk (pda_cons (pd_tup (pda_cons (pd_call d__law_parts (hr.mono (by decide)) tk (pda_cons (pd_var 0) pda_nil)) (pda_cons (pd_var 1) (pda_cons (pd_var 2) pda_nil)))) pda_nil)))))), hm, F.kp, F.binds fun _ _ _ _ _ _ us hl => match us, hl with | [_, _, _], _ => rfl⟩
theorem d__law_pairs (T : Txt w K mg) : DefOk P w K mg base "_law_pairs" 2 m__law_pairs := by
  obtain ⟨f, fd, F, hm⟩ := T.f__law_pairs
  have d__law_f : DefOk P w K mg base "_law_f" 1 m__law_f := d__law_f T
  have z_range := T.z_range
  exact ⟨f, fd, ["digits"], fnD F sc__law_pairs S__law_pairs m__law_pairs (fn1_len _) (fn1_body fun _ => rfl) (fun cdv A outer s H E B W hr tk hp => (pds_cons (pd_setOwn 1 sc__law_pairs.nd pda_nil) (pds_cons (pd_for hp rfl (pid_range1 z_range (pda_cons pd_int pda_nil)) (pgd_name 2 sc__law_pairs.nd) (pds_one (pd_if (pt_cmp' (op_neD hr.units) rd_ne (nomark _) (pd_ix (pd_var 0) (pd_var 2)) pd_int) (pds_one (pd_append 1 (pd_tup (pda_cons (pd_ix (pd_lst (pda_cons pd_str (pda_cons pd_str (pda_cons pd_str pda_nil)))) (pd_var 2)) (pda_cons (pd_call d__law_f (hr.mono (by decide)) tk (pda_cons (pd_sub (pd_ix (pd_var 0) (pd_var 2)) pd_int) (pda_cons (pd_add pd_int (pd_div (pd_ix (pd_var 0) pd_int) pd_int)) pda_nil))) pda_nil))))) pds_nil))) (pds_one (pd_ret (pd_var 1)))))), hm, F.kp, F.binds fun _ _ _ _ _ _ us hl => match us, hl with | [_], _ => rfl⟩
theorem d__law_anyrow (T : Txt w K mg) : DefOk P w K mg base "_law_anyrow" 6 m__law_anyrow := by
  obtain ⟨f, fd, F, hm⟩ := T.f__law_anyrow
  have d__law_f : DefOk P w K mg base "_law_f" 1 m__law_f := d__law_f T
  have d__law_pairs : DefOk P w K mg base "_law_pairs" 2 m__law_pairs := d__law_pairs T
  have d__law_row : DefOk P w K mg base "_law_row" 5 m__law_row := d__law_row T
  exact ⟨f, fd, ["digits"], fnD F sc__law_anyrow S__law_anyrow m__law_anyrow (fn1_len _) (fn1_body fun _ => rfl) (fun cdv A outer s H E B W hr tk hp => (pds_cons (pd_set 1 sc__law_anyrow.nd (pd_ix (pd_lst (pda_cons pd_str (pda_cons pd_str (pda_cons pd_str (pda_cons pd_str (pda_cons pd_str (pda_cons pd_str pda_nil))))))) (pd_ix (pd_var 0) pd_int))) (pds_one (pd_ret (pd_call d__law_row (hr.mono (by decide)) tk (pda_cons (pd_call d__law_pairs (hr.mono (by decide)) tk (pda_cons (pd_slice (pd_var 0) pod_none (pod_some pd_int)) pda_nil)) (pda_cons (pd_var 1) (pda_cons (pd_call d__law_f (hr.mono (by decide)) tk (pda_cons (pd_sub (pd_ix (pd_var 0) pd_int) pd_int) (pda_cons (pd_add pd_int (pd_ix (pd_var 0) pd_int)) pda_nil))) pda_nil)))))))), hm, F.kp, F.binds fun _ _ _ _ _ _ us hl => match us, hl with | [_], _ => rfl⟩
theorem d__law_system (T : Txt w K mg) : DefOk P w K mg base "_law_system" 7 m__law_system := by
  obtain ⟨f, fd, F, hm⟩ := T.f__law_system
  have d__law_draw : DefOk P w K mg base "_law_draw" 2 m__law_draw := d__law_draw T
  have d__law_anyrow : DefOk P w K mg base "_law_anyrow" 6 m__law_anyrow := d__law_anyrow T
  have z_range := T.z_range
  exact ⟨f, fd, ["script", "k", "most"], fnD F sc__law_system S__law_system m__law_system (fn3_len _) (fn3_body fun _ _ _ => rfl) (fun cdv A outer s H E B W hr tk hp => (pds_cons (pd_set 3 sc__law_system.nd (pd_call d__law_draw (hr.mono (by decide)) tk (pda_cons (pd_var 0) (pda_cons (pd_var 1) (pda_cons (pd_add (pd_lst (pda_cons (pd_var 2) (pda_cons pd_int pda_nil))) (pd_rep (pda_cons pd_int (pda_cons pd_int (pda_cons pd_int (pda_cons pd_int (pda_cons pd_int (pda_cons pd_int (pda_cons pd_int pda_nil))))))) pd_int)) pda_nil))))) (pds_cons (pd_setOwn 4 sc__law_system.nd pda_nil) (pds_cons (pd_for hp rfl (pid_range1 z_range (pda_cons (pd_add pd_int (pd_ix (pd_var 3) pd_int)) pda_nil)) (pgd_name 5 sc__law_system.nd) (pds_cons (pd_setNL 6 sc__law_system.nd (nl_cut (pd_var 3) (pod_some (pd_add pd_int (pd_mul pd_int (pd_var 5)))) (pod_some (pd_add pd_int (pd_mul pd_int (pd_var 5)))))) (pds_cons (pd_if (pt_cmp' op_gt rd_gt (nomark _) (pd_ix (pd_var 3) pd_int) pd_int) (pds_one (pd_setOwn 6 sc__law_system.nd (pda_cons (pd_add (pd_div (pd_ix (pd_var 6) pd_int) pd_int) pd_int) (pda_cons (pd_ix (pd_var 6) pd_int) (pda_cons (pd_ix (pd_var 6) pd_int) (pda_cons (pd_mul (pd_ix (pd_var 6) pd_int) (pd_mod (pd_ix (pd_var 6) pd_int) pd_int)) (pda_cons (pd_ix (pd_var 6) pd_int) (pda_cons (pd_ix (pd_var 6) pd_int) (pda_cons (pd_ix (pd_var 6) pd_int) pda_nil))))))))) pds_nil) (pds_cons (pd_if (pt_cmp' (op_eqD hr.units) rd_eq (nomark _) (pd_ix (pd_var 3) pd_int) pd_int) (pds_one (pd_lset 6 pd_int pd_int)) pds_nil) (pds_one (pd_append 4 (pd_call d__law_anyrow (hr.mono (by decide)) tk (pda_cons (pd_var 6) pda_nil)))))))) (pds_one (pd_ret (pd_var 4))))))), hm, F.kp, F.binds fun _ _ _ _ _ _ us hl => match us, hl with | [_, _, _], _ => rfl⟩
theorem d__law_word (T : Txt w K mg) : DefOk P w K mg base "_law_word" 1 m__law_word := by
  obtain ⟨f, fd, F, hm⟩ := T.f__law_word
  have z_str := T.z_str
  exact ⟨f, fd, ["a"], fnD F sc__law_word S__law_word m__law_word (fn1_len _) (fn1_body fun _ => rfl) (fun cdv A outer s H E B W hr tk hp => (pds_cons (pd_if (pt_cmp' (op_eqD hr.units) rd_eq (nomark _) (pd_ix (pd_var 0) pd_int) pd_int) (pds_one (pd_ret (pd_callTy call_str_int rd_str z_str (by decide +kernel) (pda_cons (pd_ix (pd_var 0) pd_int) pda_nil)))) pds_nil) (pds_one (pd_ret (pd_add (pd_add (pd_callTy call_str_int rd_str z_str (by decide +kernel) (pda_cons (pd_ix (pd_var 0) pd_int) pda_nil)) pd_str) (pd_callTy call_str_int rd_str z_str (by decide +kernel) (pda_cons (pd_ix (pd_var 0) pd_int) pda_nil))))))), hm, F.kp, F.binds fun _ _ _ _ _ _ us hl => match us, hl with | [_], _ => rfl⟩
theorem d__law_rowtext (T : Txt w K mg) : DefOk P w K mg base "_law_rowtext" 2 m__law_rowtext := by
  obtain ⟨f, fd, F, hm⟩ := T.f__law_rowtext
  have d__law_f : DefOk P w K mg base "_law_f" 1 m__law_f := d__law_f T
  have d__law_word : DefOk P w K mg base "_law_word" 1 m__law_word := d__law_word T
  have z_max := T.z_max
  have z_len := T.z_len
  have z_int := T.z_int
  exact ⟨f, fd, ["line"], fnD F sc__law_rowtext S__law_rowtext m__law_rowtext (fn1_len _) (fn1_body fun _ => rfl) (fun cdv A outer s H E B W hr tk hp => (pds_cons (pd_setOwn 1 sc__law_rowtext.nd pda_nil) (pds_cons (pd_for hp rfl (pid_seq (pd_ix (pd_var 0) pd_int)) (pgd_tup rfl (pgds_cons (pgd_name 2 sc__law_rowtext.nd) (pgds_cons (pgd_name 3 sc__law_rowtext.nd) pgds_nil))) (pds_cons (pd_set 4 sc__law_rowtext.nd (pd_call d__law_f (hr.mono (by decide)) tk (pda_cons (pd_callB (call_max2 rfl) rd_max z_max (by decide +kernel) (pda_cons (pd_ix (pd_var 3) pd_int) (pda_cons (pd_neg (pd_ix (pd_var 3) pd_int)) pda_nil))) (pda_cons (pd_ix (pd_var 3) pd_int) pda_nil)))) (pds_cons (pd_set 5 sc__law_rowtext.nd (pd_var 2)) (pds_cons (pd_if (pt_cmp' (op_neD hr.units) rd_ne (nomark _) (pd_var 4) (pd_tup (pda_cons pd_int (pda_cons pd_int pda_nil)))) (pds_one (pd_set 5 sc__law_rowtext.nd (pd_add (pd_add (pd_call d__law_word (hr.mono (by decide)) tk (pda_cons (pd_var 4) pda_nil)) pd_str) (pd_var 2)))) pds_nil) (pds_cons (pd_if (PW.pt (pw_andD (pt_cmp' (op_eqD hr.units) rd_eq (nomark _) (pd_lenO 1 z_len) pd_int) (pw_and1 (pt_cmp' (op_lt.or op_lt_str) rd_lt (nomark _) (pd_ix (pd_var 3) pd_int) pd_int)))) (pds_one (pd_set 5 sc__law_rowtext.nd (pd_add pd_str (pd_var 5)))) (pds_one (pd_if (pt_cmp' op_gt rd_gt (nomark _) (pd_lenO 1 z_len) pd_int) (pds_one (pd_append 1 (pd_ix pd_str (pd_callTy (callR_or call_int1 call_int_str) rd_int z_int (by decide +kernel) (pda_cons (pd_cmp (op_lt.or op_lt_str) rd_lt (nomark _) (pd_ix (pd_var 3) pd_int) pd_int) pda_nil))))) pds_nil))) (pds_one (pd_append 1 (pd_var 5)))))))) (pds_cons (pd_if (pt_cmp' (op_eqD hr.units) rd_eq (nomark _) (pd_lenO 1 z_len) pd_int) (pds_one (pd_setOwn 1 sc__law_rowtext.nd (pda_cons pd_str pda_nil))) pds_nil) (pds_one (pd_ret (pd_m1 mt_join rm_join PySem.F.slot_str_join PySem.F.type_str_join pd_str (pd_add (pd_var 1) (pd_lst (pda_cons (pd_ix (pd_var 0) pd_int) (pda_cons (pd_call d__law_word (hr.mono (by decide)) tk (pda_cons (pd_ix (pd_var 0) pd_int) pda_nil)) pda_nil))))))))))), hm, F.kp, F.binds fun _ _ _ _ _ _ us hl => match us, hl with | [_], _ => rfl⟩
theorem d__law_token (T : Txt w K mg) : DefOk P w K mg base "_law_token" 1 m__law_token := by
  obtain ⟨f, fd, F, hm⟩ := T.f__law_token
  have z_len := T.z_len
  exact ⟨f, fd, ["text", "at"], fnD F sc__law_token S__law_token m__law_token (fn2_len _) (fn2_body fun _ _ => rfl) (fun cdv A outer s H E B W hr tk hp => (pds_cons (pd_set 2 sc__law_token.nd pd_str) (pds_cons (pd_if (pt_cmp' (op_in3 (hu65 hr)) rd_in3 rfl (pd_ix (pd_var 0) (pd_var 1)) pd_str) (pds_cons (pd_set 3 sc__law_token.nd (pd_add (pd_var 1) pd_int)) (pds_cons (pd_while hp (PW.pt (pw_andD (pt_cmp' (op_lt.or op_lt_str) rd_lt (nomark _) (pd_var 3) (pd_callB call_len rd_len z_len (by decide +kernel) (pda_cons (pd_var 0) pda_nil))) (pw_andD (pt_cmp' (op_in3 (hu65 hr)) rd_in3 rfl (pd_ix (pd_var 0) (pd_var 3)) pd_str) (pw_andD (pt_cmp' (op_neD hr.units) rd_ne (nomark _) (pd_ix (pd_var 0) (pd_var 1)) pd_str) (pw_and1 (pt_cmp' (op_lt.or op_lt_str) rd_lt (nomark _) (pd_var 3) (pd_add (pd_var 1) pd_int))))))) (pds_one (pd_set 3 sc__law_token.nd (pd_add (pd_var 3) pd_int)))) (pds_cons (pd_if (PW.pt (pw_andD (pt_cmp' (op_lt.or op_lt_str) rd_lt (nomark _) (pd_add (pd_var 3) pd_int) (pd_callB call_len rd_len z_len (by decide +kernel) (pda_cons (pd_var 0) pda_nil))) (pw_andD (pt_cmp' (op_eqD hr.units) rd_eq (nomark _) (pd_ix (pd_var 0) (pd_var 3)) pd_str) (pw_and1 (pt_cmp' (op_in3 (hu65 hr)) rd_in3 rfl (pd_ix (pd_var 0) (pd_add (pd_var 3) pd_int)) pd_str))))) (pds_cons (pd_set 4 sc__law_token.nd (pd_add (pd_var 3) pd_int)) (pds_cons (pd_while hp (PW.pt (pw_andD (pt_cmp' (op_lt.or op_lt_str) rd_lt (nomark _) (pd_var 4) (pd_callB call_len rd_len z_len (by decide +kernel) (pda_cons (pd_var 0) pda_nil))) (pw_andD (pt_cmp' (op_in3 (hu65 hr)) rd_in3 rfl (pd_ix (pd_var 0) (pd_var 4)) pd_str) (pw_and1 (pt_cmp' (op_lt.or op_lt_str) rd_lt (nomark _) (pd_var 4) (pd_add (pd_var 3) pd_int)))))) (pds_one (pd_set 4 sc__law_token.nd (pd_add (pd_var 4) pd_int)))) (pds_one (pd_set 3 sc__law_token.nd (pd_var 4))))) pds_nil) (pds_one (pd_ret (pd_tup (pda_cons pd_str (pda_cons (pd_var 3) (pda_cons (pd_and (pd_cmp (op_lt.or op_lt_str) rd_lt (nomark _) (pd_var 3) (pd_callB call_len rd_len z_len (by decide +kernel) (pda_cons (pd_var 0) pda_nil))) (pe_one (pd_or (pd_cmp (op_in3 (hu65 hr)) rd_in3 rfl (pd_ix (pd_var 0) (pd_var 3)) pd_str) (pe_one (pd_cmp (op_eqD hr.units) rd_eq (nomark _) (pd_ix (pd_var 0) (pd_var 3)) pd_str))))) pda_nil))))))))) pds_nil) (pds_cons (pd_if (pt_cmp' (op_in3 (hu65 hr)) rd_in3 rfl (pd_ix (pd_var 0) (pd_var 1)) (pd_var 2)) (pds_cons (pd_set 3 sc__law_token.nd (pd_add (pd_var 1) pd_int)) (pds_cons (pd_while hp (PW.pt (pw_andD (pt_cmp' (op_lt.or op_lt_str) rd_lt (nomark _) (pd_var 3) (pd_callB call_len rd_len z_len (by decide +kernel) (pda_cons (pd_var 0) pda_nil))) (pw_andD (pt_cmp' (op_in3 (hu65 hr)) rd_in3 rfl (pd_ix (pd_var 0) (pd_var 3)) (pd_add (pd_var 2) pd_str)) (pw_and1 (pt_cmp' (op_lt.or op_lt_str) rd_lt (nomark _) (pd_var 3) (pd_add (pd_var 1) pd_int)))))) (pds_one (pd_set 3 sc__law_token.nd (pd_add (pd_var 3) pd_int)))) (pds_one (pd_ret (pd_tup (pda_cons pd_str (pda_cons (pd_var 3) (pda_cons (pd_and (pd_cmp (op_lt.or op_lt_str) rd_lt (nomark _) (pd_var 3) (pd_callB call_len rd_len z_len (by decide +kernel) (pda_cons (pd_var 0) pda_nil))) (pe_one (pd_cmp (op_in3 (hu65 hr)) rd_in3 rfl (pd_ix (pd_var 0) (pd_var 3)) (pd_add (pd_var 2) pd_str)))) pda_nil)))))))) pds_nil) (pds_cons (pd_if (pt_cmp' (op_in3 (hu65 hr)) rd_in3 rfl (pd_slice (pd_var 0) (pod_some (pd_var 1)) (pod_some (pd_add (pd_var 1) pd_int))) (pd_lst (pda_cons pd_str (pda_cons pd_str pda_nil)))) (pds_one (pd_ret (pd_tup (pda_cons pd_str (pda_cons (pd_add (pd_var 1) pd_int) (pda_cons pd_bl pda_nil)))))) pds_nil) (pds_cons (pd_if (pt_cmp' (op_in3 (hu65 hr)) rd_in3 rfl (pd_ix (pd_var 0) (pd_var 1)) pd_str) (pds_one (pd_ret (pd_tup (pda_cons pd_str (pda_cons (pd_add (pd_var 1) pd_int) (pda_cons pd_bl pda_nil)))))) pds_nil) (pds_cons (pd_if (pt_cmp' (op_in3 (hu65 hr)) rd_in3 rfl (pd_ix (pd_var 0) (pd_var 1)) pd_str) (pds_one (pd_ret (pd_tup (pda_cons (pd_ix (pd_var 0) (pd_var 1)) (pda_cons (pd_add (pd_var 1) pd_int) (pda_cons pd_bl pda_nil)))))) pds_nil) (pds_one (pd_ret (pd_tup (pda_cons pd_str (pda_cons (pd_var 1) (pda_cons pd_bl pda_nil))))))))))))), hm, F.kp, F.binds fun _ _ _ _ _ _ us hl => match us, hl with | [_, _], _ => rfl⟩
theorem d__law_fault (T : Txt w K mg) : DefOk P w K mg base "_law_fault" 2 m__law_fault := by
  obtain ⟨f, fd, F, hm⟩ := T.f__law_fault
  have d__law_token : DefOk P w K mg base "_law_token" 1 m__law_token := d__law_token T
  have z_len := T.z_len
  have z_range := T.z_range
  exact ⟨f, fd, ["text"], fnD F sc__law_fault S__law_fault m__law_fault (fn1_len _) (fn1_body fun _ => rfl) (fun cdv A outer s H E B W hr tk hp => (pds_cons (pd_set 1 sc__law_fault.nd pd_str) (pds_cons (pd_set 2 sc__law_fault.nd pd_int) (pds_cons (pd_set 3 sc__law_fault.nd pd_int) (pds_cons (pd_for hp rfl (pid_range1 z_range (pda_cons (pd_add (pd_callB call_len rd_len z_len (by decide +kernel) (pda_cons (pd_var 0) pda_nil)) pd_int) pda_nil)) (pgd_name 4 sc__law_fault.nd) (pds_cons (pd_while hp (PW.pt (pw_andD (pt_cmp' (op_lt.or op_lt_str) rd_lt (nomark _) (pd_var 3) (pd_callB call_len rd_len z_len (by decide +kernel) (pda_cons (pd_var 0) pda_nil))) (pw_and1 (pt_cmp' (op_eqD hr.units) rd_eq (nomark _) (pd_ix (pd_var 0) (pd_var 3)) pd_str)))) (pds_one (pd_set 3 sc__law_fault.nd (pd_add (pd_var 3) pd_int)))) (pds_one (pd_if (pt_cmp' (op_lt.or op_lt_str) rd_lt (nomark _) (pd_var 3) (pd_callB call_len rd_len z_len (by decide +kernel) (pda_cons (pd_var 0) pda_nil))) (pds_cons (pd_asg (pd_call d__law_token (hr.mono (by decide)) tk (pda_cons (pd_var 0) (pda_cons (pd_var 3) pda_nil))) (pgd_tup rfl (pgds_cons (pgd_name 6 sc__law_fault.nd) (pgds_cons (pgd_name 7 sc__law_fault.nd) (pgds_cons (pgd_name 8 sc__law_fault.nd) pgds_nil))))) (pds_cons (pd_if (pt_cmp' (op_eqD hr.units) rd_eq (nomark _) (pd_var 6) pd_str) (pds_one (pd_ret (pd_tup (pda_cons (pd_var 3) (pda_cons pd_str pda_nil))))) pds_nil) (pds_cons (pd_set 5 sc__law_fault.nd pd_non) (pds_cons (pd_if (PW.pt (pw_andD (pt_cmp' (op_in3 (hu65 hr)) rd_in3 rfl (pd_var 1) (pd_lst (pda_cons pd_str (pda_cons pd_str (pda_cons pd_str pda_nil))))) (pw_and1 (pt_cmp' (op_eqD hr.units) rd_eq (nomark _) (pd_var 6) pd_str)))) (pds_one (pd_set 5 sc__law_fault.nd pd_str)) pds_nil) (pds_cons (pd_if (PW.pt (pw_andD (pt_cmp' (op_in3 (hu65 hr)) rd_in3 rfl (pd_var 1) (pd_lst (pda_cons pd_str (pda_cons pd_str pda_nil)))) (pw_and1 (pt_cmp' (op_eqD hr.units) rd_eq (nomark _) (pd_var 6) pd_str)))) (pds_one (pd_set 5 sc__law_fault.nd pd_str)) pds_nil) (pds_cons (pd_if (PW.pt (pw_andD (pt_cmp' (op_eqD hr.units) rd_eq (nomark _) (pd_var 1) pd_str) (pw_and1 (pt_cmp' (op_eqD hr.units) rd_eq (nomark _) (pd_var 6) pd_str)))) (pds_one (pd_set 5 sc__law_fault.nd pd_str)) pds_nil) (pds_cons (pd_if (PW.pt (pw_andD (pt_cmp' (op_in3 (hu65 hr)) rd_in3 rfl (pd_var 1) (pd_lst (pda_cons pd_str (pda_cons pd_str pda_nil)))) (pw_and1 (pt_cmp' (op_in3 (hu65 hr)) rd_in3 rfl (pd_var 6) (pd_lst (pda_cons pd_str (pda_cons pd_str pda_nil))))))) (pds_one (pd_set 5 sc__law_fault.nd pd_str)) pds_nil) (pds_cons (pd_if (PW.pt (pw_andD (pt_cmp' (op_in3 (hu65 hr)) rd_in3 rfl (pd_var 1) (pd_lst (pda_cons pd_str (pda_cons pd_str pda_nil)))) (pw_andD (pt_cmp' (op_eqD hr.units) rd_eq (nomark _) (pd_var 6) pd_str) (pw_and1 (pt_cmp' (op_eqD hr.units) rd_eq (nomark _) (pd_var 2) pd_int))))) (pds_cons (pd_set 5 sc__law_fault.nd pd_str) (pds_one (pd_set 2 sc__law_fault.nd pd_int))) pds_nil) (pds_cons (pd_if (pt_cmp' op_isN rd_isN (nomark _) (pd_var 5) pd_non) (pds_one (pd_ret (pd_tup (pda_cons (pd_var 3) (pda_cons pd_str pda_nil))))) pds_nil) (pds_cons (pd_if (pd_tru (pd_var 8)) (pds_one (pd_ret (pd_tup (pda_cons (pd_var 7) (pda_cons pd_str pda_nil))))) pds_nil) (pds_cons (pd_set 1 sc__law_fault.nd (pd_var 5)) (pds_one (pd_set 3 sc__law_fault.nd (pd_var 7)))))))))))))) pds_nil)))) (pds_cons (pd_if (PW.pt (pw_orD (pt_cmp' (op_eqD hr.units) rd_eq (nomark _) (pd_var 2) pd_int) (pw_or1 (pt_cmp' (op_in3 (hu65 hr)) rd_in3 rfl (pd_var 1) (pd_lst (pda_cons pd_str (pda_cons pd_str pda_nil))))))) (pds_one (pd_ret (pd_tup (pda_cons (pd_callB call_len rd_len z_len (by decide +kernel) (pda_cons (pd_var 0) pda_nil)) (pda_cons pd_str pda_nil))))) pds_nil) (pds_one (pd_ret pd_non)))))))), hm, F.kp, F.binds fun _ _ _ _ _ _ us hl => match us, hl with | [_], _ => rfl⟩
theorem d__law_told (T : Txt w K mg) : DefOk P w K mg base "_law_told" 8 m__law_told := by
  obtain ⟨f, fd, F, hm⟩ := T.f__law_told
  have d_read_row : DefOk P w K mg base "read_row" 7 m_read_row := d_read_row T
  obtain ⟨C_TextError, fI_TextError, fd_TextError, x_TextError⟩ := T.x_TextError
  have dI_TextError := di_TextError (P := P) (w := w) (base := base) x_TextError
  have xb_TextError : Binds K fd_TextError ["self", "place", "what"] [] := x_TextError.fn.binds fun _ _ _ _ _ _ us hl => match us, hl with | [_, _, _], _ => rfl
  exact ⟨f, fd, ["text"], fnD F sc__law_told S__law_told m__law_told (fn1_len _) (fn1_body fun _ => rfl) (fun cdv A outer s H E B W hr tk hp => (pds_cons (pd_tryX rfl rfl sc__law_told.nd rfl rfl ⟨rfl, by decide, .inl x_TextError.gP⟩ tk (ct1_okI x_TextError) (fun W2 pn xe tk2 hp2 => (pds_one (pd_expr (pd_call d_read_row (hr.mono (by decide)) tk2 (pda_cons (pd_var 0) pda_nil))))) (fun e_ a oe cls d pn B hz hfl ho => (pds_one (pd_ret (pd_tup (pda_cons (pd_fld x_TextError (by simp) ct1_is hz hfl ho) (pda_cons (pd_fld x_TextError (by simp) ct1_is hz hfl ho) pda_nil))))))) (pds_one (pd_ret pd_non)))), hm, F.kp, F.binds fun _ _ _ _ _ _ us hl => match us, hl with | [_], _ => rfl⟩
theorem d_law (T : Txt w K mg) : DefOk P w K mg base "law" 9 m_law := by
  obtain ⟨f, fd, F, hm⟩ := T.f_law
  have d__law_system : DefOk P w K mg base "_law_system" 7 m__law_system := d__law_system T
  have d__law_rowtext : DefOk P w K mg base "_law_rowtext" 2 m__law_rowtext := d__law_rowtext T
  have d__law_draw : DefOk P w K mg base "_law_draw" 2 m__law_draw := d__law_draw T
  have d__law_told : DefOk P w K mg base "_law_told" 8 m__law_told := d__law_told T
  have d__law_fault : DefOk P w K mg base "_law_fault" 2 m__law_fault := d__law_fault T
  have z_len := T.z_len
  have z_max := T.z_max
  have z_min := T.z_min
  have z_range := T.z_range
  exact ⟨f, fd, ["script"], fnD F sc_law S_law m_law (fn1_len _) (fn1_body fun _ => rfl) (fun cdv A outer s H E B W hr tk hp => (pds_cons (pd_for hp rfl (pid_range1 z_range (pda_cons (pd_callB (call_min2 rfl) rd_min z_min (by decide +kernel) (pda_cons pd_int (pda_cons (pd_callB (call_max2 rfl) rd_max z_max (by decide +kernel) (pda_cons pd_int (pda_cons (pd_div (pd_callB call_len rd_len z_len (by decide +kernel) (pda_cons (pd_var 0) pda_nil)) pd_int) pda_nil))) pda_nil))) pda_nil)) (pgd_name 1 sc_law.nd) (pds_cons (pd_set 2 sc_law.nd (pd_call d__law_rowtext (hr.mono (by decide)) tk (pda_cons (pd_ix (pd_call d__law_system (hr.mono (by decide)) tk (pda_cons (pd_var 0) (pda_cons (pd_mul pd_int (pd_var 1)) (pda_cons pd_int pda_nil)))) pd_int) pda_nil))) (pds_cons (pd_set 3 sc_law.nd (pd_call d__law_draw (hr.mono (by decide)) tk (pda_cons (pd_var 0) (pda_cons (pd_add (pd_mul pd_int (pd_var 1)) pd_int) (pda_cons (pd_add (pd_add (pd_add (pd_lst (pda_cons pd_int pda_nil)) (pd_rep (pda_cons pd_int (pda_cons pd_int (pda_cons pd_int pda_nil))) pd_int)) (pd_lst (pda_cons pd_int pda_nil))) (pd_rep (pda_cons pd_int pda_nil) pd_int)) pda_nil))))) (pds_cons (pd_for hp rfl (pid_range1 z_range (pda_cons (pd_mod (pd_ix (pd_var 3) pd_int) pd_int) pda_nil)) (pgd_name 4 sc_law.nd) (pds_cons (pd_set 5 sc_law.nd (pd_slice (pd_var 3) (pod_some (pd_add pd_int (pd_mul pd_int (pd_var 4)))) (pod_some (pd_add pd_int (pd_mul pd_int (pd_var 4)))))) (pds_cons (pd_set 6 sc_law.nd (pd_mod (pd_ix (pd_var 5) pd_int) (pd_add (pd_callB call_len rd_len z_len (by decide +kernel) (pda_cons (pd_var 2) pda_nil)) pd_int))) (pds_cons (pd_set 7 sc_law.nd (pd_ix (pd_lst (pda_cons pd_str (pda_cons pd_str (pda_cons pd_str (pda_cons pd_str (pda_cons pd_str (pda_cons pd_str (pda_cons pd_str (pda_cons pd_str (pda_cons pd_str (pda_cons pd_str (pda_cons pd_str (pda_cons pd_str (pda_cons pd_str (pda_cons pd_str (pda_cons pd_str (pda_cons pd_str (pda_cons pd_str (pda_cons pd_str (pda_cons pd_str (pda_cons pd_str (pda_cons pd_str (pda_cons pd_str pda_nil))))))))))))))))))))))) (pd_ix (pd_var 5) pd_int))) (pds_one (pd_set 2 sc_law.nd (pd_add (pd_add (pd_slice (pd_var 2) pod_none (pod_some (pd_var 6))) (pd_var 7)) (pd_slice (pd_var 2) (pod_some (pd_add (pd_var 6) (pd_mod (pd_ix (pd_var 5) pd_int) pd_int))) pod_none)))))))) (pds_cons (pd_if (pt_cmp' (op_eqD hr.units) rd_eq (nomark _) (pd_ix (pd_var 3) pd_int) pd_int) (pds_cons (pd_setOwn 8 sc_law.nd (pda_cons pd_str (pda_cons pd_str (pda_cons pd_str (pda_cons pd_str (pda_cons pd_str (pda_cons pd_str (pda_cons pd_str (pda_cons pd_str (pda_cons pd_str (pda_cons pd_str (pda_cons pd_str (pda_cons pd_str (pda_cons pd_str (pda_cons pd_str pda_nil))))))))))))))) (pds_one (pd_set 2 sc_law.nd (pd_m1 mt_join rm_join PySem.F.slot_str_join PySem.F.type_str_join pd_str (pd_lc (own := [("digit", 9)]) rfl sc_law.nd (pid_seq (pd_slice (pd_var 3) (pod_some pd_int) (pod_some (pd_add pd_int (pd_ix (pd_var 3) pd_int))))) (blkOk_by (N := ["script", "k", "text", "digits", "j", "part", "place", "sign", "words", "digit"]) (sc := defScope s_law) (by decide +kernel)) (fun _ _ _ _ _ => (pgw_name 9 sc_law.nd)) (fun _ _ _ _ _ => pts_nilD) (fun _ _ _ _ _ B => (pd_ix (pd_var 8) (pd_var 9)))))))) pds_nil) (pds_one (pd_if (pt_cmp' (op_neD hr.units) rd_ne (nomark _) (pd_call d__law_told (hr.mono (by decide)) tk (pda_cons (pd_var 2) pda_nil)) (pd_call d__law_fault (hr.mono (by decide)) tk (pda_cons (pd_var 2) pda_nil))) (pds_one (pd_ret pd_bl)) pds_nil))))))) (pds_one (pd_ret pd_bl)))), hm, F.kp, F.binds fun _ _ _ _ _ _ us hl => match us, hl with | [_], _ => rfl⟩
theorem l_law (T : Txt w K mg) : ∃ f fd, mg "law" = some (.ref f) ∧ (∀ (s : Shared) (v : Value), BindsTo s fd ⟨[v], []⟩ [("script", v)]) ∧ ∀ base : Heap, FnOk P w K mg base (L2.CX P w) 9 f fd ["script"] (spD ⟨K, mg, w⟩ m_law) := by
  obtain ⟨f, fd, F, hm⟩ := T.f_law
  refine ⟨f, fd, hm, ?_, fun base => ?_⟩
  · obtain ⟨oc, od, kV, doc, pm, an, cdv, ct, osl, rfl, lk, hcd⟩ := F.ex
    exact fun s v => .of_eq rfl
  have d__law_system : DefOk P w K mg base "_law_system" 7 m__law_system := d__law_system T
  have d__law_rowtext : DefOk P w K mg base "_law_rowtext" 2 m__law_rowtext := d__law_rowtext T
  have d__law_draw : DefOk P w K mg base "_law_draw" 2 m__law_draw := d__law_draw T
  have d__law_told : DefOk P w K mg base "_law_told" 8 m__law_told := d__law_told T
  have d__law_fault : DefOk P w K mg base "_law_fault" 2 m__law_fault := d__law_fault T
  have z_len := T.z_len
  have z_max := T.z_max
  have z_min := T.z_min
  have z_range := T.z_range
  exact fnD F sc_law S_law m_law (fn1_len _) (fn1_body fun _ => rfl) (fun cdv A outer s H E B W hr tk hp => (pds_cons (pd_for hp rfl (pid_range1 z_range (pda_cons (pd_callB (call_min2 rfl) rd_min z_min (by decide +kernel) (pda_cons pd_int (pda_cons (pd_callB (call_max2 rfl) rd_max z_max (by decide +kernel) (pda_cons pd_int (pda_cons (pd_div (pd_callB call_len rd_len z_len (by decide +kernel) (pda_cons (pd_var 0) pda_nil)) pd_int) pda_nil))) pda_nil))) pda_nil)) (pgd_name 1 sc_law.nd) (pds_cons (pd_set 2 sc_law.nd (pd_call d__law_rowtext (hr.mono (by decide)) tk (pda_cons (pd_ix (pd_call d__law_system (hr.mono (by decide)) tk (pda_cons (pd_var 0) (pda_cons (pd_mul pd_int (pd_var 1)) (pda_cons pd_int pda_nil)))) pd_int) pda_nil))) (pds_cons (pd_set 3 sc_law.nd (pd_call d__law_draw (hr.mono (by decide)) tk (pda_cons (pd_var 0) (pda_cons (pd_add (pd_mul pd_int (pd_var 1)) pd_int) (pda_cons (pd_add (pd_add (pd_add (pd_lst (pda_cons pd_int pda_nil)) (pd_rep (pda_cons pd_int (pda_cons pd_int (pda_cons pd_int pda_nil))) pd_int)) (pd_lst (pda_cons pd_int pda_nil))) (pd_rep (pda_cons pd_int pda_nil) pd_int)) pda_nil))))) (pds_cons (pd_for hp rfl (pid_range1 z_range (pda_cons (pd_mod (pd_ix (pd_var 3) pd_int) pd_int) pda_nil)) (pgd_name 4 sc_law.nd) (pds_cons (pd_set 5 sc_law.nd (pd_slice (pd_var 3) (pod_some (pd_add pd_int (pd_mul pd_int (pd_var 4)))) (pod_some (pd_add pd_int (pd_mul pd_int (pd_var 4)))))) (pds_cons (pd_set 6 sc_law.nd (pd_mod (pd_ix (pd_var 5) pd_int) (pd_add (pd_callB call_len rd_len z_len (by decide +kernel) (pda_cons (pd_var 2) pda_nil)) pd_int))) (pds_cons (pd_set 7 sc_law.nd (pd_ix (pd_lst (pda_cons pd_str (pda_cons pd_str (pda_cons pd_str (pda_cons pd_str (pda_cons pd_str (pda_cons pd_str (pda_cons pd_str (pda_cons pd_str (pda_cons pd_str (pda_cons pd_str (pda_cons pd_str (pda_cons pd_str (pda_cons pd_str (pda_cons pd_str (pda_cons pd_str (pda_cons pd_str (pda_cons pd_str (pda_cons pd_str (pda_cons pd_str (pda_cons pd_str (pda_cons pd_str (pda_cons pd_str pda_nil))))))))))))))))))))))) (pd_ix (pd_var 5) pd_int))) (pds_one (pd_set 2 sc_law.nd (pd_add (pd_add (pd_slice (pd_var 2) pod_none (pod_some (pd_var 6))) (pd_var 7)) (pd_slice (pd_var 2) (pod_some (pd_add (pd_var 6) (pd_mod (pd_ix (pd_var 5) pd_int) pd_int))) pod_none)))))))) (pds_cons (pd_if (pt_cmp' (op_eqD hr.units) rd_eq (nomark _) (pd_ix (pd_var 3) pd_int) pd_int) (pds_cons (pd_setOwn 8 sc_law.nd (pda_cons pd_str (pda_cons pd_str (pda_cons pd_str (pda_cons pd_str (pda_cons pd_str (pda_cons pd_str (pda_cons pd_str (pda_cons pd_str (pda_cons pd_str (pda_cons pd_str (pda_cons pd_str (pda_cons pd_str (pda_cons pd_str (pda_cons pd_str pda_nil))))))))))))))) (pds_one (pd_set 2 sc_law.nd (pd_m1 mt_join rm_join PySem.F.slot_str_join PySem.F.type_str_join pd_str (pd_lc (own := [("digit", 9)]) rfl sc_law.nd (pid_seq (pd_slice (pd_var 3) (pod_some pd_int) (pod_some (pd_add pd_int (pd_ix (pd_var 3) pd_int))))) (blkOk_by (N := ["script", "k", "text", "digits", "j", "part", "place", "sign", "words", "digit"]) (sc := defScope s_law) (by decide +kernel)) (fun _ _ _ _ _ => (pgw_name 9 sc_law.nd)) (fun _ _ _ _ _ => pts_nilD) (fun _ _ _ _ _ B => (pd_ix (pd_var 8) (pd_var 9)))))))) pds_nil) (pds_one (pd_if (pt_cmp' (op_neD hr.units) rd_ne (nomark _) (pd_call d__law_told (hr.mono (by decide)) tk (pda_cons (pd_var 2) pda_nil)) (pd_call d__law_fault (hr.mono (by decide)) tk (pda_cons (pd_var 2) pda_nil))) (pds_one (pd_ret pd_bl)) pds_nil))))))) (pds_one (pd_ret pd_bl))))
def spLaw (K : PySem.W.Frag) : Sp := fun vs H Q _ => ∃ (a : Addr) (ns : List Int), vs = [.ref a] ∧ SqL K H a (ns.map V.int) ∧ ns.length ≤ 63 ∧ ∀ H', Q (.bl true) H'
theorem o_law (T : Txt w K mg) (hl : ∀ ns : List Int, ns.length ≤ 63 → B_law (.list (ns.map PyData.int)) = .ok (.bool true)) {fa : Addr} (hfa : mg "law" = some (.ref fa)) :
    ∃ fd : FuncData, (∀ (s : Shared) (v : Value), BindsTo s fd ⟨[v], []⟩ [("script", v)]) ∧ ∀ base : Heap, FnOk P w K mg base (L2.CX P w) 9 fa fd ["script"] (spLaw K) := by
  obtain ⟨f, fd, hm, hb, F⟩ := l_law (P := P) (w := w) T
  have e := hfa.symm.trans hm
  cases e
  refine ⟨fd, hb, fun base => (F base).imp fun vs H Q E h => ?_⟩
  obtain ⟨a, ns, rfl, hS, hn, q⟩ := h
  refine ⟨H, [.list (ns.map PyData.int)], Same.refl _, .cons (.lst hS (DqAll.ints ns)) .nil, ?_⟩
  have e : m_law [.list (ns.map PyData.int)] = .ok (.bool true) := hl ns hn
  rw [e]
  intro v G' H' _ dp
  cases dp
  exact q H'
end
theorem txt_mk {w : World} {K : PySem.W.Frag} {h : Heap} {mg : Str → Option Value} (X : K.In h) (G : h.Ns mainGlobals mg)
    {p_number : Addr} {od_number an_number : Option Addr} {sl_number : Array (Option Value)} {oc_number kV_number dc_number pm_number cd_number ct_number : Value}
    (a_number : PySem.W.nsIn K mainGlobals "number" = some (some (.ref p_number))) (l_number : K.lookup p_number = some ⟨oc_number, od_number, .func (PySem.W.fnOf "number" "number" (defArgs s_number) (defBody s_number) (defScope s_number) .none kV_number dc_number pm_number an_number cd_number ct_number), sl_number⟩) (c_number : PySem.W.codeIn K cd_number "number" = true) (k_number : PySem.W.keepIn K (.ref p_number) = true)
    {p_plus : Addr} {od_plus an_plus : Option Addr} {sl_plus : Array (Option Value)} {oc_plus kV_plus dc_plus pm_plus cd_plus ct_plus : Value}
    (a_plus : PySem.W.nsIn K mainGlobals "plus" = some (some (.ref p_plus))) (l_plus : K.lookup p_plus = some ⟨oc_plus, od_plus, .func (PySem.W.fnOf "plus" "plus" (defArgs s_plus) (defBody s_plus) (defScope s_plus) .none kV_plus dc_plus pm_plus an_plus cd_plus ct_plus), sl_plus⟩) (c_plus : PySem.W.codeIn K cd_plus "plus" = true) (k_plus : PySem.W.keepIn K (.ref p_plus) = true)
    {p_minus : Addr} {od_minus an_minus : Option Addr} {sl_minus : Array (Option Value)} {oc_minus kV_minus dc_minus pm_minus cd_minus ct_minus : Value}
    (a_minus : PySem.W.nsIn K mainGlobals "minus" = some (some (.ref p_minus))) (l_minus : K.lookup p_minus = some ⟨oc_minus, od_minus, .func (PySem.W.fnOf "minus" "minus" (defArgs s_minus) (defBody s_minus) (defScope s_minus) .none kV_minus dc_minus pm_minus an_minus cd_minus ct_minus), sl_minus⟩) (c_minus : PySem.W.codeIn K cd_minus "minus" = true) (k_minus : PySem.W.keepIn K (.ref p_minus) = true)
    {p_times : Addr} {od_times an_times : Option Addr} {sl_times : Array (Option Value)} {oc_times kV_times dc_times pm_times cd_times ct_times : Value}
    (a_times : PySem.W.nsIn K mainGlobals "times" = some (some (.ref p_times))) (l_times : K.lookup p_times = some ⟨oc_times, od_times, .func (PySem.W.fnOf "times" "times" (defArgs s_times) (defBody s_times) (defScope s_times) .none kV_times dc_times pm_times an_times cd_times ct_times), sl_times⟩) (c_times : PySem.W.codeIn K cd_times "times" = true) (k_times : PySem.W.keepIn K (.ref p_times) = true)
    {p_compare : Addr} {od_compare an_compare : Option Addr} {sl_compare : Array (Option Value)} {oc_compare kV_compare dc_compare pm_compare cd_compare ct_compare : Value}
    (a_compare : PySem.W.nsIn K mainGlobals "compare" = some (some (.ref p_compare))) (l_compare : K.lookup p_compare = some ⟨oc_compare, od_compare, .func (PySem.W.fnOf "compare" "compare" (defArgs s_compare) (defBody s_compare) (defScope s_compare) .none kV_compare dc_compare pm_compare an_compare cd_compare ct_compare), sl_compare⟩) (c_compare : PySem.W.codeIn K cd_compare "compare" = true) (k_compare : PySem.W.keepIn K (.ref p_compare) = true)
    {p_whole_factor : Addr} {od_whole_factor an_whole_factor : Option Addr} {sl_whole_factor : Array (Option Value)} {oc_whole_factor kV_whole_factor dc_whole_factor pm_whole_factor cd_whole_factor ct_whole_factor : Value}
    (a_whole_factor : PySem.W.nsIn K mainGlobals "whole_factor" = some (some (.ref p_whole_factor))) (l_whole_factor : K.lookup p_whole_factor = some ⟨oc_whole_factor, od_whole_factor, .func (PySem.W.fnOf "whole_factor" "whole_factor" (defArgs s_whole_factor) (defBody s_whole_factor) (defScope s_whole_factor) .none kV_whole_factor dc_whole_factor pm_whole_factor an_whole_factor cd_whole_factor ct_whole_factor), sl_whole_factor⟩) (c_whole_factor : PySem.W.codeIn K cd_whole_factor "whole_factor" = true) (k_whole_factor : PySem.W.keepIn K (.ref p_whole_factor) = true)
    {p_added_up : Addr} {od_added_up an_added_up : Option Addr} {sl_added_up : Array (Option Value)} {oc_added_up kV_added_up dc_added_up pm_added_up cd_added_up ct_added_up : Value}
    (a_added_up : PySem.W.nsIn K mainGlobals "added_up" = some (some (.ref p_added_up))) (l_added_up : K.lookup p_added_up = some ⟨oc_added_up, od_added_up, .func (PySem.W.fnOf "added_up" "added_up" (defArgs s_added_up) (defBody s_added_up) (defScope s_added_up) .none kV_added_up dc_added_up pm_added_up an_added_up cd_added_up ct_added_up), sl_added_up⟩) (c_added_up : PySem.W.codeIn K cd_added_up "added_up" = true) (k_added_up : PySem.W.keepIn K (.ref p_added_up) = true)
    {p_multiplied : Addr} {od_multiplied an_multiplied : Option Addr} {sl_multiplied : Array (Option Value)} {oc_multiplied kV_multiplied dc_multiplied pm_multiplied cd_multiplied ct_multiplied : Value}
    (a_multiplied : PySem.W.nsIn K mainGlobals "multiplied" = some (some (.ref p_multiplied))) (l_multiplied : K.lookup p_multiplied = some ⟨oc_multiplied, od_multiplied, .func (PySem.W.fnOf "multiplied" "multiplied" (defArgs s_multiplied) (defBody s_multiplied) (defScope s_multiplied) .none kV_multiplied dc_multiplied pm_multiplied an_multiplied cd_multiplied ct_multiplied), sl_multiplied⟩) (c_multiplied : PySem.W.codeIn K cd_multiplied "multiplied" = true) (k_multiplied : PySem.W.keepIn K (.ref p_multiplied) = true)
    {p_normal_factor : Addr} {od_normal_factor an_normal_factor : Option Addr} {sl_normal_factor : Array (Option Value)} {oc_normal_factor kV_normal_factor dc_normal_factor pm_normal_factor cd_normal_factor ct_normal_factor : Value}
    (a_normal_factor : PySem.W.nsIn K mainGlobals "normal_factor" = some (some (.ref p_normal_factor))) (l_normal_factor : K.lookup p_normal_factor = some ⟨oc_normal_factor, od_normal_factor, .func (PySem.W.fnOf "normal_factor" "normal_factor" (defArgs s_normal_factor) (defBody s_normal_factor) (defScope s_normal_factor) .none kV_normal_factor dc_normal_factor pm_normal_factor an_normal_factor cd_normal_factor ct_normal_factor), sl_normal_factor⟩) (c_normal_factor : PySem.W.codeIn K cd_normal_factor "normal_factor" = true) (k_normal_factor : PySem.W.keepIn K (.ref p_normal_factor) = true)
    {p_normal : Addr} {od_normal an_normal : Option Addr} {sl_normal : Array (Option Value)} {oc_normal kV_normal dc_normal pm_normal cd_normal ct_normal : Value}
    (a_normal : PySem.W.nsIn K mainGlobals "normal" = some (some (.ref p_normal))) (l_normal : K.lookup p_normal = some ⟨oc_normal, od_normal, .func (PySem.W.fnOf "normal" "normal" (defArgs s_normal) (defBody s_normal) (defScope s_normal) .none kV_normal dc_normal pm_normal an_normal cd_normal ct_normal), sl_normal⟩) (c_normal : PySem.W.codeIn K cd_normal "normal" = true) (k_normal : PySem.W.keepIn K (.ref p_normal) = true)
    {p_row : Addr} {od_row an_row : Option Addr} {sl_row : Array (Option Value)} {oc_row kV_row dc_row pm_row cd_row ct_row : Value}
    (a_row : PySem.W.nsIn K mainGlobals "row" = some (some (.ref p_row))) (l_row : K.lookup p_row = some ⟨oc_row, od_row, .func (PySem.W.fnOf "row" "row" (defArgs s_row) (defBody s_row) (defScope s_row) .none kV_row dc_row pm_row an_row cd_row ct_row), sl_row⟩) (c_row : PySem.W.codeIn K cd_row "row" = true) (k_row : PySem.W.keepIn K (.ref p_row) = true)
    {p__run_end : Addr} {od__run_end an__run_end : Option Addr} {sl__run_end : Array (Option Value)} {oc__run_end kV__run_end dc__run_end pm__run_end cd__run_end ct__run_end : Value}
    (a__run_end : PySem.W.nsIn K mainGlobals "_run_end" = some (some (.ref p__run_end))) (l__run_end : K.lookup p__run_end = some ⟨oc__run_end, od__run_end, .func (PySem.W.fnOf "_run_end" "_run_end" (defArgs s__run_end) (defBody s__run_end) (defScope s__run_end) .none kV__run_end dc__run_end pm__run_end an__run_end cd__run_end ct__run_end), sl__run_end⟩) (c__run_end : PySem.W.codeIn K cd__run_end "_run_end" = true) (k__run_end : PySem.W.keepIn K (.ref p__run_end) = true)
    {p__digits_end : Addr} {od__digits_end an__digits_end : Option Addr} {sl__digits_end : Array (Option Value)} {oc__digits_end kV__digits_end dc__digits_end pm__digits_end cd__digits_end ct__digits_end : Value}
    (a__digits_end : PySem.W.nsIn K mainGlobals "_digits_end" = some (some (.ref p__digits_end))) (l__digits_end : K.lookup p__digits_end = some ⟨oc__digits_end, od__digits_end, .func (PySem.W.fnOf "_digits_end" "_digits_end" (defArgs s__digits_end) (defBody s__digits_end) (defScope s__digits_end) .none kV__digits_end dc__digits_end pm__digits_end an__digits_end cd__digits_end ct__digits_end), sl__digits_end⟩) (c__digits_end : PySem.W.codeIn K cd__digits_end "_digits_end" = true) (k__digits_end : PySem.W.keepIn K (.ref p__digits_end) = true)
    {p__number_end : Addr} {od__number_end an__number_end : Option Addr} {sl__number_end : Array (Option Value)} {oc__number_end kV__number_end dc__number_end pm__number_end cd__number_end ct__number_end : Value}
    (a__number_end : PySem.W.nsIn K mainGlobals "_number_end" = some (some (.ref p__number_end))) (l__number_end : K.lookup p__number_end = some ⟨oc__number_end, od__number_end, .func (PySem.W.fnOf "_number_end" "_number_end" (defArgs s__number_end) (defBody s__number_end) (defScope s__number_end) .none kV__number_end dc__number_end pm__number_end an__number_end cd__number_end ct__number_end), sl__number_end⟩) (c__number_end : PySem.W.codeIn K cd__number_end "_number_end" = true) (k__number_end : PySem.W.keepIn K (.ref p__number_end) = true)
    {p__token_end : Addr} {od__token_end an__token_end : Option Addr} {sl__token_end : Array (Option Value)} {oc__token_end kV__token_end dc__token_end pm__token_end cd__token_end ct__token_end : Value}
    (a__token_end : PySem.W.nsIn K mainGlobals "_token_end" = some (some (.ref p__token_end))) (l__token_end : K.lookup p__token_end = some ⟨oc__token_end, od__token_end, .func (PySem.W.fnOf "_token_end" "_token_end" (defArgs s__token_end) (defBody s__token_end) (defScope s__token_end) .none kV__token_end dc__token_end pm__token_end an__token_end cd__token_end ct__token_end), sl__token_end⟩) (c__token_end : PySem.W.codeIn K cd__token_end "_token_end" = true) (k__token_end : PySem.W.keepIn K (.ref p__token_end) = true)
    {p__is_cut_off : Addr} {od__is_cut_off an__is_cut_off : Option Addr} {sl__is_cut_off : Array (Option Value)} {oc__is_cut_off kV__is_cut_off dc__is_cut_off pm__is_cut_off cd__is_cut_off ct__is_cut_off : Value}
    (a__is_cut_off : PySem.W.nsIn K mainGlobals "_is_cut_off" = some (some (.ref p__is_cut_off))) (l__is_cut_off : K.lookup p__is_cut_off = some ⟨oc__is_cut_off, od__is_cut_off, .func (PySem.W.fnOf "_is_cut_off" "_is_cut_off" (defArgs s__is_cut_off) (defBody s__is_cut_off) (defScope s__is_cut_off) .none kV__is_cut_off dc__is_cut_off pm__is_cut_off an__is_cut_off cd__is_cut_off ct__is_cut_off), sl__is_cut_off⟩) (c__is_cut_off : PySem.W.codeIn K cd__is_cut_off "_is_cut_off" = true) (k__is_cut_off : PySem.W.keepIn K (.ref p__is_cut_off) = true)
    {p__tokens : Addr} {od__tokens an__tokens : Option Addr} {sl__tokens : Array (Option Value)} {oc__tokens kV__tokens dc__tokens pm__tokens cd__tokens ct__tokens : Value}
    (a__tokens : PySem.W.nsIn K mainGlobals "_tokens" = some (some (.ref p__tokens))) (l__tokens : K.lookup p__tokens = some ⟨oc__tokens, od__tokens, .func (PySem.W.fnOf "_tokens" "_tokens" (defArgs s__tokens) (defBody s__tokens) (defScope s__tokens) .none kV__tokens dc__tokens pm__tokens an__tokens cd__tokens ct__tokens), sl__tokens⟩) (c__tokens : PySem.W.codeIn K cd__tokens "_tokens" = true) (k__tokens : PySem.W.keepIn K (.ref p__tokens) = true)
    {p__kind : Addr} {od__kind an__kind : Option Addr} {sl__kind : Array (Option Value)} {oc__kind kV__kind dc__kind pm__kind cd__kind ct__kind : Value}
    (a__kind : PySem.W.nsIn K mainGlobals "_kind" = some (some (.ref p__kind))) (l__kind : K.lookup p__kind = some ⟨oc__kind, od__kind, .func (PySem.W.fnOf "_kind" "_kind" (defArgs s__kind) (defBody s__kind) (defScope s__kind) .none kV__kind dc__kind pm__kind an__kind cd__kind ct__kind), sl__kind⟩) (c__kind : PySem.W.codeIn K cd__kind "_kind" = true) (k__kind : PySem.W.keepIn K (.ref p__kind) = true)
    {p__check : Addr} {od__check an__check : Option Addr} {sl__check : Array (Option Value)} {oc__check kV__check dc__check pm__check cd__check ct__check : Value}
    (a__check : PySem.W.nsIn K mainGlobals "_check" = some (some (.ref p__check))) (l__check : K.lookup p__check = some ⟨oc__check, od__check, .func (PySem.W.fnOf "_check" "_check" (defArgs s__check) (defBody s__check) (defScope s__check) .none kV__check dc__check pm__check an__check cd__check ct__check), sl__check⟩) (c__check : PySem.W.codeIn K cd__check "_check" = true) (k__check : PySem.W.keepIn K (.ref p__check) = true)
    {p__number_of : Addr} {od__number_of an__number_of : Option Addr} {sl__number_of : Array (Option Value)} {oc__number_of kV__number_of dc__number_of pm__number_of cd__number_of ct__number_of : Value}
    (a__number_of : PySem.W.nsIn K mainGlobals "_number_of" = some (some (.ref p__number_of))) (l__number_of : K.lookup p__number_of = some ⟨oc__number_of, od__number_of, .func (PySem.W.fnOf "_number_of" "_number_of" (defArgs s__number_of) (defBody s__number_of) (defScope s__number_of) .none kV__number_of dc__number_of pm__number_of an__number_of cd__number_of ct__number_of), sl__number_of⟩) (c__number_of : PySem.W.codeIn K cd__number_of "_number_of" = true) (k__number_of : PySem.W.keepIn K (.ref p__number_of) = true)
    {p__row_of : Addr} {od__row_of an__row_of : Option Addr} {sl__row_of : Array (Option Value)} {oc__row_of kV__row_of dc__row_of pm__row_of cd__row_of ct__row_of : Value}
    (a__row_of : PySem.W.nsIn K mainGlobals "_row_of" = some (some (.ref p__row_of))) (l__row_of : K.lookup p__row_of = some ⟨oc__row_of, od__row_of, .func (PySem.W.fnOf "_row_of" "_row_of" (defArgs s__row_of) (defBody s__row_of) (defScope s__row_of) .none kV__row_of dc__row_of pm__row_of an__row_of cd__row_of ct__row_of), sl__row_of⟩) (c__row_of : PySem.W.codeIn K cd__row_of "_row_of" = true) (k__row_of : PySem.W.keepIn K (.ref p__row_of) = true)
    {p_read_row : Addr} {od_read_row an_read_row : Option Addr} {sl_read_row : Array (Option Value)} {oc_read_row kV_read_row dc_read_row pm_read_row cd_read_row ct_read_row : Value}
    (a_read_row : PySem.W.nsIn K mainGlobals "read_row" = some (some (.ref p_read_row))) (l_read_row : K.lookup p_read_row = some ⟨oc_read_row, od_read_row, .func (PySem.W.fnOf "read_row" "read_row" (defArgs s_read_row) (defBody s_read_row) (defScope s_read_row) .none kV_read_row dc_read_row pm_read_row an_read_row cd_read_row ct_read_row), sl_read_row⟩) (c_read_row : PySem.W.codeIn K cd_read_row "read_row" = true) (k_read_row : PySem.W.keepIn K (.ref p_read_row) = true)
    {p__law_cell : Addr} {od__law_cell an__law_cell : Option Addr} {sl__law_cell : Array (Option Value)} {oc__law_cell kV__law_cell dc__law_cell pm__law_cell cd__law_cell ct__law_cell : Value}
    (a__law_cell : PySem.W.nsIn K mainGlobals "_law_cell" = some (some (.ref p__law_cell))) (l__law_cell : K.lookup p__law_cell = some ⟨oc__law_cell, od__law_cell, .func (PySem.W.fnOf "_law_cell" "_law_cell" (defArgs s__law_cell) (defBody s__law_cell) (defScope s__law_cell) .none kV__law_cell dc__law_cell pm__law_cell an__law_cell cd__law_cell ct__law_cell), sl__law_cell⟩) (c__law_cell : PySem.W.codeIn K cd__law_cell "_law_cell" = true) (k__law_cell : PySem.W.keepIn K (.ref p__law_cell) = true)
    {p__law_draw : Addr} {od__law_draw an__law_draw : Option Addr} {sl__law_draw : Array (Option Value)} {oc__law_draw kV__law_draw dc__law_draw pm__law_draw cd__law_draw ct__law_draw : Value}
    (a__law_draw : PySem.W.nsIn K mainGlobals "_law_draw" = some (some (.ref p__law_draw))) (l__law_draw : K.lookup p__law_draw = some ⟨oc__law_draw, od__law_draw, .func (PySem.W.fnOf "_law_draw" "_law_draw" (defArgs s__law_draw) (defBody s__law_draw) (defScope s__law_draw) .none kV__law_draw dc__law_draw pm__law_draw an__law_draw cd__law_draw ct__law_draw), sl__law_draw⟩) (c__law_draw : PySem.W.codeIn K cd__law_draw "_law_draw" = true) (k__law_draw : PySem.W.keepIn K (.ref p__law_draw) = true)
    {p__law_f : Addr} {od__law_f an__law_f : Option Addr} {sl__law_f : Array (Option Value)} {oc__law_f kV__law_f dc__law_f pm__law_f cd__law_f ct__law_f : Value}
    (a__law_f : PySem.W.nsIn K mainGlobals "_law_f" = some (some (.ref p__law_f))) (l__law_f : K.lookup p__law_f = some ⟨oc__law_f, od__law_f, .func (PySem.W.fnOf "_law_f" "_law_f" (defArgs s__law_f) (defBody s__law_f) (defScope s__law_f) .none kV__law_f dc__law_f pm__law_f an__law_f cd__law_f ct__law_f), sl__law_f⟩) (c__law_f : PySem.W.codeIn K cd__law_f "_law_f" = true) (k__law_f : PySem.W.keepIn K (.ref p__law_f) = true)
    {p__law_add : Addr} {od__law_add an__law_add : Option Addr} {sl__law_add : Array (Option Value)} {oc__law_add kV__law_add dc__law_add pm__law_add cd__law_add ct__law_add : Value}
    (a__law_add : PySem.W.nsIn K mainGlobals "_law_add" = some (some (.ref p__law_add))) (l__law_add : K.lookup p__law_add = some ⟨oc__law_add, od__law_add, .func (PySem.W.fnOf "_law_add" "_law_add" (defArgs s__law_add) (defBody s__law_add) (defScope s__law_add) .none kV__law_add dc__law_add pm__law_add an__law_add cd__law_add ct__law_add), sl__law_add⟩) (c__law_add : PySem.W.codeIn K cd__law_add "_law_add" = true) (k__law_add : PySem.W.keepIn K (.ref p__law_add) = true)
    {p__law_sub : Addr} {od__law_sub an__law_sub : Option Addr} {sl__law_sub : Array (Option Value)} {oc__law_sub kV__law_sub dc__law_sub pm__law_sub cd__law_sub ct__law_sub : Value}
    (a__law_sub : PySem.W.nsIn K mainGlobals "_law_sub" = some (some (.ref p__law_sub))) (l__law_sub : K.lookup p__law_sub = some ⟨oc__law_sub, od__law_sub, .func (PySem.W.fnOf "_law_sub" "_law_sub" (defArgs s__law_sub) (defBody s__law_sub) (defScope s__law_sub) .none kV__law_sub dc__law_sub pm__law_sub an__law_sub cd__law_sub ct__law_sub), sl__law_sub⟩) (c__law_sub : PySem.W.codeIn K cd__law_sub "_law_sub" = true) (k__law_sub : PySem.W.keepIn K (.ref p__law_sub) = true)
    {p__law_mul : Addr} {od__law_mul an__law_mul : Option Addr} {sl__law_mul : Array (Option Value)} {oc__law_mul kV__law_mul dc__law_mul pm__law_mul cd__law_mul ct__law_mul : Value}
    (a__law_mul : PySem.W.nsIn K mainGlobals "_law_mul" = some (some (.ref p__law_mul))) (l__law_mul : K.lookup p__law_mul = some ⟨oc__law_mul, od__law_mul, .func (PySem.W.fnOf "_law_mul" "_law_mul" (defArgs s__law_mul) (defBody s__law_mul) (defScope s__law_mul) .none kV__law_mul dc__law_mul pm__law_mul an__law_mul cd__law_mul ct__law_mul), sl__law_mul⟩) (c__law_mul : PySem.W.codeIn K cd__law_mul "_law_mul" = true) (k__law_mul : PySem.W.keepIn K (.ref p__law_mul) = true)
    {p__law_div : Addr} {od__law_div an__law_div : Option Addr} {sl__law_div : Array (Option Value)} {oc__law_div kV__law_div dc__law_div pm__law_div cd__law_div ct__law_div : Value}
    (a__law_div : PySem.W.nsIn K mainGlobals "_law_div" = some (some (.ref p__law_div))) (l__law_div : K.lookup p__law_div = some ⟨oc__law_div, od__law_div, .func (PySem.W.fnOf "_law_div" "_law_div" (defArgs s__law_div) (defBody s__law_div) (defScope s__law_div) .none kV__law_div dc__law_div pm__law_div an__law_div cd__law_div ct__law_div), sl__law_div⟩) (c__law_div : PySem.W.codeIn K cd__law_div "_law_div" = true) (k__law_div : PySem.W.keepIn K (.ref p__law_div) = true)
    {p__law_scaled : Addr} {od__law_scaled an__law_scaled : Option Addr} {sl__law_scaled : Array (Option Value)} {oc__law_scaled kV__law_scaled dc__law_scaled pm__law_scaled cd__law_scaled ct__law_scaled : Value}
    (a__law_scaled : PySem.W.nsIn K mainGlobals "_law_scaled" = some (some (.ref p__law_scaled))) (l__law_scaled : K.lookup p__law_scaled = some ⟨oc__law_scaled, od__law_scaled, .func (PySem.W.fnOf "_law_scaled" "_law_scaled" (defArgs s__law_scaled) (defBody s__law_scaled) (defScope s__law_scaled) .none kV__law_scaled dc__law_scaled pm__law_scaled an__law_scaled cd__law_scaled ct__law_scaled), sl__law_scaled⟩) (c__law_scaled : PySem.W.codeIn K cd__law_scaled "_law_scaled" = true) (k__law_scaled : PySem.W.keepIn K (.ref p__law_scaled) = true)
    {p__law_factor : Addr} {od__law_factor an__law_factor : Option Addr} {sl__law_factor : Array (Option Value)} {oc__law_factor kV__law_factor dc__law_factor pm__law_factor cd__law_factor ct__law_factor : Value}
    (a__law_factor : PySem.W.nsIn K mainGlobals "_law_factor" = some (some (.ref p__law_factor))) (l__law_factor : K.lookup p__law_factor = some ⟨oc__law_factor, od__law_factor, .func (PySem.W.fnOf "_law_factor" "_law_factor" (defArgs s__law_factor) (defBody s__law_factor) (defScope s__law_factor) .none kV__law_factor dc__law_factor pm__law_factor an__law_factor cd__law_factor ct__law_factor), sl__law_factor⟩) (c__law_factor : PySem.W.codeIn K cd__law_factor "_law_factor" = true) (k__law_factor : PySem.W.keepIn K (.ref p__law_factor) = true)
    {p__law_normal : Addr} {od__law_normal an__law_normal : Option Addr} {sl__law_normal : Array (Option Value)} {oc__law_normal kV__law_normal dc__law_normal pm__law_normal cd__law_normal ct__law_normal : Value}
    (a__law_normal : PySem.W.nsIn K mainGlobals "_law_normal" = some (some (.ref p__law_normal))) (l__law_normal : K.lookup p__law_normal = some ⟨oc__law_normal, od__law_normal, .func (PySem.W.fnOf "_law_normal" "_law_normal" (defArgs s__law_normal) (defBody s__law_normal) (defScope s__law_normal) .none kV__law_normal dc__law_normal pm__law_normal an__law_normal cd__law_normal ct__law_normal), sl__law_normal⟩) (c__law_normal : PySem.W.codeIn K cd__law_normal "_law_normal" = true) (k__law_normal : PySem.W.keepIn K (.ref p__law_normal) = true)
    {p__law_parts : Addr} {od__law_parts an__law_parts : Option Addr} {sl__law_parts : Array (Option Value)} {oc__law_parts kV__law_parts dc__law_parts pm__law_parts cd__law_parts ct__law_parts : Value}
    (a__law_parts : PySem.W.nsIn K mainGlobals "_law_parts" = some (some (.ref p__law_parts))) (l__law_parts : K.lookup p__law_parts = some ⟨oc__law_parts, od__law_parts, .func (PySem.W.fnOf "_law_parts" "_law_parts" (defArgs s__law_parts) (defBody s__law_parts) (defScope s__law_parts) .none kV__law_parts dc__law_parts pm__law_parts an__law_parts cd__law_parts ct__law_parts), sl__law_parts⟩) (c__law_parts : PySem.W.codeIn K cd__law_parts "_law_parts" = true) (k__law_parts : PySem.W.keepIn K (.ref p__law_parts) = true)
    {p__law_row : Addr} {od__law_row an__law_row : Option Addr} {sl__law_row : Array (Option Value)} {oc__law_row kV__law_row dc__law_row pm__law_row cd__law_row ct__law_row : Value}
    (a__law_row : PySem.W.nsIn K mainGlobals "_law_row" = some (some (.ref p__law_row))) (l__law_row : K.lookup p__law_row = some ⟨oc__law_row, od__law_row, .func (PySem.W.fnOf "_law_row" "_law_row" (defArgs s__law_row) (defBody s__law_row) (defScope s__law_row) .none kV__law_row dc__law_row pm__law_row an__law_row cd__law_row ct__law_row), sl__law_row⟩) (c__law_row : PySem.W.codeIn K cd__law_row "_law_row" = true) (k__law_row : PySem.W.keepIn K (.ref p__law_row) = true)
    {p__law_pairs : Addr} {od__law_pairs an__law_pairs : Option Addr} {sl__law_pairs : Array (Option Value)} {oc__law_pairs kV__law_pairs dc__law_pairs pm__law_pairs cd__law_pairs ct__law_pairs : Value}
    (a__law_pairs : PySem.W.nsIn K mainGlobals "_law_pairs" = some (some (.ref p__law_pairs))) (l__law_pairs : K.lookup p__law_pairs = some ⟨oc__law_pairs, od__law_pairs, .func (PySem.W.fnOf "_law_pairs" "_law_pairs" (defArgs s__law_pairs) (defBody s__law_pairs) (defScope s__law_pairs) .none kV__law_pairs dc__law_pairs pm__law_pairs an__law_pairs cd__law_pairs ct__law_pairs), sl__law_pairs⟩) (c__law_pairs : PySem.W.codeIn K cd__law_pairs "_law_pairs" = true) (k__law_pairs : PySem.W.keepIn K (.ref p__law_pairs) = true)
    {p__law_anyrow : Addr} {od__law_anyrow an__law_anyrow : Option Addr} {sl__law_anyrow : Array (Option Value)} {oc__law_anyrow kV__law_anyrow dc__law_anyrow pm__law_anyrow cd__law_anyrow ct__law_anyrow : Value}
    (a__law_anyrow : PySem.W.nsIn K mainGlobals "_law_anyrow" = some (some (.ref p__law_anyrow))) (l__law_anyrow : K.lookup p__law_anyrow = some ⟨oc__law_anyrow, od__law_anyrow, .func (PySem.W.fnOf "_law_anyrow" "_law_anyrow" (defArgs s__law_anyrow) (defBody s__law_anyrow) (defScope s__law_anyrow) .none kV__law_anyrow dc__law_anyrow pm__law_anyrow an__law_anyrow cd__law_anyrow ct__law_anyrow), sl__law_anyrow⟩) (c__law_anyrow : PySem.W.codeIn K cd__law_anyrow "_law_anyrow" = true) (k__law_anyrow : PySem.W.keepIn K (.ref p__law_anyrow) = true)
    {p__law_system : Addr} {od__law_system an__law_system : Option Addr} {sl__law_system : Array (Option Value)} {oc__law_system kV__law_system dc__law_system pm__law_system cd__law_system ct__law_system : Value}
    (a__law_system : PySem.W.nsIn K mainGlobals "_law_system" = some (some (.ref p__law_system))) (l__law_system : K.lookup p__law_system = some ⟨oc__law_system, od__law_system, .func (PySem.W.fnOf "_law_system" "_law_system" (defArgs s__law_system) (defBody s__law_system) (defScope s__law_system) .none kV__law_system dc__law_system pm__law_system an__law_system cd__law_system ct__law_system), sl__law_system⟩) (c__law_system : PySem.W.codeIn K cd__law_system "_law_system" = true) (k__law_system : PySem.W.keepIn K (.ref p__law_system) = true)
    {p__law_word : Addr} {od__law_word an__law_word : Option Addr} {sl__law_word : Array (Option Value)} {oc__law_word kV__law_word dc__law_word pm__law_word cd__law_word ct__law_word : Value}
    (a__law_word : PySem.W.nsIn K mainGlobals "_law_word" = some (some (.ref p__law_word))) (l__law_word : K.lookup p__law_word = some ⟨oc__law_word, od__law_word, .func (PySem.W.fnOf "_law_word" "_law_word" (defArgs s__law_word) (defBody s__law_word) (defScope s__law_word) .none kV__law_word dc__law_word pm__law_word an__law_word cd__law_word ct__law_word), sl__law_word⟩) (c__law_word : PySem.W.codeIn K cd__law_word "_law_word" = true) (k__law_word : PySem.W.keepIn K (.ref p__law_word) = true)
    {p__law_rowtext : Addr} {od__law_rowtext an__law_rowtext : Option Addr} {sl__law_rowtext : Array (Option Value)} {oc__law_rowtext kV__law_rowtext dc__law_rowtext pm__law_rowtext cd__law_rowtext ct__law_rowtext : Value}
    (a__law_rowtext : PySem.W.nsIn K mainGlobals "_law_rowtext" = some (some (.ref p__law_rowtext))) (l__law_rowtext : K.lookup p__law_rowtext = some ⟨oc__law_rowtext, od__law_rowtext, .func (PySem.W.fnOf "_law_rowtext" "_law_rowtext" (defArgs s__law_rowtext) (defBody s__law_rowtext) (defScope s__law_rowtext) .none kV__law_rowtext dc__law_rowtext pm__law_rowtext an__law_rowtext cd__law_rowtext ct__law_rowtext), sl__law_rowtext⟩) (c__law_rowtext : PySem.W.codeIn K cd__law_rowtext "_law_rowtext" = true) (k__law_rowtext : PySem.W.keepIn K (.ref p__law_rowtext) = true)
    {p__law_token : Addr} {od__law_token an__law_token : Option Addr} {sl__law_token : Array (Option Value)} {oc__law_token kV__law_token dc__law_token pm__law_token cd__law_token ct__law_token : Value}
    (a__law_token : PySem.W.nsIn K mainGlobals "_law_token" = some (some (.ref p__law_token))) (l__law_token : K.lookup p__law_token = some ⟨oc__law_token, od__law_token, .func (PySem.W.fnOf "_law_token" "_law_token" (defArgs s__law_token) (defBody s__law_token) (defScope s__law_token) .none kV__law_token dc__law_token pm__law_token an__law_token cd__law_token ct__law_token), sl__law_token⟩) (c__law_token : PySem.W.codeIn K cd__law_token "_law_token" = true) (k__law_token : PySem.W.keepIn K (.ref p__law_token) = true)
    {p__law_fault : Addr} {od__law_fault an__law_fault : Option Addr} {sl__law_fault : Array (Option Value)} {oc__law_fault kV__law_fault dc__law_fault pm__law_fault cd__law_fault ct__law_fault : Value}
    (a__law_fault : PySem.W.nsIn K mainGlobals "_law_fault" = some (some (.ref p__law_fault))) (l__law_fault : K.lookup p__law_fault = some ⟨oc__law_fault, od__law_fault, .func (PySem.W.fnOf "_law_fault" "_law_fault" (defArgs s__law_fault) (defBody s__law_fault) (defScope s__law_fault) .none kV__law_fault dc__law_fault pm__law_fault an__law_fault cd__law_fault ct__law_fault), sl__law_fault⟩) (c__law_fault : PySem.W.codeIn K cd__law_fault "_law_fault" = true) (k__law_fault : PySem.W.keepIn K (.ref p__law_fault) = true)
    {p__law_told : Addr} {od__law_told an__law_told : Option Addr} {sl__law_told : Array (Option Value)} {oc__law_told kV__law_told dc__law_told pm__law_told cd__law_told ct__law_told : Value}
    (a__law_told : PySem.W.nsIn K mainGlobals "_law_told" = some (some (.ref p__law_told))) (l__law_told : K.lookup p__law_told = some ⟨oc__law_told, od__law_told, .func (PySem.W.fnOf "_law_told" "_law_told" (defArgs s__law_told) (defBody s__law_told) (defScope s__law_told) .none kV__law_told dc__law_told pm__law_told an__law_told cd__law_told ct__law_told), sl__law_told⟩) (c__law_told : PySem.W.codeIn K cd__law_told "_law_told" = true) (k__law_told : PySem.W.keepIn K (.ref p__law_told) = true)
    {p_law : Addr} {od_law an_law : Option Addr} {sl_law : Array (Option Value)} {oc_law kV_law dc_law pm_law cd_law ct_law : Value}
    (a_law : PySem.W.nsIn K mainGlobals "law" = some (some (.ref p_law))) (l_law : K.lookup p_law = some ⟨oc_law, od_law, .func (PySem.W.fnOf "law" "law" (defArgs s_law) (defBody s_law) (defScope s_law) .none kV_law dc_law pm_law an_law cd_law ct_law), sl_law⟩) (c_law : PySem.W.codeIn K cd_law "law" = true) (k_law : PySem.W.keepIn K (.ref p_law) = true)
    (z_enumerate : PySem.W.nsIn K mainGlobals "enumerate" = some none)
    (z_int : PySem.W.nsIn K mainGlobals "int" = some none)
    (z_len : PySem.W.nsIn K mainGlobals "len" = some none)
    (z_max : PySem.W.nsIn K mainGlobals "max" = some none)
    (z_min : PySem.W.nsIn K mainGlobals "min" = some none)
    (z_range : PySem.W.nsIn K mainGlobals "range" = some none)
    (z_sorted : PySem.W.nsIn K mainGlobals "sorted" = some none)
    (z_str : PySem.W.nsIn K mainGlobals "str" = some none)
    (z_tuple : PySem.W.nsIn K mainGlobals "tuple" = some none)
    (z_gcd : PySem.W.nsIn K mainGlobals "gcd" = some (some (.builtin "math.gcd")))
    (z_lcm : PySem.W.nsIn K mainGlobals "lcm" = some (some (.builtin "math.lcm")))
    {C_NumberError : Addr} (a_NumberError : PySem.W.nsIn K mainGlobals "NumberError" = some (some (.ref C_NumberError))) (e_NumberError : PySem.W.excIn K C_NumberError [.type "ValueError", .type "Exception", .type "BaseException", .type "object"] "ValueError.__new__" = true) (k_NumberError : PySem.W.keepIn K (.ref C_NumberError) = true) (b_NumberError : PySem.W.subIn K (.ref C_NumberError) (.type "BaseException") = some true) (t_NumberError : PySem.W.typeIn K (.ref C_NumberError) = some (.type "type")) (i_NumberError : PySem.W.isClsIn K C_NumberError = true) (s_NumberError : PySem.W.subIn K (.ref C_NumberError) (.ref C_NumberError) = some true)
    {C_TextError fI_TextError : Addr} {nm_TextError q_TextError : Str} {N_TextError : Addr} {bs_TextError bm_TextError : List Value} {sn_TextError : List Str} {sub_TextError : List Value} {ab_TextError : Bool} {col_TextError : Option Bool} {dd_TextError : Option Addr} {m0_TextError m1_TextError m2_TextError m3_TextError m5_TextError : Option Value} {oi_TextError ai_TextError : Option Addr} {si_TextError : Array (Option Value)} {oc_TextError kV_TextError dc_TextError pm_TextError cd_TextError ct_TextError : Value}
    (a_TextError : PySem.W.nsIn K mainGlobals "TextError" = some (some (.ref C_TextError))) (v_TextError : K.lookup C_TextError = some (excClassObj nm_TextError q_TextError C_TextError N_TextError bs_TextError bm_TextError true sn_TextError sub_TextError ab_TextError col_TextError dd_TextError m0_TextError m1_TextError m2_TextError m3_TextError m5_TextError "ValueError.__new__")) (w_TextError : PySem.HandSPX.refsVE bm_TextError = true)
    (f_TextError : PySem.W.findIn K (.ref C_TextError) "__setattr__" = some (some (.builtin "object.__setattr__"))) (b_TextError : PySem.W.subIn K (.ref C_TextError) (.type "BaseException") = some true) (t_TextError : PySem.W.typeIn K (.ref C_TextError) = some (.type "type")) (k_TextError : PySem.W.keepIn K (.ref C_TextError) = true) (g_TextError : PySem.W.findIn K (.ref C_TextError) "__getattribute__" = some (some (.builtin "BaseException.__getattribute__"))) (h_TextError : PySem.W.findIn K (.ref C_TextError) "__getattr__" = some none) (d_TextError : PySem.W.hasDictIn K C_TextError = true) (j_TextError : PySem.W.findIn K (.ref C_TextError) "__init__" = some (some (.ref fI_TextError))) (u_TextError : PySem.W.typeIn K (.ref fI_TextError) = some (.type "function"))
    (n0_TextError : PySem.W.findIn K (.ref C_TextError) "place" = some none)
    (n1_TextError : PySem.W.findIn K (.ref C_TextError) "what" = some none)
    (i_TextError : PySem.W.isClsIn K C_TextError = true) (s_TextError : PySem.W.subIn K (.ref C_TextError) (.ref C_TextError) = some true)
    (l_TextError : K.lookup fI_TextError = some ⟨oc_TextError, oi_TextError, .func (PySem.W.fnOf "__init__" "TextError.__init__" (defArgs ini_TextError) (defBody ini_TextError) (defScope ini_TextError) .none kV_TextError dc_TextError pm_TextError ai_TextError cd_TextError ct_TextError), si_TextError⟩) (c_TextError : PySem.W.codeIn K cd_TextError "TextError.__init__" = true) (o_TextError : PySem.W.keepIn K (.ref fI_TextError) = true)
    {p__BEHIND : Addr} {es__BEHIND : Array DictEntry} {n__BEHIND : Nat}
    (a__BEHIND : PySem.W.nsIn K mainGlobals "_BEHIND" = some (some (.ref p__BEHIND))) (l__BEHIND : K.lookup p__BEHIND = some ⟨.type "dict", none, .dict es__BEHIND n__BEHIND, #[]⟩) (q__BEHIND : PySem.W.KeysLit w.params es__BEHIND.toList) (r__BEHIND : (p__BEHIND == sysModules) = false)
    {p__BEHIND_0 : Addr} {sl__BEHIND_0 : Array (Option Value)} {n__BEHIND_0 : Nat} {t__BEHIND_0_0 t__BEHIND_0_1 t__BEHIND_0_2 t__BEHIND_0_3 : Tok}
    (g__BEHIND_0 : PySem.W.nsIn K p__BEHIND "number" = some (some (.ref p__BEHIND_0))) (l__BEHIND_0 : K.lookup p__BEHIND_0 = some ⟨.type "tuple", none, .seq #[.str "unknown" t__BEHIND_0_0, .str "+" t__BEHIND_0_1, .str "-" t__BEHIND_0_2, .str "sign" t__BEHIND_0_3] n__BEHIND_0, sl__BEHIND_0⟩)
    {p__BEHIND_1 : Addr} {sl__BEHIND_1 : Array (Option Value)} {n__BEHIND_1 : Nat} {t__BEHIND_1_0 t__BEHIND_1_1 t__BEHIND_1_2 : Tok}
    (g__BEHIND_1 : PySem.W.nsIn K p__BEHIND "unknown" = some (some (.ref p__BEHIND_1))) (l__BEHIND_1 : K.lookup p__BEHIND_1 = some ⟨.type "tuple", none, .seq #[.str "+" t__BEHIND_1_0, .str "-" t__BEHIND_1_1, .str "sign" t__BEHIND_1_2] n__BEHIND_1, sl__BEHIND_1⟩)
    {p__BEHIND_2 : Addr} {sl__BEHIND_2 : Array (Option Value)} {n__BEHIND_2 : Nat} {t__BEHIND_2_0 t__BEHIND_2_1 : Tok}
    (g__BEHIND_2 : PySem.W.nsIn K p__BEHIND "+" = some (some (.ref p__BEHIND_2))) (l__BEHIND_2 : K.lookup p__BEHIND_2 = some ⟨.type "tuple", none, .seq #[.str "number" t__BEHIND_2_0, .str "unknown" t__BEHIND_2_1] n__BEHIND_2, sl__BEHIND_2⟩)
    {p__BEHIND_3 : Addr} {sl__BEHIND_3 : Array (Option Value)} {n__BEHIND_3 : Nat} {t__BEHIND_3_0 t__BEHIND_3_1 : Tok}
    (g__BEHIND_3 : PySem.W.nsIn K p__BEHIND "-" = some (some (.ref p__BEHIND_3))) (l__BEHIND_3 : K.lookup p__BEHIND_3 = some ⟨.type "tuple", none, .seq #[.str "number" t__BEHIND_3_0, .str "unknown" t__BEHIND_3_1] n__BEHIND_3, sl__BEHIND_3⟩)
    {p__BEHIND_4 : Addr} {sl__BEHIND_4 : Array (Option Value)} {n__BEHIND_4 : Nat} {t__BEHIND_4_0 t__BEHIND_4_1 t__BEHIND_4_2 : Tok}
    (g__BEHIND_4 : PySem.W.nsIn K p__BEHIND "sign" = some (some (.ref p__BEHIND_4))) (l__BEHIND_4 : K.lookup p__BEHIND_4 = some ⟨.type "tuple", none, .seq #[.str "number" t__BEHIND_4_0, .str "unknown" t__BEHIND_4_1, .str "-" t__BEHIND_4_2] n__BEHIND_4, sl__BEHIND_4⟩)
    {p__TURNED : Addr} {es__TURNED : Array DictEntry} {n__TURNED : Nat} {t__TURNED_0 t__TURNED_1 : Tok}
    (a__TURNED : PySem.W.nsIn K mainGlobals "_TURNED" = some (some (.ref p__TURNED))) (l__TURNED : K.lookup p__TURNED = some ⟨.type "dict", none, .dict es__TURNED n__TURNED, #[]⟩) (q__TURNED : PySem.W.KeysLit w.params es__TURNED.toList) (r__TURNED : (p__TURNED == sysModules) = false)
    (g0__TURNED : PySem.W.nsIn K p__TURNED ">=" = some (some (.str "<=" t__TURNED_0)))
    (g1__TURNED : PySem.W.nsIn K p__TURNED ">" = some (some (.str "<" t__TURNED_1)))
    (m0__TURNED : PySem.W.nsIn K p__TURNED "<=" = some none)
    (m1__TURNED : PySem.W.nsIn K p__TURNED "<" = some none)
    (m2__TURNED : PySem.W.nsIn K p__TURNED "=" = some none)
    {t_DIGITS_0 : Tok}
    (a_DIGITS : PySem.W.nsIn K mainGlobals "DIGITS" = some (some (.int 6 t_DIGITS_0)))
    {t_LETTERS_0 : Tok}
    (a_LETTERS : PySem.W.nsIn K mainGlobals "LETTERS" = some (some (.int 8 t_LETTERS_0)))
    {p_MINUS_ONE : Addr} {sl_MINUS_ONE : Array (Option Value)} {n_MINUS_ONE : Nat} {t_MINUS_ONE_0 t_MINUS_ONE_1 : Tok}
    (a_MINUS_ONE : PySem.W.nsIn K mainGlobals "MINUS_ONE" = some (some (.ref p_MINUS_ONE))) (l_MINUS_ONE : K.lookup p_MINUS_ONE = some ⟨.type "tuple", none, .seq #[.int (-1) t_MINUS_ONE_0, .int 1 t_MINUS_ONE_1] n_MINUS_ONE, sl_MINUS_ONE⟩)
    {p_ONE : Addr} {sl_ONE : Array (Option Value)} {n_ONE : Nat} {t_ONE_0 t_ONE_1 : Tok}
    (a_ONE : PySem.W.nsIn K mainGlobals "ONE" = some (some (.ref p_ONE))) (l_ONE : K.lookup p_ONE = some ⟨.type "tuple", none, .seq #[.int 1 t_ONE_0, .int 1 t_ONE_1] n_ONE, sl_ONE⟩)
    {p_ZERO : Addr} {sl_ZERO : Array (Option Value)} {n_ZERO : Nat} {t_ZERO_0 t_ZERO_1 : Tok}
    (a_ZERO : PySem.W.nsIn K mainGlobals "ZERO" = some (some (.ref p_ZERO))) (l_ZERO : K.lookup p_ZERO = some ⟨.type "tuple", none, .seq #[.int 0 t_ZERO_0, .int 1 t_ZERO_1] n_ZERO, sl_ZERO⟩)
    {t__DIGIT_CHARS_0 : Tok}
    (a__DIGIT_CHARS : PySem.W.nsIn K mainGlobals "_DIGIT_CHARS" = some (some (.str "0123456789" t__DIGIT_CHARS_0)))
    {t__LETTER_CHARS_0 : Tok}
    (a__LETTER_CHARS : PySem.W.nsIn K mainGlobals "_LETTER_CHARS" = some (some (.str "abcdefghijklmnopqrstuvwxyz" t__LETTER_CHARS_0))) : Txt w K mg :=
  { f_number := ⟨_, _, fun_mk (st := s_number) l_number c_number k_number, PySem.W.mg_of X G a_number⟩,
    f_plus := ⟨_, _, fun_mk (st := s_plus) l_plus c_plus k_plus, PySem.W.mg_of X G a_plus⟩,
    f_minus := ⟨_, _, fun_mk (st := s_minus) l_minus c_minus k_minus, PySem.W.mg_of X G a_minus⟩,
    f_times := ⟨_, _, fun_mk (st := s_times) l_times c_times k_times, PySem.W.mg_of X G a_times⟩,
    f_compare := ⟨_, _, fun_mk (st := s_compare) l_compare c_compare k_compare, PySem.W.mg_of X G a_compare⟩,
    f_whole_factor := ⟨_, _, fun_mk (st := s_whole_factor) l_whole_factor c_whole_factor k_whole_factor, PySem.W.mg_of X G a_whole_factor⟩,
    f_added_up := ⟨_, _, fun_mk (st := s_added_up) l_added_up c_added_up k_added_up, PySem.W.mg_of X G a_added_up⟩,
    f_multiplied := ⟨_, _, fun_mk (st := s_multiplied) l_multiplied c_multiplied k_multiplied, PySem.W.mg_of X G a_multiplied⟩,
    f_normal_factor := ⟨_, _, fun_mk (st := s_normal_factor) l_normal_factor c_normal_factor k_normal_factor, PySem.W.mg_of X G a_normal_factor⟩,
    f_normal := ⟨_, _, fun_mk (st := s_normal) l_normal c_normal k_normal, PySem.W.mg_of X G a_normal⟩,
    f_row := ⟨_, _, fun_mk (st := s_row) l_row c_row k_row, PySem.W.mg_of X G a_row⟩,
    f__run_end := ⟨_, _, fun_mk (st := s__run_end) l__run_end c__run_end k__run_end, PySem.W.mg_of X G a__run_end⟩,
    f__digits_end := ⟨_, _, fun_mk (st := s__digits_end) l__digits_end c__digits_end k__digits_end, PySem.W.mg_of X G a__digits_end⟩,
    f__number_end := ⟨_, _, fun_mk (st := s__number_end) l__number_end c__number_end k__number_end, PySem.W.mg_of X G a__number_end⟩,
    f__token_end := ⟨_, _, fun_mk (st := s__token_end) l__token_end c__token_end k__token_end, PySem.W.mg_of X G a__token_end⟩,
    f__is_cut_off := ⟨_, _, fun_mk (st := s__is_cut_off) l__is_cut_off c__is_cut_off k__is_cut_off, PySem.W.mg_of X G a__is_cut_off⟩,
    f__tokens := ⟨_, _, fun_mk (st := s__tokens) l__tokens c__tokens k__tokens, PySem.W.mg_of X G a__tokens⟩,
    f__kind := ⟨_, _, fun_mk (st := s__kind) l__kind c__kind k__kind, PySem.W.mg_of X G a__kind⟩,
    f__check := ⟨_, _, fun_mk (st := s__check) l__check c__check k__check, PySem.W.mg_of X G a__check⟩,
    f__number_of := ⟨_, _, fun_mk (st := s__number_of) l__number_of c__number_of k__number_of, PySem.W.mg_of X G a__number_of⟩,
    f__row_of := ⟨_, _, fun_mk (st := s__row_of) l__row_of c__row_of k__row_of, PySem.W.mg_of X G a__row_of⟩,
    f_read_row := ⟨_, _, fun_mk (st := s_read_row) l_read_row c_read_row k_read_row, PySem.W.mg_of X G a_read_row⟩,
    f__law_cell := ⟨_, _, fun_mk (st := s__law_cell) l__law_cell c__law_cell k__law_cell, PySem.W.mg_of X G a__law_cell⟩,
    f__law_draw := ⟨_, _, fun_mk (st := s__law_draw) l__law_draw c__law_draw k__law_draw, PySem.W.mg_of X G a__law_draw⟩,
    f__law_f := ⟨_, _, fun_mk (st := s__law_f) l__law_f c__law_f k__law_f, PySem.W.mg_of X G a__law_f⟩,
    f__law_add := ⟨_, _, fun_mk (st := s__law_add) l__law_add c__law_add k__law_add, PySem.W.mg_of X G a__law_add⟩,
    f__law_sub := ⟨_, _, fun_mk (st := s__law_sub) l__law_sub c__law_sub k__law_sub, PySem.W.mg_of X G a__law_sub⟩,
    f__law_mul := ⟨_, _, fun_mk (st := s__law_mul) l__law_mul c__law_mul k__law_mul, PySem.W.mg_of X G a__law_mul⟩,
    f__law_div := ⟨_, _, fun_mk (st := s__law_div) l__law_div c__law_div k__law_div, PySem.W.mg_of X G a__law_div⟩,
    f__law_scaled := ⟨_, _, fun_mk (st := s__law_scaled) l__law_scaled c__law_scaled k__law_scaled, PySem.W.mg_of X G a__law_scaled⟩,
    f__law_factor := ⟨_, _, fun_mk (st := s__law_factor) l__law_factor c__law_factor k__law_factor, PySem.W.mg_of X G a__law_factor⟩,
    f__law_normal := ⟨_, _, fun_mk (st := s__law_normal) l__law_normal c__law_normal k__law_normal, PySem.W.mg_of X G a__law_normal⟩,
    f__law_parts := ⟨_, _, fun_mk (st := s__law_parts) l__law_parts c__law_parts k__law_parts, PySem.W.mg_of X G a__law_parts⟩,
    f__law_row := ⟨_, _, fun_mk (st := s__law_row) l__law_row c__law_row k__law_row, PySem.W.mg_of X G a__law_row⟩,
    f__law_pairs := ⟨_, _, fun_mk (st := s__law_pairs) l__law_pairs c__law_pairs k__law_pairs, PySem.W.mg_of X G a__law_pairs⟩,
    f__law_anyrow := ⟨_, _, fun_mk (st := s__law_anyrow) l__law_anyrow c__law_anyrow k__law_anyrow, PySem.W.mg_of X G a__law_anyrow⟩,
    f__law_system := ⟨_, _, fun_mk (st := s__law_system) l__law_system c__law_system k__law_system, PySem.W.mg_of X G a__law_system⟩,
    f__law_word := ⟨_, _, fun_mk (st := s__law_word) l__law_word c__law_word k__law_word, PySem.W.mg_of X G a__law_word⟩,
    f__law_rowtext := ⟨_, _, fun_mk (st := s__law_rowtext) l__law_rowtext c__law_rowtext k__law_rowtext, PySem.W.mg_of X G a__law_rowtext⟩,
    f__law_token := ⟨_, _, fun_mk (st := s__law_token) l__law_token c__law_token k__law_token, PySem.W.mg_of X G a__law_token⟩,
    f__law_fault := ⟨_, _, fun_mk (st := s__law_fault) l__law_fault c__law_fault k__law_fault, PySem.W.mg_of X G a__law_fault⟩,
    f__law_told := ⟨_, _, fun_mk (st := s__law_told) l__law_told c__law_told k__law_told, PySem.W.mg_of X G a__law_told⟩,
    f_law := ⟨_, _, fun_mk (st := s_law) l_law c_law k_law, PySem.W.mg_of X G a_law⟩,
    z_enumerate := PySem.W.mg_none_of X G z_enumerate,
    z_int := PySem.W.mg_none_of X G z_int,
    z_len := PySem.W.mg_none_of X G z_len,
    z_max := PySem.W.mg_none_of X G z_max,
    z_min := PySem.W.mg_none_of X G z_min,
    z_range := PySem.W.mg_none_of X G z_range,
    z_sorted := PySem.W.mg_none_of X G z_sorted,
    z_str := PySem.W.mg_none_of X G z_str,
    z_tuple := PySem.W.mg_none_of X G z_tuple,
    z_gcd := PySem.W.mg_of X G z_gcd,
    z_lcm := PySem.W.mg_of X G z_lcm,
    x_NumberError := ⟨_, ⟨PySem.W.mg_of X G a_NumberError, e_NumberError, k_NumberError, b_NumberError, t_NumberError, i_NumberError, s_NumberError⟩⟩,
    x_TextError := ⟨_, _, _, ⟨PySem.W.mg_of X G a_TextError, ⟨⟨_, _, _, _, _, _, _, _, _, _, _, _, _, _, _, v_TextError, w_TextError⟩, f_TextError, b_TextError, t_TextError, k_TextError⟩, ⟨g_TextError, h_TextError, b_TextError, d_TextError⟩, j_TextError, u_TextError, by simp only [List.forall_mem_cons]; exact ⟨n0_TextError, n1_TextError, fun _ h => by cases h⟩, i_TextError, s_TextError, fun_mk (st := ini_TextError) l_TextError c_TextError o_TextError⟩⟩,
    c__BEHIND := ⟨p__BEHIND, es__BEHIND, n__BEHIND, PySem.W.mg_of X G a__BEHIND, ⟨l__BEHIND, q__BEHIND, r__BEHIND⟩, by simp only [List.forall_mem_cons]; exact ⟨⟨.ref p__BEHIND_0, .ref p__BEHIND_0, g__BEHIND_0, rfl, fun G => .tup (.inr ⟨_, _, _, rfl, l__BEHIND_0, rfl, rfl, by show 4 ≤ sizeLine; decide, (.cons (show RelV (V.str "unknown") (Value.str "unknown" t__BEHIND_0_0) from ⟨_, rfl⟩) (.cons (show RelV (V.str "+") (Value.str "+" t__BEHIND_0_1) from ⟨_, rfl⟩) (.cons (show RelV (V.str "-") (Value.str "-" t__BEHIND_0_2) from ⟨_, rfl⟩) (.cons (show RelV (V.str "sign") (Value.str "sign" t__BEHIND_0_3) from ⟨_, rfl⟩) .nil))))⟩) (.cons (.str _) (.cons (.str _) (.cons (.str _) (.cons (.str _) .nil))))⟩, ⟨.ref p__BEHIND_1, .ref p__BEHIND_1, g__BEHIND_1, rfl, fun G => .tup (.inr ⟨_, _, _, rfl, l__BEHIND_1, rfl, rfl, by show 3 ≤ sizeLine; decide, (.cons (show RelV (V.str "+") (Value.str "+" t__BEHIND_1_0) from ⟨_, rfl⟩) (.cons (show RelV (V.str "-") (Value.str "-" t__BEHIND_1_1) from ⟨_, rfl⟩) (.cons (show RelV (V.str "sign") (Value.str "sign" t__BEHIND_1_2) from ⟨_, rfl⟩) .nil)))⟩) (.cons (.str _) (.cons (.str _) (.cons (.str _) .nil)))⟩, ⟨.ref p__BEHIND_2, .ref p__BEHIND_2, g__BEHIND_2, rfl, fun G => .tup (.inr ⟨_, _, _, rfl, l__BEHIND_2, rfl, rfl, by show 2 ≤ sizeLine; decide, (.cons (show RelV (V.str "number") (Value.str "number" t__BEHIND_2_0) from ⟨_, rfl⟩) (.cons (show RelV (V.str "unknown") (Value.str "unknown" t__BEHIND_2_1) from ⟨_, rfl⟩) .nil))⟩) (.cons (.str _) (.cons (.str _) .nil))⟩, ⟨.ref p__BEHIND_3, .ref p__BEHIND_3, g__BEHIND_3, rfl, fun G => .tup (.inr ⟨_, _, _, rfl, l__BEHIND_3, rfl, rfl, by show 2 ≤ sizeLine; decide, (.cons (show RelV (V.str "number") (Value.str "number" t__BEHIND_3_0) from ⟨_, rfl⟩) (.cons (show RelV (V.str "unknown") (Value.str "unknown" t__BEHIND_3_1) from ⟨_, rfl⟩) .nil))⟩) (.cons (.str _) (.cons (.str _) .nil))⟩, ⟨.ref p__BEHIND_4, .ref p__BEHIND_4, g__BEHIND_4, rfl, fun G => .tup (.inr ⟨_, _, _, rfl, l__BEHIND_4, rfl, rfl, by show 3 ≤ sizeLine; decide, (.cons (show RelV (V.str "number") (Value.str "number" t__BEHIND_4_0) from ⟨_, rfl⟩) (.cons (show RelV (V.str "unknown") (Value.str "unknown" t__BEHIND_4_1) from ⟨_, rfl⟩) (.cons (show RelV (V.str "-") (Value.str "-" t__BEHIND_4_2) from ⟨_, rfl⟩) .nil)))⟩) (.cons (.str _) (.cons (.str _) (.cons (.str _) .nil)))⟩, fun _ h => by cases h⟩⟩,
    c__TURNED := ⟨p__TURNED, es__TURNED, n__TURNED, PySem.W.mg_of X G a__TURNED, ⟨l__TURNED, q__TURNED, r__TURNED⟩, by simp only [List.forall_mem_cons]; exact ⟨⟨_, g0__TURNED⟩, ⟨_, g1__TURNED⟩, fun _ h => by cases h⟩, by simp only [List.forall_mem_cons]; exact ⟨m0__TURNED, m1__TURNED, m2__TURNED, fun _ h => by cases h⟩⟩,
    c_DIGITS := ⟨.int 6, .int 6 t_DIGITS_0, PySem.W.mg_of X G a_DIGITS, ⟨_, rfl⟩, fun G => .int _⟩,
    c_LETTERS := ⟨.int 8, .int 8 t_LETTERS_0, PySem.W.mg_of X G a_LETTERS, ⟨_, rfl⟩, fun G => .int _⟩,
    c_MINUS_ONE := ⟨.ref p_MINUS_ONE, .ref p_MINUS_ONE, PySem.W.mg_of X G a_MINUS_ONE, rfl, fun G => .tup (.inr ⟨_, _, _, rfl, l_MINUS_ONE, rfl, rfl, by show 2 ≤ sizeLine; decide, (.cons (show RelV (V.int (-1)) (Value.int (-1) t_MINUS_ONE_0) from ⟨_, rfl⟩) (.cons (show RelV (V.int 1) (Value.int 1 t_MINUS_ONE_1) from ⟨_, rfl⟩) .nil))⟩) (.cons (.int _) (.cons (.int _) .nil))⟩,
    c_ONE := ⟨.ref p_ONE, .ref p_ONE, PySem.W.mg_of X G a_ONE, rfl, fun G => .tup (.inr ⟨_, _, _, rfl, l_ONE, rfl, rfl, by show 2 ≤ sizeLine; decide, (.cons (show RelV (V.int 1) (Value.int 1 t_ONE_0) from ⟨_, rfl⟩) (.cons (show RelV (V.int 1) (Value.int 1 t_ONE_1) from ⟨_, rfl⟩) .nil))⟩) (.cons (.int _) (.cons (.int _) .nil))⟩,
    c_ZERO := ⟨.ref p_ZERO, .ref p_ZERO, PySem.W.mg_of X G a_ZERO, rfl, fun G => .tup (.inr ⟨_, _, _, rfl, l_ZERO, rfl, rfl, by show 2 ≤ sizeLine; decide, (.cons (show RelV (V.int 0) (Value.int 0 t_ZERO_0) from ⟨_, rfl⟩) (.cons (show RelV (V.int 1) (Value.int 1 t_ZERO_1) from ⟨_, rfl⟩) .nil))⟩) (.cons (.int _) (.cons (.int _) .nil))⟩,
    c__DIGIT_CHARS := ⟨.str "0123456789", .str "0123456789" t__DIGIT_CHARS_0, PySem.W.mg_of X G a__DIGIT_CHARS, ⟨_, rfl⟩, fun G => .str _⟩,
    c__LETTER_CHARS := ⟨.str "abcdefghijklmnopqrstuvwxyz", .str "abcdefghijklmnopqrstuvwxyz" t__LETTER_CHARS_0, PySem.W.mg_of X G a__LETTER_CHARS, ⟨_, rfl⟩, fun G => .str _⟩ }
theorem all_mk {P : Program} {w : World} {K : PySem.W.Frag} {h : Heap} {mg : Str → Option Value} {fa : Addr} (X : K.In h) (G : h.Ns mainGlobals mg) (hfa : mg "law" = some (.ref fa)) (hl : ∀ ns : List Int, ns.length ≤ 63 → B_law (.list (ns.map PyData.int)) = .ok (.bool true))
    {p_number : Addr} {od_number an_number : Option Addr} {sl_number : Array (Option Value)} {oc_number kV_number dc_number pm_number cd_number ct_number : Value}
    (a_number : PySem.W.nsIn K mainGlobals "number" = some (some (.ref p_number))) (l_number : K.lookup p_number = some ⟨oc_number, od_number, .func (PySem.W.fnOf "number" "number" (defArgs s_number) (defBody s_number) (defScope s_number) .none kV_number dc_number pm_number an_number cd_number ct_number), sl_number⟩) (c_number : PySem.W.codeIn K cd_number "number" = true) (k_number : PySem.W.keepIn K (.ref p_number) = true)
    {p_plus : Addr} {od_plus an_plus : Option Addr} {sl_plus : Array (Option Value)} {oc_plus kV_plus dc_plus pm_plus cd_plus ct_plus : Value}
    (a_plus : PySem.W.nsIn K mainGlobals "plus" = some (some (.ref p_plus))) (l_plus : K.lookup p_plus = some ⟨oc_plus, od_plus, .func (PySem.W.fnOf "plus" "plus" (defArgs s_plus) (defBody s_plus) (defScope s_plus) .none kV_plus dc_plus pm_plus an_plus cd_plus ct_plus), sl_plus⟩) (c_plus : PySem.W.codeIn K cd_plus "plus" = true) (k_plus : PySem.W.keepIn K (.ref p_plus) = true)
    {p_minus : Addr} {od_minus an_minus : Option Addr} {sl_minus : Array (Option Value)} {oc_minus kV_minus dc_minus pm_minus cd_minus ct_minus : Value}
    (a_minus : PySem.W.nsIn K mainGlobals "minus" = some (some (.ref p_minus))) (l_minus : K.lookup p_minus = some ⟨oc_minus, od_minus, .func (PySem.W.fnOf "minus" "minus" (defArgs s_minus) (defBody s_minus) (defScope s_minus) .none kV_minus dc_minus pm_minus an_minus cd_minus ct_minus), sl_minus⟩) (c_minus : PySem.W.codeIn K cd_minus "minus" = true) (k_minus : PySem.W.keepIn K (.ref p_minus) = true)
    {p_times : Addr} {od_times an_times : Option Addr} {sl_times : Array (Option Value)} {oc_times kV_times dc_times pm_times cd_times ct_times : Value}
    (a_times : PySem.W.nsIn K mainGlobals "times" = some (some (.ref p_times))) (l_times : K.lookup p_times = some ⟨oc_times, od_times, .func (PySem.W.fnOf "times" "times" (defArgs s_times) (defBody s_times) (defScope s_times) .none kV_times dc_times pm_times an_times cd_times ct_times), sl_times⟩) (c_times : PySem.W.codeIn K cd_times "times" = true) (k_times : PySem.W.keepIn K (.ref p_times) = true)
    {p_compare : Addr} {od_compare an_compare : Option Addr} {sl_compare : Array (Option Value)} {oc_compare kV_compare dc_compare pm_compare cd_compare ct_compare : Value}
    (a_compare : PySem.W.nsIn K mainGlobals "compare" = some (some (.ref p_compare))) (l_compare : K.lookup p_compare = some ⟨oc_compare, od_compare, .func (PySem.W.fnOf "compare" "compare" (defArgs s_compare) (defBody s_compare) (defScope s_compare) .none kV_compare dc_compare pm_compare an_compare cd_compare ct_compare), sl_compare⟩) (c_compare : PySem.W.codeIn K cd_compare "compare" = true) (k_compare : PySem.W.keepIn K (.ref p_compare) = true)
    {p_whole_factor : Addr} {od_whole_factor an_whole_factor : Option Addr} {sl_whole_factor : Array (Option Value)} {oc_whole_factor kV_whole_factor dc_whole_factor pm_whole_factor cd_whole_factor ct_whole_factor : Value}
    (a_whole_factor : PySem.W.nsIn K mainGlobals "whole_factor" = some (some (.ref p_whole_factor))) (l_whole_factor : K.lookup p_whole_factor = some ⟨oc_whole_factor, od_whole_factor, .func (PySem.W.fnOf "whole_factor" "whole_factor" (defArgs s_whole_factor) (defBody s_whole_factor) (defScope s_whole_factor) .none kV_whole_factor dc_whole_factor pm_whole_factor an_whole_factor cd_whole_factor ct_whole_factor), sl_whole_factor⟩) (c_whole_factor : PySem.W.codeIn K cd_whole_factor "whole_factor" = true) (k_whole_factor : PySem.W.keepIn K (.ref p_whole_factor) = true)
    {p_added_up : Addr} {od_added_up an_added_up : Option Addr} {sl_added_up : Array (Option Value)} {oc_added_up kV_added_up dc_added_up pm_added_up cd_added_up ct_added_up : Value}
    (a_added_up : PySem.W.nsIn K mainGlobals "added_up" = some (some (.ref p_added_up))) (l_added_up : K.lookup p_added_up = some ⟨oc_added_up, od_added_up, .func (PySem.W.fnOf "added_up" "added_up" (defArgs s_added_up) (defBody s_added_up) (defScope s_added_up) .none kV_added_up dc_added_up pm_added_up an_added_up cd_added_up ct_added_up), sl_added_up⟩) (c_added_up : PySem.W.codeIn K cd_added_up "added_up" = true) (k_added_up : PySem.W.keepIn K (.ref p_added_up) = true)
    {p_multiplied : Addr} {od_multiplied an_multiplied : Option Addr} {sl_multiplied : Array (Option Value)} {oc_multiplied kV_multiplied dc_multiplied pm_multiplied cd_multiplied ct_multiplied : Value}
    (a_multiplied : PySem.W.nsIn K mainGlobals "multiplied" = some (some (.ref p_multiplied))) (l_multiplied : K.lookup p_multiplied = some ⟨oc_multiplied, od_multiplied, .func (PySem.W.fnOf "multiplied" "multiplied" (defArgs s_multiplied) (defBody s_multiplied) (defScope s_multiplied) .none kV_multiplied dc_multiplied pm_multiplied an_multiplied cd_multiplied ct_multiplied), sl_multiplied⟩) (c_multiplied : PySem.W.codeIn K cd_multiplied "multiplied" = true) (k_multiplied : PySem.W.keepIn K (.ref p_multiplied) = true)
    {p_normal_factor : Addr} {od_normal_factor an_normal_factor : Option Addr} {sl_normal_factor : Array (Option Value)} {oc_normal_factor kV_normal_factor dc_normal_factor pm_normal_factor cd_normal_factor ct_normal_factor : Value}
    (a_normal_factor : PySem.W.nsIn K mainGlobals "normal_factor" = some (some (.ref p_normal_factor))) (l_normal_factor : K.lookup p_normal_factor = some ⟨oc_normal_factor, od_normal_factor, .func (PySem.W.fnOf "normal_factor" "normal_factor" (defArgs s_normal_factor) (defBody s_normal_factor) (defScope s_normal_factor) .none kV_normal_factor dc_normal_factor pm_normal_factor an_normal_factor cd_normal_factor ct_normal_factor), sl_normal_factor⟩) (c_normal_factor : PySem.W.codeIn K cd_normal_factor "normal_factor" = true) (k_normal_factor : PySem.W.keepIn K (.ref p_normal_factor) = true)
    {p_normal : Addr} {od_normal an_normal : Option Addr} {sl_normal : Array (Option Value)} {oc_normal kV_normal dc_normal pm_normal cd_normal ct_normal : Value}
    (a_normal : PySem.W.nsIn K mainGlobals "normal" = some (some (.ref p_normal))) (l_normal : K.lookup p_normal = some ⟨oc_normal, od_normal, .func (PySem.W.fnOf "normal" "normal" (defArgs s_normal) (defBody s_normal) (defScope s_normal) .none kV_normal dc_normal pm_normal an_normal cd_normal ct_normal), sl_normal⟩) (c_normal : PySem.W.codeIn K cd_normal "normal" = true) (k_normal : PySem.W.keepIn K (.ref p_normal) = true)
    {p_row : Addr} {od_row an_row : Option Addr} {sl_row : Array (Option Value)} {oc_row kV_row dc_row pm_row cd_row ct_row : Value}
    (a_row : PySem.W.nsIn K mainGlobals "row" = some (some (.ref p_row))) (l_row : K.lookup p_row = some ⟨oc_row, od_row, .func (PySem.W.fnOf "row" "row" (defArgs s_row) (defBody s_row) (defScope s_row) .none kV_row dc_row pm_row an_row cd_row ct_row), sl_row⟩) (c_row : PySem.W.codeIn K cd_row "row" = true) (k_row : PySem.W.keepIn K (.ref p_row) = true)
    {p__run_end : Addr} {od__run_end an__run_end : Option Addr} {sl__run_end : Array (Option Value)} {oc__run_end kV__run_end dc__run_end pm__run_end cd__run_end ct__run_end : Value}
    (a__run_end : PySem.W.nsIn K mainGlobals "_run_end" = some (some (.ref p__run_end))) (l__run_end : K.lookup p__run_end = some ⟨oc__run_end, od__run_end, .func (PySem.W.fnOf "_run_end" "_run_end" (defArgs s__run_end) (defBody s__run_end) (defScope s__run_end) .none kV__run_end dc__run_end pm__run_end an__run_end cd__run_end ct__run_end), sl__run_end⟩) (c__run_end : PySem.W.codeIn K cd__run_end "_run_end" = true) (k__run_end : PySem.W.keepIn K (.ref p__run_end) = true)
    {p__digits_end : Addr} {od__digits_end an__digits_end : Option Addr} {sl__digits_end : Array (Option Value)} {oc__digits_end kV__digits_end dc__digits_end pm__digits_end cd__digits_end ct__digits_end : Value}
    (a__digits_end : PySem.W.nsIn K mainGlobals "_digits_end" = some (some (.ref p__digits_end))) (l__digits_end : K.lookup p__digits_end = some ⟨oc__digits_end, od__digits_end, .func (PySem.W.fnOf "_digits_end" "_digits_end" (defArgs s__digits_end) (defBody s__digits_end) (defScope s__digits_end) .none kV__digits_end dc__digits_end pm__digits_end an__digits_end cd__digits_end ct__digits_end), sl__digits_end⟩) (c__digits_end : PySem.W.codeIn K cd__digits_end "_digits_end" = true) (k__digits_end : PySem.W.keepIn K (.ref p__digits_end) = true)
    {p__number_end : Addr} {od__number_end an__number_end : Option Addr} {sl__number_end : Array (Option Value)} {oc__number_end kV__number_end dc__number_end pm__number_end cd__number_end ct__number_end : Value}
    (a__number_end : PySem.W.nsIn K mainGlobals "_number_end" = some (some (.ref p__number_end))) (l__number_end : K.lookup p__number_end = some ⟨oc__number_end, od__number_end, .func (PySem.W.fnOf "_number_end" "_number_end" (defArgs s__number_end) (defBody s__number_end) (defScope s__number_end) .none kV__number_end dc__number_end pm__number_end an__number_end cd__number_end ct__number_end), sl__number_end⟩) (c__number_end : PySem.W.codeIn K cd__number_end "_number_end" = true) (k__number_end : PySem.W.keepIn K (.ref p__number_end) = true)
    {p__token_end : Addr} {od__token_end an__token_end : Option Addr} {sl__token_end : Array (Option Value)} {oc__token_end kV__token_end dc__token_end pm__token_end cd__token_end ct__token_end : Value}
    (a__token_end : PySem.W.nsIn K mainGlobals "_token_end" = some (some (.ref p__token_end))) (l__token_end : K.lookup p__token_end = some ⟨oc__token_end, od__token_end, .func (PySem.W.fnOf "_token_end" "_token_end" (defArgs s__token_end) (defBody s__token_end) (defScope s__token_end) .none kV__token_end dc__token_end pm__token_end an__token_end cd__token_end ct__token_end), sl__token_end⟩) (c__token_end : PySem.W.codeIn K cd__token_end "_token_end" = true) (k__token_end : PySem.W.keepIn K (.ref p__token_end) = true)
    {p__is_cut_off : Addr} {od__is_cut_off an__is_cut_off : Option Addr} {sl__is_cut_off : Array (Option Value)} {oc__is_cut_off kV__is_cut_off dc__is_cut_off pm__is_cut_off cd__is_cut_off ct__is_cut_off : Value}
    (a__is_cut_off : PySem.W.nsIn K mainGlobals "_is_cut_off" = some (some (.ref p__is_cut_off))) (l__is_cut_off : K.lookup p__is_cut_off = some ⟨oc__is_cut_off, od__is_cut_off, .func (PySem.W.fnOf "_is_cut_off" "_is_cut_off" (defArgs s__is_cut_off) (defBody s__is_cut_off) (defScope s__is_cut_off) .none kV__is_cut_off dc__is_cut_off pm__is_cut_off an__is_cut_off cd__is_cut_off ct__is_cut_off), sl__is_cut_off⟩) (c__is_cut_off : PySem.W.codeIn K cd__is_cut_off "_is_cut_off" = true) (k__is_cut_off : PySem.W.keepIn K (.ref p__is_cut_off) = true)
    {p__tokens : Addr} {od__tokens an__tokens : Option Addr} {sl__tokens : Array (Option Value)} {oc__tokens kV__tokens dc__tokens pm__tokens cd__tokens ct__tokens : Value}
    (a__tokens : PySem.W.nsIn K mainGlobals "_tokens" = some (some (.ref p__tokens))) (l__tokens : K.lookup p__tokens = some ⟨oc__tokens, od__tokens, .func (PySem.W.fnOf "_tokens" "_tokens" (defArgs s__tokens) (defBody s__tokens) (defScope s__tokens) .none kV__tokens dc__tokens pm__tokens an__tokens cd__tokens ct__tokens), sl__tokens⟩) (c__tokens : PySem.W.codeIn K cd__tokens "_tokens" = true) (k__tokens : PySem.W.keepIn K (.ref p__tokens) = true)
    {p__kind : Addr} {od__kind an__kind : Option Addr} {sl__kind : Array (Option Value)} {oc__kind kV__kind dc__kind pm__kind cd__kind ct__kind : Value}
    (a__kind : PySem.W.nsIn K mainGlobals "_kind" = some (some (.ref p__kind))) (l__kind : K.lookup p__kind = some ⟨oc__kind, od__kind, .func (PySem.W.fnOf "_kind" "_kind" (defArgs s__kind) (defBody s__kind) (defScope s__kind) .none kV__kind dc__kind pm__kind an__kind cd__kind ct__kind), sl__kind⟩) (c__kind : PySem.W.codeIn K cd__kind "_kind" = true) (k__kind : PySem.W.keepIn K (.ref p__kind) = true)
    {p__check : Addr} {od__check an__check : Option Addr} {sl__check : Array (Option Value)} {oc__check kV__check dc__check pm__check cd__check ct__check : Value}
    (a__check : PySem.W.nsIn K mainGlobals "_check" = some (some (.ref p__check))) (l__check : K.lookup p__check = some ⟨oc__check, od__check, .func (PySem.W.fnOf "_check" "_check" (defArgs s__check) (defBody s__check) (defScope s__check) .none kV__check dc__check pm__check an__check cd__check ct__check), sl__check⟩) (c__check : PySem.W.codeIn K cd__check "_check" = true) (k__check : PySem.W.keepIn K (.ref p__check) = true)
    {p__number_of : Addr} {od__number_of an__number_of : Option Addr} {sl__number_of : Array (Option Value)} {oc__number_of kV__number_of dc__number_of pm__number_of cd__number_of ct__number_of : Value}
    (a__number_of : PySem.W.nsIn K mainGlobals "_number_of" = some (some (.ref p__number_of))) (l__number_of : K.lookup p__number_of = some ⟨oc__number_of, od__number_of, .func (PySem.W.fnOf "_number_of" "_number_of" (defArgs s__number_of) (defBody s__number_of) (defScope s__number_of) .none kV__number_of dc__number_of pm__number_of an__number_of cd__number_of ct__number_of), sl__number_of⟩) (c__number_of : PySem.W.codeIn K cd__number_of "_number_of" = true) (k__number_of : PySem.W.keepIn K (.ref p__number_of) = true)
    {p__row_of : Addr} {od__row_of an__row_of : Option Addr} {sl__row_of : Array (Option Value)} {oc__row_of kV__row_of dc__row_of pm__row_of cd__row_of ct__row_of : Value}
    (a__row_of : PySem.W.nsIn K mainGlobals "_row_of" = some (some (.ref p__row_of))) (l__row_of : K.lookup p__row_of = some ⟨oc__row_of, od__row_of, .func (PySem.W.fnOf "_row_of" "_row_of" (defArgs s__row_of) (defBody s__row_of) (defScope s__row_of) .none kV__row_of dc__row_of pm__row_of an__row_of cd__row_of ct__row_of), sl__row_of⟩) (c__row_of : PySem.W.codeIn K cd__row_of "_row_of" = true) (k__row_of : PySem.W.keepIn K (.ref p__row_of) = true)
    {p_read_row : Addr} {od_read_row an_read_row : Option Addr} {sl_read_row : Array (Option Value)} {oc_read_row kV_read_row dc_read_row pm_read_row cd_read_row ct_read_row : Value}
    (a_read_row : PySem.W.nsIn K mainGlobals "read_row" = some (some (.ref p_read_row))) (l_read_row : K.lookup p_read_row = some ⟨oc_read_row, od_read_row, .func (PySem.W.fnOf "read_row" "read_row" (defArgs s_read_row) (defBody s_read_row) (defScope s_read_row) .none kV_read_row dc_read_row pm_read_row an_read_row cd_read_row ct_read_row), sl_read_row⟩) (c_read_row : PySem.W.codeIn K cd_read_row "read_row" = true) (k_read_row : PySem.W.keepIn K (.ref p_read_row) = true)
    {p__law_cell : Addr} {od__law_cell an__law_cell : Option Addr} {sl__law_cell : Array (Option Value)} {oc__law_cell kV__law_cell dc__law_cell pm__law_cell cd__law_cell ct__law_cell : Value}
    (a__law_cell : PySem.W.nsIn K mainGlobals "_law_cell" = some (some (.ref p__law_cell))) (l__law_cell : K.lookup p__law_cell = some ⟨oc__law_cell, od__law_cell, .func (PySem.W.fnOf "_law_cell" "_law_cell" (defArgs s__law_cell) (defBody s__law_cell) (defScope s__law_cell) .none kV__law_cell dc__law_cell pm__law_cell an__law_cell cd__law_cell ct__law_cell), sl__law_cell⟩) (c__law_cell : PySem.W.codeIn K cd__law_cell "_law_cell" = true) (k__law_cell : PySem.W.keepIn K (.ref p__law_cell) = true)
    {p__law_draw : Addr} {od__law_draw an__law_draw : Option Addr} {sl__law_draw : Array (Option Value)} {oc__law_draw kV__law_draw dc__law_draw pm__law_draw cd__law_draw ct__law_draw : Value}
    (a__law_draw : PySem.W.nsIn K mainGlobals "_law_draw" = some (some (.ref p__law_draw))) (l__law_draw : K.lookup p__law_draw = some ⟨oc__law_draw, od__law_draw, .func (PySem.W.fnOf "_law_draw" "_law_draw" (defArgs s__law_draw) (defBody s__law_draw) (defScope s__law_draw) .none kV__law_draw dc__law_draw pm__law_draw an__law_draw cd__law_draw ct__law_draw), sl__law_draw⟩) (c__law_draw : PySem.W.codeIn K cd__law_draw "_law_draw" = true) (k__law_draw : PySem.W.keepIn K (.ref p__law_draw) = true)
    {p__law_f : Addr} {od__law_f an__law_f : Option Addr} {sl__law_f : Array (Option Value)} {oc__law_f kV__law_f dc__law_f pm__law_f cd__law_f ct__law_f : Value}
    (a__law_f : PySem.W.nsIn K mainGlobals "_law_f" = some (some (.ref p__law_f))) (l__law_f : K.lookup p__law_f = some ⟨oc__law_f, od__law_f, .func (PySem.W.fnOf "_law_f" "_law_f" (defArgs s__law_f) (defBody s__law_f) (defScope s__law_f) .none kV__law_f dc__law_f pm__law_f an__law_f cd__law_f ct__law_f), sl__law_f⟩) (c__law_f : PySem.W.codeIn K cd__law_f "_law_f" = true) (k__law_f : PySem.W.keepIn K (.ref p__law_f) = true)
    {p__law_add : Addr} {od__law_add an__law_add : Option Addr} {sl__law_add : Array (Option Value)} {oc__law_add kV__law_add dc__law_add pm__law_add cd__law_add ct__law_add : Value}
    (a__law_add : PySem.W.nsIn K mainGlobals "_law_add" = some (some (.ref p__law_add))) (l__law_add : K.lookup p__law_add = some ⟨oc__law_add, od__law_add, .func (PySem.W.fnOf "_law_add" "_law_add" (defArgs s__law_add) (defBody s__law_add) (defScope s__law_add) .none kV__law_add dc__law_add pm__law_add an__law_add cd__law_add ct__law_add), sl__law_add⟩) (c__law_add : PySem.W.codeIn K cd__law_add "_law_add" = true) (k__law_add : PySem.W.keepIn K (.ref p__law_add) = true)
    {p__law_sub : Addr} {od__law_sub an__law_sub : Option Addr} {sl__law_sub : Array (Option Value)} {oc__law_sub kV__law_sub dc__law_sub pm__law_sub cd__law_sub ct__law_sub : Value}
    (a__law_sub : PySem.W.nsIn K mainGlobals "_law_sub" = some (some (.ref p__law_sub))) (l__law_sub : K.lookup p__law_sub = some ⟨oc__law_sub, od__law_sub, .func (PySem.W.fnOf "_law_sub" "_law_sub" (defArgs s__law_sub) (defBody s__law_sub) (defScope s__law_sub) .none kV__law_sub dc__law_sub pm__law_sub an__law_sub cd__law_sub ct__law_sub), sl__law_sub⟩) (c__law_sub : PySem.W.codeIn K cd__law_sub "_law_sub" = true) (k__law_sub : PySem.W.keepIn K (.ref p__law_sub) = true)
    {p__law_mul : Addr} {od__law_mul an__law_mul : Option Addr} {sl__law_mul : Array (Option Value)} {oc__law_mul kV__law_mul dc__law_mul pm__law_mul cd__law_mul ct__law_mul : Value}
    (a__law_mul : PySem.W.nsIn K mainGlobals "_law_mul" = some (some (.ref p__law_mul))) (l__law_mul : K.lookup p__law_mul = some ⟨oc__law_mul, od__law_mul, .func (PySem.W.fnOf "_law_mul" "_law_mul" (defArgs s__law_mul) (defBody s__law_mul) (defScope s__law_mul) .none kV__law_mul dc__law_mul pm__law_mul an__law_mul cd__law_mul ct__law_mul), sl__law_mul⟩) (c__law_mul : PySem.W.codeIn K cd__law_mul "_law_mul" = true) (k__law_mul : PySem.W.keepIn K (.ref p__law_mul) = true)
    {p__law_div : Addr} {od__law_div an__law_div : Option Addr} {sl__law_div : Array (Option Value)} {oc__law_div kV__law_div dc__law_div pm__law_div cd__law_div ct__law_div : Value}
    (a__law_div : PySem.W.nsIn K mainGlobals "_law_div" = some (some (.ref p__law_div))) (l__law_div : K.lookup p__law_div = some ⟨oc__law_div, od__law_div, .func (PySem.W.fnOf "_law_div" "_law_div" (defArgs s__law_div) (defBody s__law_div) (defScope s__law_div) .none kV__law_div dc__law_div pm__law_div an__law_div cd__law_div ct__law_div), sl__law_div⟩) (c__law_div : PySem.W.codeIn K cd__law_div "_law_div" = true) (k__law_div : PySem.W.keepIn K (.ref p__law_div) = true)
    {p__law_scaled : Addr} {od__law_scaled an__law_scaled : Option Addr} {sl__law_scaled : Array (Option Value)} {oc__law_scaled kV__law_scaled dc__law_scaled pm__law_scaled cd__law_scaled ct__law_scaled : Value}
    (a__law_scaled : PySem.W.nsIn K mainGlobals "_law_scaled" = some (some (.ref p__law_scaled))) (l__law_scaled : K.lookup p__law_scaled = some ⟨oc__law_scaled, od__law_scaled, .func (PySem.W.fnOf "_law_scaled" "_law_scaled" (defArgs s__law_scaled) (defBody s__law_scaled) (defScope s__law_scaled) .none kV__law_scaled dc__law_scaled pm__law_scaled an__law_scaled cd__law_scaled ct__law_scaled), sl__law_scaled⟩) (c__law_scaled : PySem.W.codeIn K cd__law_scaled "_law_scaled" = true) (k__law_scaled : PySem.W.keepIn K (.ref p__law_scaled) = true)
    {p__law_factor : Addr} {od__law_factor an__law_factor : Option Addr} {sl__law_factor : Array (Option Value)} {oc__law_factor kV__law_factor dc__law_factor pm__law_factor cd__law_factor ct__law_factor : Value}
    (a__law_factor : PySem.W.nsIn K mainGlobals "_law_factor" = some (some (.ref p__law_factor))) (l__law_factor : K.lookup p__law_factor = some ⟨oc__law_factor, od__law_factor, .func (PySem.W.fnOf "_law_factor" "_law_factor" (defArgs s__law_factor) (defBody s__law_factor) (defScope s__law_factor) .none kV__law_factor dc__law_factor pm__law_factor an__law_factor cd__law_factor ct__law_factor), sl__law_factor⟩) (c__law_factor : PySem.W.codeIn K cd__law_factor "_law_factor" = true) (k__law_factor : PySem.W.keepIn K (.ref p__law_factor) = true)
    {p__law_normal : Addr} {od__law_normal an__law_normal : Option Addr} {sl__law_normal : Array (Option Value)} {oc__law_normal kV__law_normal dc__law_normal pm__law_normal cd__law_normal ct__law_normal : Value}
    (a__law_normal : PySem.W.nsIn K mainGlobals "_law_normal" = some (some (.ref p__law_normal))) (l__law_normal : K.lookup p__law_normal = some ⟨oc__law_normal, od__law_normal, .func (PySem.W.fnOf "_law_normal" "_law_normal" (defArgs s__law_normal) (defBody s__law_normal) (defScope s__law_normal) .none kV__law_normal dc__law_normal pm__law_normal an__law_normal cd__law_normal ct__law_normal), sl__law_normal⟩) (c__law_normal : PySem.W.codeIn K cd__law_normal "_law_normal" = true) (k__law_normal : PySem.W.keepIn K (.ref p__law_normal) = true)
    {p__law_parts : Addr} {od__law_parts an__law_parts : Option Addr} {sl__law_parts : Array (Option Value)} {oc__law_parts kV__law_parts dc__law_parts pm__law_parts cd__law_parts ct__law_parts : Value}
    (a__law_parts : PySem.W.nsIn K mainGlobals "_law_parts" = some (some (.ref p__law_parts))) (l__law_parts : K.lookup p__law_parts = some ⟨oc__law_parts, od__law_parts, .func (PySem.W.fnOf "_law_parts" "_law_parts" (defArgs s__law_parts) (defBody s__law_parts) (defScope s__law_parts) .none kV__law_parts dc__law_parts pm__law_parts an__law_parts cd__law_parts ct__law_parts), sl__law_parts⟩) (c__law_parts : PySem.W.codeIn K cd__law_parts "_law_parts" = true) (k__law_parts : PySem.W.keepIn K (.ref p__law_parts) = true)
    {p__law_row : Addr} {od__law_row an__law_row : Option Addr} {sl__law_row : Array (Option Value)} {oc__law_row kV__law_row dc__law_row pm__law_row cd__law_row ct__law_row : Value}
    (a__law_row : PySem.W.nsIn K mainGlobals "_law_row" = some (some (.ref p__law_row))) (l__law_row : K.lookup p__law_row = some ⟨oc__law_row, od__law_row, .func (PySem.W.fnOf "_law_row" "_law_row" (defArgs s__law_row) (defBody s__law_row) (defScope s__law_row) .none kV__law_row dc__law_row pm__law_row an__law_row cd__law_row ct__law_row), sl__law_row⟩) (c__law_row : PySem.W.codeIn K cd__law_row "_law_row" = true) (k__law_row : PySem.W.keepIn K (.ref p__law_row) = true)
    {p__law_pairs : Addr} {od__law_pairs an__law_pairs : Option Addr} {sl__law_pairs : Array (Option Value)} {oc__law_pairs kV__law_pairs dc__law_pairs pm__law_pairs cd__law_pairs ct__law_pairs : Value}
    (a__law_pairs : PySem.W.nsIn K mainGlobals "_law_pairs" = some (some (.ref p__law_pairs))) (l__law_pairs : K.lookup p__law_pairs = some ⟨oc__law_pairs, od__law_pairs, .func (PySem.W.fnOf "_law_pairs" "_law_pairs" (defArgs s__law_pairs) (defBody s__law_pairs) (defScope s__law_pairs) .none kV__law_pairs dc__law_pairs pm__law_pairs an__law_pairs cd__law_pairs ct__law_pairs), sl__law_pairs⟩) (c__law_pairs : PySem.W.codeIn K cd__law_pairs "_law_pairs" = true) (k__law_pairs : PySem.W.keepIn K (.ref p__law_pairs) = true)
    {p__law_anyrow : Addr} {od__law_anyrow an__law_anyrow : Option Addr} {sl__law_anyrow : Array (Option Value)} {oc__law_anyrow kV__law_anyrow dc__law_anyrow pm__law_anyrow cd__law_anyrow ct__law_anyrow : Value}
    (a__law_anyrow : PySem.W.nsIn K mainGlobals "_law_anyrow" = some (some (.ref p__law_anyrow))) (l__law_anyrow : K.lookup p__law_anyrow = some ⟨oc__law_anyrow, od__law_anyrow, .func (PySem.W.fnOf "_law_anyrow" "_law_anyrow" (defArgs s__law_anyrow) (defBody s__law_anyrow) (defScope s__law_anyrow) .none kV__law_anyrow dc__law_anyrow pm__law_anyrow an__law_anyrow cd__law_anyrow ct__law_anyrow), sl__law_anyrow⟩) (c__law_anyrow : PySem.W.codeIn K cd__law_anyrow "_law_anyrow" = true) (k__law_anyrow : PySem.W.keepIn K (.ref p__law_anyrow) = true)
    {p__law_system : Addr} {od__law_system an__law_system : Option Addr} {sl__law_system : Array (Option Value)} {oc__law_system kV__law_system dc__law_system pm__law_system cd__law_system ct__law_system : Value}
    (a__law_system : PySem.W.nsIn K mainGlobals "_law_system" = some (some (.ref p__law_system))) (l__law_system : K.lookup p__law_system = some ⟨oc__law_system, od__law_system, .func (PySem.W.fnOf "_law_system" "_law_system" (defArgs s__law_system) (defBody s__law_system) (defScope s__law_system) .none kV__law_system dc__law_system pm__law_system an__law_system cd__law_system ct__law_system), sl__law_system⟩) (c__law_system : PySem.W.codeIn K cd__law_system "_law_system" = true) (k__law_system : PySem.W.keepIn K (.ref p__law_system) = true)
    {p__law_word : Addr} {od__law_word an__law_word : Option Addr} {sl__law_word : Array (Option Value)} {oc__law_word kV__law_word dc__law_word pm__law_word cd__law_word ct__law_word : Value}
    (a__law_word : PySem.W.nsIn K mainGlobals "_law_word" = some (some (.ref p__law_word))) (l__law_word : K.lookup p__law_word = some ⟨oc__law_word, od__law_word, .func (PySem.W.fnOf "_law_word" "_law_word" (defArgs s__law_word) (defBody s__law_word) (defScope s__law_word) .none kV__law_word dc__law_word pm__law_word an__law_word cd__law_word ct__law_word), sl__law_word⟩) (c__law_word : PySem.W.codeIn K cd__law_word "_law_word" = true) (k__law_word : PySem.W.keepIn K (.ref p__law_word) = true)
    {p__law_rowtext : Addr} {od__law_rowtext an__law_rowtext : Option Addr} {sl__law_rowtext : Array (Option Value)} {oc__law_rowtext kV__law_rowtext dc__law_rowtext pm__law_rowtext cd__law_rowtext ct__law_rowtext : Value}
    (a__law_rowtext : PySem.W.nsIn K mainGlobals "_law_rowtext" = some (some (.ref p__law_rowtext))) (l__law_rowtext : K.lookup p__law_rowtext = some ⟨oc__law_rowtext, od__law_rowtext, .func (PySem.W.fnOf "_law_rowtext" "_law_rowtext" (defArgs s__law_rowtext) (defBody s__law_rowtext) (defScope s__law_rowtext) .none kV__law_rowtext dc__law_rowtext pm__law_rowtext an__law_rowtext cd__law_rowtext ct__law_rowtext), sl__law_rowtext⟩) (c__law_rowtext : PySem.W.codeIn K cd__law_rowtext "_law_rowtext" = true) (k__law_rowtext : PySem.W.keepIn K (.ref p__law_rowtext) = true)
    {p__law_token : Addr} {od__law_token an__law_token : Option Addr} {sl__law_token : Array (Option Value)} {oc__law_token kV__law_token dc__law_token pm__law_token cd__law_token ct__law_token : Value}
    (a__law_token : PySem.W.nsIn K mainGlobals "_law_token" = some (some (.ref p__law_token))) (l__law_token : K.lookup p__law_token = some ⟨oc__law_token, od__law_token, .func (PySem.W.fnOf "_law_token" "_law_token" (defArgs s__law_token) (defBody s__law_token) (defScope s__law_token) .none kV__law_token dc__law_token pm__law_token an__law_token cd__law_token ct__law_token), sl__law_token⟩) (c__law_token : PySem.W.codeIn K cd__law_token "_law_token" = true) (k__law_token : PySem.W.keepIn K (.ref p__law_token) = true)
    {p__law_fault : Addr} {od__law_fault an__law_fault : Option Addr} {sl__law_fault : Array (Option Value)} {oc__law_fault kV__law_fault dc__law_fault pm__law_fault cd__law_fault ct__law_fault : Value}
    (a__law_fault : PySem.W.nsIn K mainGlobals "_law_fault" = some (some (.ref p__law_fault))) (l__law_fault : K.lookup p__law_fault = some ⟨oc__law_fault, od__law_fault, .func (PySem.W.fnOf "_law_fault" "_law_fault" (defArgs s__law_fault) (defBody s__law_fault) (defScope s__law_fault) .none kV__law_fault dc__law_fault pm__law_fault an__law_fault cd__law_fault ct__law_fault), sl__law_fault⟩) (c__law_fault : PySem.W.codeIn K cd__law_fault "_law_fault" = true) (k__law_fault : PySem.W.keepIn K (.ref p__law_fault) = true)
    {p__law_told : Addr} {od__law_told an__law_told : Option Addr} {sl__law_told : Array (Option Value)} {oc__law_told kV__law_told dc__law_told pm__law_told cd__law_told ct__law_told : Value}
    (a__law_told : PySem.W.nsIn K mainGlobals "_law_told" = some (some (.ref p__law_told))) (l__law_told : K.lookup p__law_told = some ⟨oc__law_told, od__law_told, .func (PySem.W.fnOf "_law_told" "_law_told" (defArgs s__law_told) (defBody s__law_told) (defScope s__law_told) .none kV__law_told dc__law_told pm__law_told an__law_told cd__law_told ct__law_told), sl__law_told⟩) (c__law_told : PySem.W.codeIn K cd__law_told "_law_told" = true) (k__law_told : PySem.W.keepIn K (.ref p__law_told) = true)
    {p_law : Addr} {od_law an_law : Option Addr} {sl_law : Array (Option Value)} {oc_law kV_law dc_law pm_law cd_law ct_law : Value}
    (a_law : PySem.W.nsIn K mainGlobals "law" = some (some (.ref p_law))) (l_law : K.lookup p_law = some ⟨oc_law, od_law, .func (PySem.W.fnOf "law" "law" (defArgs s_law) (defBody s_law) (defScope s_law) .none kV_law dc_law pm_law an_law cd_law ct_law), sl_law⟩) (c_law : PySem.W.codeIn K cd_law "law" = true) (k_law : PySem.W.keepIn K (.ref p_law) = true)
    (z_enumerate : PySem.W.nsIn K mainGlobals "enumerate" = some none)
    (z_int : PySem.W.nsIn K mainGlobals "int" = some none)
    (z_len : PySem.W.nsIn K mainGlobals "len" = some none)
    (z_max : PySem.W.nsIn K mainGlobals "max" = some none)
    (z_min : PySem.W.nsIn K mainGlobals "min" = some none)
    (z_range : PySem.W.nsIn K mainGlobals "range" = some none)
    (z_sorted : PySem.W.nsIn K mainGlobals "sorted" = some none)
    (z_str : PySem.W.nsIn K mainGlobals "str" = some none)
    (z_tuple : PySem.W.nsIn K mainGlobals "tuple" = some none)
    (z_gcd : PySem.W.nsIn K mainGlobals "gcd" = some (some (.builtin "math.gcd")))
    (z_lcm : PySem.W.nsIn K mainGlobals "lcm" = some (some (.builtin "math.lcm")))
    {C_NumberError : Addr} (a_NumberError : PySem.W.nsIn K mainGlobals "NumberError" = some (some (.ref C_NumberError))) (e_NumberError : PySem.W.excIn K C_NumberError [.type "ValueError", .type "Exception", .type "BaseException", .type "object"] "ValueError.__new__" = true) (k_NumberError : PySem.W.keepIn K (.ref C_NumberError) = true) (b_NumberError : PySem.W.subIn K (.ref C_NumberError) (.type "BaseException") = some true) (t_NumberError : PySem.W.typeIn K (.ref C_NumberError) = some (.type "type")) (i_NumberError : PySem.W.isClsIn K C_NumberError = true) (s_NumberError : PySem.W.subIn K (.ref C_NumberError) (.ref C_NumberError) = some true)
    {C_TextError fI_TextError : Addr} {nm_TextError q_TextError : Str} {N_TextError : Addr} {bs_TextError bm_TextError : List Value} {sn_TextError : List Str} {sub_TextError : List Value} {ab_TextError : Bool} {col_TextError : Option Bool} {dd_TextError : Option Addr} {m0_TextError m1_TextError m2_TextError m3_TextError m5_TextError : Option Value} {oi_TextError ai_TextError : Option Addr} {si_TextError : Array (Option Value)} {oc_TextError kV_TextError dc_TextError pm_TextError cd_TextError ct_TextError : Value}
    (a_TextError : PySem.W.nsIn K mainGlobals "TextError" = some (some (.ref C_TextError))) (v_TextError : K.lookup C_TextError = some (excClassObj nm_TextError q_TextError C_TextError N_TextError bs_TextError bm_TextError true sn_TextError sub_TextError ab_TextError col_TextError dd_TextError m0_TextError m1_TextError m2_TextError m3_TextError m5_TextError "ValueError.__new__")) (w_TextError : PySem.HandSPX.refsVE bm_TextError = true)
    (f_TextError : PySem.W.findIn K (.ref C_TextError) "__setattr__" = some (some (.builtin "object.__setattr__"))) (b_TextError : PySem.W.subIn K (.ref C_TextError) (.type "BaseException") = some true) (t_TextError : PySem.W.typeIn K (.ref C_TextError) = some (.type "type")) (k_TextError : PySem.W.keepIn K (.ref C_TextError) = true) (g_TextError : PySem.W.findIn K (.ref C_TextError) "__getattribute__" = some (some (.builtin "BaseException.__getattribute__"))) (h_TextError : PySem.W.findIn K (.ref C_TextError) "__getattr__" = some none) (d_TextError : PySem.W.hasDictIn K C_TextError = true) (j_TextError : PySem.W.findIn K (.ref C_TextError) "__init__" = some (some (.ref fI_TextError))) (u_TextError : PySem.W.typeIn K (.ref fI_TextError) = some (.type "function"))
    (n0_TextError : PySem.W.findIn K (.ref C_TextError) "place" = some none)
    (n1_TextError : PySem.W.findIn K (.ref C_TextError) "what" = some none)
    (i_TextError : PySem.W.isClsIn K C_TextError = true) (s_TextError : PySem.W.subIn K (.ref C_TextError) (.ref C_TextError) = some true)
    (l_TextError : K.lookup fI_TextError = some ⟨oc_TextError, oi_TextError, .func (PySem.W.fnOf "__init__" "TextError.__init__" (defArgs ini_TextError) (defBody ini_TextError) (defScope ini_TextError) .none kV_TextError dc_TextError pm_TextError ai_TextError cd_TextError ct_TextError), si_TextError⟩) (c_TextError : PySem.W.codeIn K cd_TextError "TextError.__init__" = true) (o_TextError : PySem.W.keepIn K (.ref fI_TextError) = true)
    {p__BEHIND : Addr} {es__BEHIND : Array DictEntry} {n__BEHIND : Nat}
    (a__BEHIND : PySem.W.nsIn K mainGlobals "_BEHIND" = some (some (.ref p__BEHIND))) (l__BEHIND : K.lookup p__BEHIND = some ⟨.type "dict", none, .dict es__BEHIND n__BEHIND, #[]⟩) (q__BEHIND : PySem.W.KeysLit w.params es__BEHIND.toList) (r__BEHIND : (p__BEHIND == sysModules) = false)
    {p__BEHIND_0 : Addr} {sl__BEHIND_0 : Array (Option Value)} {n__BEHIND_0 : Nat} {t__BEHIND_0_0 t__BEHIND_0_1 t__BEHIND_0_2 t__BEHIND_0_3 : Tok}
    (g__BEHIND_0 : PySem.W.nsIn K p__BEHIND "number" = some (some (.ref p__BEHIND_0))) (l__BEHIND_0 : K.lookup p__BEHIND_0 = some ⟨.type "tuple", none, .seq #[.str "unknown" t__BEHIND_0_0, .str "+" t__BEHIND_0_1, .str "-" t__BEHIND_0_2, .str "sign" t__BEHIND_0_3] n__BEHIND_0, sl__BEHIND_0⟩)
    {p__BEHIND_1 : Addr} {sl__BEHIND_1 : Array (Option Value)} {n__BEHIND_1 : Nat} {t__BEHIND_1_0 t__BEHIND_1_1 t__BEHIND_1_2 : Tok}
    (g__BEHIND_1 : PySem.W.nsIn K p__BEHIND "unknown" = some (some (.ref p__BEHIND_1))) (l__BEHIND_1 : K.lookup p__BEHIND_1 = some ⟨.type "tuple", none, .seq #[.str "+" t__BEHIND_1_0, .str "-" t__BEHIND_1_1, .str "sign" t__BEHIND_1_2] n__BEHIND_1, sl__BEHIND_1⟩)
    {p__BEHIND_2 : Addr} {sl__BEHIND_2 : Array (Option Value)} {n__BEHIND_2 : Nat} {t__BEHIND_2_0 t__BEHIND_2_1 : Tok}
    (g__BEHIND_2 : PySem.W.nsIn K p__BEHIND "+" = some (some (.ref p__BEHIND_2))) (l__BEHIND_2 : K.lookup p__BEHIND_2 = some ⟨.type "tuple", none, .seq #[.str "number" t__BEHIND_2_0, .str "unknown" t__BEHIND_2_1] n__BEHIND_2, sl__BEHIND_2⟩)
    {p__BEHIND_3 : Addr} {sl__BEHIND_3 : Array (Option Value)} {n__BEHIND_3 : Nat} {t__BEHIND_3_0 t__BEHIND_3_1 : Tok}
    (g__BEHIND_3 : PySem.W.nsIn K p__BEHIND "-" = some (some (.ref p__BEHIND_3))) (l__BEHIND_3 : K.lookup p__BEHIND_3 = some ⟨.type "tuple", none, .seq #[.str "number" t__BEHIND_3_0, .str "unknown" t__BEHIND_3_1] n__BEHIND_3, sl__BEHIND_3⟩)
    {p__BEHIND_4 : Addr} {sl__BEHIND_4 : Array (Option Value)} {n__BEHIND_4 : Nat} {t__BEHIND_4_0 t__BEHIND_4_1 t__BEHIND_4_2 : Tok}
    (g__BEHIND_4 : PySem.W.nsIn K p__BEHIND "sign" = some (some (.ref p__BEHIND_4))) (l__BEHIND_4 : K.lookup p__BEHIND_4 = some ⟨.type "tuple", none, .seq #[.str "number" t__BEHIND_4_0, .str "unknown" t__BEHIND_4_1, .str "-" t__BEHIND_4_2] n__BEHIND_4, sl__BEHIND_4⟩)
    {p__TURNED : Addr} {es__TURNED : Array DictEntry} {n__TURNED : Nat} {t__TURNED_0 t__TURNED_1 : Tok}
    (a__TURNED : PySem.W.nsIn K mainGlobals "_TURNED" = some (some (.ref p__TURNED))) (l__TURNED : K.lookup p__TURNED = some ⟨.type "dict", none, .dict es__TURNED n__TURNED, #[]⟩) (q__TURNED : PySem.W.KeysLit w.params es__TURNED.toList) (r__TURNED : (p__TURNED == sysModules) = false)
    (g0__TURNED : PySem.W.nsIn K p__TURNED ">=" = some (some (.str "<=" t__TURNED_0)))
    (g1__TURNED : PySem.W.nsIn K p__TURNED ">" = some (some (.str "<" t__TURNED_1)))
    (m0__TURNED : PySem.W.nsIn K p__TURNED "<=" = some none)
    (m1__TURNED : PySem.W.nsIn K p__TURNED "<" = some none)
    (m2__TURNED : PySem.W.nsIn K p__TURNED "=" = some none)
    {t_DIGITS_0 : Tok}
    (a_DIGITS : PySem.W.nsIn K mainGlobals "DIGITS" = some (some (.int 6 t_DIGITS_0)))
    {t_LETTERS_0 : Tok}
    (a_LETTERS : PySem.W.nsIn K mainGlobals "LETTERS" = some (some (.int 8 t_LETTERS_0)))
    {p_MINUS_ONE : Addr} {sl_MINUS_ONE : Array (Option Value)} {n_MINUS_ONE : Nat} {t_MINUS_ONE_0 t_MINUS_ONE_1 : Tok}
    (a_MINUS_ONE : PySem.W.nsIn K mainGlobals "MINUS_ONE" = some (some (.ref p_MINUS_ONE))) (l_MINUS_ONE : K.lookup p_MINUS_ONE = some ⟨.type "tuple", none, .seq #[.int (-1) t_MINUS_ONE_0, .int 1 t_MINUS_ONE_1] n_MINUS_ONE, sl_MINUS_ONE⟩)
    {p_ONE : Addr} {sl_ONE : Array (Option Value)} {n_ONE : Nat} {t_ONE_0 t_ONE_1 : Tok}
    (a_ONE : PySem.W.nsIn K mainGlobals "ONE" = some (some (.ref p_ONE))) (l_ONE : K.lookup p_ONE = some ⟨.type "tuple", none, .seq #[.int 1 t_ONE_0, .int 1 t_ONE_1] n_ONE, sl_ONE⟩)
    {p_ZERO : Addr} {sl_ZERO : Array (Option Value)} {n_ZERO : Nat} {t_ZERO_0 t_ZERO_1 : Tok}
    (a_ZERO : PySem.W.nsIn K mainGlobals "ZERO" = some (some (.ref p_ZERO))) (l_ZERO : K.lookup p_ZERO = some ⟨.type "tuple", none, .seq #[.int 0 t_ZERO_0, .int 1 t_ZERO_1] n_ZERO, sl_ZERO⟩)
    {t__DIGIT_CHARS_0 : Tok}
    (a__DIGIT_CHARS : PySem.W.nsIn K mainGlobals "_DIGIT_CHARS" = some (some (.str "0123456789" t__DIGIT_CHARS_0)))
    {t__LETTER_CHARS_0 : Tok}
    (a__LETTER_CHARS : PySem.W.nsIn K mainGlobals "_LETTER_CHARS" = some (some (.str "abcdefghijklmnopqrstuvwxyz" t__LETTER_CHARS_0))) :
    ∃ fd : FuncData, (∀ (s : Shared) (v : Value), BindsTo s fd ⟨[v], []⟩ [("script", v)]) ∧ ∀ base : Heap, K.In base → base.Ns mainGlobals mg → FnOk P w K mg base (L2.CX P w) 9 fa fd ["script"] (spLaw K) := by
  obtain ⟨fd, hb, F⟩ := o_law (P := P) (w := w) (txt_mk X G a_number l_number c_number k_number a_plus l_plus c_plus k_plus a_minus l_minus c_minus k_minus a_times l_times c_times k_times a_compare l_compare c_compare k_compare a_whole_factor l_whole_factor c_whole_factor k_whole_factor a_added_up l_added_up c_added_up k_added_up a_multiplied l_multiplied c_multiplied k_multiplied a_normal_factor l_normal_factor c_normal_factor k_normal_factor a_normal l_normal c_normal k_normal a_row l_row c_row k_row a__run_end l__run_end c__run_end k__run_end a__digits_end l__digits_end c__digits_end k__digits_end a__number_end l__number_end c__number_end k__number_end a__token_end l__token_end c__token_end k__token_end a__is_cut_off l__is_cut_off c__is_cut_off k__is_cut_off a__tokens l__tokens c__tokens k__tokens a__kind l__kind c__kind k__kind a__check l__check c__check k__check a__number_of l__number_of c__number_of k__number_of a__row_of l__row_of c__row_of k__row_of a_read_row l_read_row c_read_row k_read_row a__law_cell l__law_cell c__law_cell k__law_cell a__law_draw l__law_draw c__law_draw k__law_draw a__law_f l__law_f c__law_f k__law_f a__law_add l__law_add c__law_add k__law_add a__law_sub l__law_sub c__law_sub k__law_sub a__law_mul l__law_mul c__law_mul k__law_mul a__law_div l__law_div c__law_div k__law_div a__law_scaled l__law_scaled c__law_scaled k__law_scaled a__law_factor l__law_factor c__law_factor k__law_factor a__law_normal l__law_normal c__law_normal k__law_normal a__law_parts l__law_parts c__law_parts k__law_parts a__law_row l__law_row c__law_row k__law_row a__law_pairs l__law_pairs c__law_pairs k__law_pairs a__law_anyrow l__law_anyrow c__law_anyrow k__law_anyrow a__law_system l__law_system c__law_system k__law_system a__law_word l__law_word c__law_word k__law_word a__law_rowtext l__law_rowtext c__law_rowtext k__law_rowtext a__law_token l__law_token c__law_token k__law_token a__law_fault l__law_fault c__law_fault k__law_fault a__law_told l__law_told c__law_told k__law_told a_law l_law c_law k_law z_enumerate z_int z_len z_max z_min z_range z_sorted z_str z_tuple z_gcd z_lcm a_NumberError e_NumberError k_NumberError b_NumberError t_NumberError i_NumberError s_NumberError a_TextError v_TextError w_TextError f_TextError b_TextError t_TextError k_TextError g_TextError h_TextError d_TextError j_TextError u_TextError n0_TextError n1_TextError i_TextError s_TextError l_TextError c_TextError o_TextError a__BEHIND l__BEHIND q__BEHIND r__BEHIND g__BEHIND_0 l__BEHIND_0 g__BEHIND_1 l__BEHIND_1 g__BEHIND_2 l__BEHIND_2 g__BEHIND_3 l__BEHIND_3 g__BEHIND_4 l__BEHIND_4 a__TURNED l__TURNED q__TURNED r__TURNED g0__TURNED g1__TURNED m0__TURNED m1__TURNED m2__TURNED a_DIGITS a_LETTERS a_MINUS_ONE l_MINUS_ONE a_ONE l_ONE a_ZERO l_ZERO a__DIGIT_CHARS a__LETTER_CHARS) hl hfa
  exact ⟨fd, hb, fun base _ _ => F base⟩
end G_k09
namespace DL
open PySem PySem.Spec PyProof.Rows L2 RT
noncomputable def PG.S_opposites : Rho → Out := (seqS (asgS (varF 0) (tupT 3 (consTs (nameT 1) (consTs (nameT 2) (consTs (nameT 3) nilTs))))) (seqS (ifS (testF (binF dEq (varF 2) (cF (.str "<=")))) (retS (lstF (consA (callF PG.m_row (consA (varF 1) (consA (cF (.str ">")) (consA (varF 3) nilA)))) nilA))) nxS) (seqS (ifS (testF (binF dEq (varF 2) (cF (.str "<")))) (retS (lstF (consA (callF PG.m_row (consA (varF 1) (consA (cF (.str ">=")) (consA (varF 3) nilA)))) nilA))) nxS) (retS (lstF (consA (callF PG.m_row (consA (varF 1) (consA (cF (.str "<")) (consA (varF 3) nilA)))) (consA (callF PG.m_row (consA (varF 1) (consA (cF (.str ">")) (consA (varF 3) nilA)))) nilA)))))))
end DL
namespace DL
open PySem PySem.Spec PyProof.Rows L2 RT
structure Made (r : Rw) (ps : List Pt) (sg : Str) (b : Qn) : Prop where
  eq : r = rowM ps sg b
  sg : Sgn sg
  prt : ∀ p ∈ ps, Sz 150 p.2 ∧ Nam p.1
  cn : ∀ x, cnt x ps ≤ 1
  bd : Sz 150 b
  low : Low b
section
variable {ps : List Pt} {b : Qn} {sg : Str} (c : List PyData → PyData) (hc : c = PyData.list ∨ c = PyData.tuple) (h : ∀ p ∈ ps, Sz 150 p.2) (hb : Sz 150 b) (lb : Low b) (hl : ps.length ≤ 3)
include hc h hb lb hl
end
section
variable {r : Rw} (h : Good r)
include h
end
def hB (pt : List Pt) (r : Rw) : Bool := holdsR r.2.1 (rv (atM (look pt) r.1 (0, 1))) (rv r.2.2)
end DL
namespace DL
open PySem PySem.Spec PyProof.Rows L2 RT
noncomputable def PG.L__run_end_1 : Rho → Out := (augS 4 (fun i j => i + j) (cF (.int 1)))
noncomputable def PG.S__run_end : Rho → Out := (seqS (asgS (varF 1) (nameT 4)) (seqS (whileS (andT (testF (binF dLt (varF 4) (appF (app1 bLen) (consA (varF 0) nilA)))) (andT (testF (binF dLt (binF dSub (varF 4) (varF 1)) (varF 3))) (testF (binF dIn3 (binF dIx (varF 0) (varF 4)) (varF 2))))) PG.L__run_end_1) (retS (varF 4))))
noncomputable def PG.B__run_end (a0 a1 a2 a3 : PyData) : FR := outFR (PG.S__run_end [.d a0, .d a1, .d a2, .d a3, .un])
noncomputable def PG.m__run_end : Fn := fn4 PG.B__run_end
noncomputable def PG.S__digits_end : Rho → Out := (seqS (ifS (testF (binF dEq (binF dIx (varF 0) (varF 1)) (cF (.str "0")))) (retS (binF dAdd (varF 1) (cF (.int 1)))) nxS) (retS (callF PG.m__run_end (consA (varF 0) (consA (varF 1) (consA (cF (.str "0123456789")) (consA (cF (.int 6)) nilA)))))))
noncomputable def PG.B__digits_end (a0 a1 : PyData) : FR := outFR (PG.S__digits_end [.d a0, .d a1])
noncomputable def PG.m__digits_end : Fn := fn2 PG.B__digits_end
noncomputable def PG.S__number_end : Rho → Out := (seqS (asgS (callF PG.m__digits_end (consA (varF 0) (consA (varF 1) nilA))) (nameT 2)) (seqS (asgS (cutF (varF 0) (someP (binF dAdd (varF 2) (cF (.int 1)))) (someP (binF dAdd (varF 2) (cF (.int 2))))) (nameT 3)) (seqS (ifS (andT (testF (binF dEq (cutF (varF 0) (someP (varF 2)) (someP (binF dAdd (varF 2) (cF (.int 1))))) (cF (.str "/")))) (andT (testF (binF dNe (varF 3) (cF (.str "")))) (andT (testF (binF dIn3 (varF 3) (cF (.str "0123456789")))) (testF (binF dNe (varF 3) (cF (.str "0"))))))) (retS (callF PG.m__digits_end (consA (varF 0) (consA (binF dAdd (varF 2) (cF (.int 1))) nilA)))) nxS) (retS (varF 2)))))
noncomputable def PG.B__number_end (a0 a1 : PyData) : FR := outFR (PG.S__number_end [.d a0, .d a1, .un, .un])
noncomputable def PG.m__number_end : Fn := fn2 PG.B__number_end
noncomputable def PG.S__token_end : Rho → Out := (seqS (ifS (testF (binF dIn3 (binF dIx (varF 0) (varF 1)) (cF (.str "0123456789")))) (retS (callF PG.m__number_end (consA (varF 0) (consA (varF 1) nilA)))) nxS) (seqS (ifS (testF (binF dIn3 (binF dIx (varF 0) (varF 1)) (cF (.str "abcdefghijklmnopqrstuvwxyz")))) (retS (callF PG.m__run_end (consA (varF 0) (consA (varF 1) (consA (binF dAdd (cF (.str "abcdefghijklmnopqrstuvwxyz")) (cF (.str "0123456789"))) (consA (cF (.int 8)) nilA)))))) nxS) (seqS (ifS (testF (binF dIn3 (cutF (varF 0) (someP (varF 1)) (someP (binF dAdd (varF 1) (cF (.int 2))))) (tupF (consA (cF (.str "<=")) (consA (cF (.str ">=")) nilA))))) (retS (binF dAdd (varF 1) (cF (.int 2)))) nxS) (seqS (ifS (testF (binF dIn3 (binF dIx (varF 0) (varF 1)) (cF (.str "+-<=>")))) (retS (binF dAdd (varF 1) (cF (.int 1)))) nxS) (retS (varF 1))))))
noncomputable def PG.B__token_end (a0 a1 : PyData) : FR := outFR (PG.S__token_end [.d a0, .d a1])
noncomputable def PG.m__token_end : Fn := fn2 PG.B__token_end
noncomputable def PG.S__is_cut_off : Rho → Out := (seqS (ifS (testF (binF dEq (varF 2) (appF (app1 bLen) (consA (varF 0) nilA)))) (retS (cF (.bool false))) nxS) (seqS (ifS (testF (binF dIn3 (binF dIx (varF 0) (varF 1)) (cF (.str "abcdefghijklmnopqrstuvwxyz")))) (retS (orV (binF dIn3 (binF dIx (varF 0) (varF 2)) (cF (.str "abcdefghijklmnopqrstuvwxyz"))) (binF dIn3 (binF dIx (varF 0) (varF 2)) (cF (.str "0123456789"))))) nxS) (retS (andV (binF dIn3 (binF dIx (varF 0) (varF 1)) (cF (.str "0123456789"))) (binF dIn3 (binF dIx (varF 0) (varF 2)) (cF (.str "0123456789")))))))
noncomputable def PG.B__is_cut_off (a0 a1 a2 : PyData) : FR := outFR (PG.S__is_cut_off [.d a0, .d a1, .d a2])
noncomputable def PG.m__is_cut_off : Fn := fn3 PG.B__is_cut_off
noncomputable def PG.L__tokens_1 : Rho → Out := (seqS (ifS (testF (binF dEq (binF dIx (varF 0) (varF 2)) (cF (.str " ")))) (seqS (augS 2 (fun i j => i + j) (cF (.int 1))) .ct) nxS) (seqS (asgS (callF PG.m__token_end (consA (varF 0) (consA (varF 2) nilA))) (nameT 3)) (seqS (ifS (testF (binF dEq (varF 3) (varF 2))) (retS (tupF (consA (varF 1) (consA (varF 2) nilA)))) nxS) (seqS (appendS 1 (tupF (consA (varF 2) (consA (cutF (varF 0) (someP (varF 2)) (someP (varF 3))) nilA)))) (seqS (ifS (truF (callF PG.m__is_cut_off (consA (varF 0) (consA (varF 2) (consA (varF 3) nilA))))) (retS (tupF (consA (varF 1) (consA (varF 3) nilA)))) nxS) (asgS (varF 3) (nameT 2)))))))
noncomputable def PG.S__tokens : Rho → Out := (seqS (ownS nilA 1) (seqS (asgS (cF (.int 0)) (nameT 2)) (seqS (whileS (testF (binF dLt (varF 2) (appF (app1 bLen) (consA (varF 0) nilA)))) PG.L__tokens_1) (retS (tupF (consA (varF 1) (consA (cF (.none)) nilA)))))))
noncomputable def PG.B__tokens (a0 : PyData) : FR := outFR (PG.S__tokens [.d a0, .un, .un, .un])
noncomputable def PG.m__tokens : Fn := fn1 PG.B__tokens
noncomputable def PG.S__kind : Rho → Out := (seqS (ifS (testF (binF dIn3 (binF dIx (varF 0) (cF (.int 0))) (cF (.str "0123456789")))) (retS (cF (.str "number"))) nxS) (seqS (ifS (testF (binF dIn3 (binF dIx (varF 0) (cF (.int 0))) (cF (.str "abcdefghijklmnopqrstuvwxyz")))) (retS (cF (.str "unknown"))) nxS) (seqS (ifS (testF (binF dIn3 (varF 0) (tupF (consA (cF (.str "+")) (consA (cF (.str "-")) nilA))))) (retS (varF 0)) nxS) (retS (cF (.str "sign"))))))
noncomputable def PG.B__kind (a0 : PyData) : FR := outFR (PG.S__kind [.d a0])
noncomputable def PG.m__kind : Fn := fn1 PG.B__kind
noncomputable def PG.L__check_1 : Rho → Out := (seqS (asgS (callF PG.m__kind (consA (varF 6) nilA)) (nameT 7)) (seqS (ifS (orT (testF (binF dNotIn3 (varF 7) (ixGF [("number", .tuple [.str "unknown", .str "+", .str "-", .str "sign"]), ("unknown", .tuple [.str "+", .str "-", .str "sign"]), ("+", .tuple [.str "number", .str "unknown"]), ("-", .tuple [.str "number", .str "unknown"]), ("sign", .tuple [.str "number", .str "unknown", .str "-"])] (varF 3)))) (andT (testF (binF dEq (varF 7) (cF (.str "sign")))) (testF (binF dEq (varF 4) (cF (.int 1)))))) (raiseA "TextError" ["place", "what"] (consA (varF 5) (consA (cF (.str "not expected")) nilA))) nxS) (seqS (ifS (testF (binF dEq (varF 7) (cF (.str "sign")))) (augS 4 (fun i j => i + j) (cF (.int 1))) nxS) (asgS (varF 7) (nameT 3)))))
noncomputable def PG.S__check : Rho → Out := (seqS (asgS (tupF (consA (cF (.str "sign")) (consA (cF (.int 0)) nilA))) (tupT 2 (consTs (nameT 3) (consTs (nameT 4) nilTs)))) (seqS (forS (itemsQ (varF 1)) (tupT 2 (consTs (nameT 5) (consTs (nameT 6) nilTs))) PG.L__check_1) (seqS (ifS (testF (binF dNotN2 (varF 2) (cF (.none)))) (raiseA "TextError" ["place", "what"] (consA (varF 2) (consA (cF (.str "not a token")) nilA))) nxS) (ifS (orT (testF (binF dEq (varF 4) (cF (.int 0)))) (testF (binF dNotIn3 (varF 3) (tupF (consA (cF (.str "number")) (consA (cF (.str "unknown")) nilA)))))) (raiseA "TextError" ["place", "what"] (consA (appF (app1 bLen) (consA (varF 0) nilA)) (consA (cF (.str "not finished")) nilA))) nxS))))
noncomputable def PG.B__check (a0 a1 a2 : PyData) : FR := outFR (PG.S__check [.d a0, .d a1, .d a2, .un, .un, .un, .un, .un])
noncomputable def PG.m__check : Fn := fn3 PG.B__check
noncomputable def PG.S__number_of : Rho → Out := (seqS (part3S (varF 0) (cF (.str "/")) (consTs (nameT 1) (consTs (nameT 2) (consTs (nameT 3) nilTs)))) (retS (callF PG.m_number (consA (appF (app1 bInt) (consA (varF 1) nilA)) (consA (appF (app1 bInt) (consA (orL (varF 3) (cF (.str "1"))) nilA)) nilA)))))
noncomputable def PG.B__number_of (a0 : PyData) : FR := outFR (PG.S__number_of [.d a0, .un, .un, .un])
noncomputable def PG.m__number_of : Fn := fn1 PG.B__number_of
noncomputable def PG.L__row_of_1 : Rho → Out := (seqS (asgS (callF PG.m__kind (consA (varF 7) nilA)) (nameT 8)) (ifS (testF (binF dEq (varF 8) (cF (.str "sign")))) (seqS (asgS (varF 7) (nameT 2)) (asg2S (cF (.tuple [.int (-1), .int 1])) 4 5)) (ifS (testF (binF dEq (varF 8) (cF (.str "unknown")))) (appendS 1 (tupF (consA (varF 7) (consA (varF 5) nilA)))) (ifS (testF (binF dEq (varF 8) (cF (.str "number")))) (seqS (asgS (callF PG.m_times (consA (varF 5) (consA (callF PG.m__number_of (consA (varF 7) nilA)) nilA))) (nameT 5)) (ifS (orT (testF (binF dEq (binF dAdd (varF 6) (cF (.int 1))) (appF (app1 bLen) (consA (varF 0) nilA)))) (testF (binF dNe (callF PG.m__kind (consA (binF dIx (varF 0) (binF dAdd (varF 6) (cF (.int 1)))) nilA)) (cF (.str "unknown"))))) (asgS (callF PG.m_minus (consA (varF 3) (consA (varF 5) nilA))) (nameT 3)) nxS)) (asgS (ifF (testF (binF dEq (varF 7) (cF (.str "+")))) (varF 4) (callF PG.m_times (consA (varF 4) (consA (cF (.tuple [.int (-1), .int 1])) nilA)))) (nameT 5))))))
noncomputable def PG.S__row_of : Rho → Out := (seqS (par3T 1 2 3 "" (.tuple [.int 0, .int 1])) (seqS (asg2S (cF (.tuple [.int 1, .int 1])) 4 5) (seqS (forP (enumF (varF 0)) (consTs (nameT 6) (consTs (nameT 7) nilTs)) PG.L__row_of_1) (retS (callF PG.m_row (consA (varF 1) (consA (varF 2) (consA (varF 3) nilA))))))))
noncomputable def PG.B__row_of (a0 : PyData) : FR := outFR (PG.S__row_of [.d a0, .un, .un, .un, .un, .un, .un, .un, .un])
noncomputable def PG.m__row_of : Fn := fn1 PG.B__row_of
noncomputable def PG.S_read_row : Rho → Out := (seqS (asgS (callF PG.m__tokens (consA (varF 0) nilA)) (tupT 2 (consTs (nameT 1) (consTs (nameT 2) nilTs)))) (seqS (dropS (callF PG.m__check (consA (varF 0) (consA (varF 1) (consA (varF 2) nilA))))) (retS (callF PG.m__row_of (consA (lcF [3, 4] (itemsQ (varF 1)) (tupT 2 (consTs (nameT 3) (consTs (nameT 4) nilTs))) yesT (varF 4)) nilA)))))
noncomputable def PG.B_read_row (a0 : PyData) : FR := outFR (PG.S_read_row [.d a0, .un, .un, .un, .un])
noncomputable def PG.m_read_row : Fn := fn1 PG.B_read_row
noncomputable def LH.S_word : Rho → Out := (seqS (ifS (testF (binF dEq (binF dIx (varF 0) (cF (.int 1))) (cF (.int 1)))) (retS (appF (app1 bStr) (consA (binF dIx (varF 0) (cF (.int 0))) nilA))) nxS) (retS (binF dAdd (binF dAdd (appF (app1 bStr) (consA (binF dIx (varF 0) (cF (.int 0))) nilA)) (cF (.str "/"))) (appF (app1 bStr) (consA (binF dIx (varF 0) (cF (.int 1))) nilA)))))
noncomputable def LH.B_word (a0 : PyData) : FR := outFR (LH.S_word [.d a0])
noncomputable def LH.m_word : Fn := fn1 LH.B_word
noncomputable def LH.L_rowtext_1 : Rho → Out := (seqS (asgS (callF lm_f (consA (appF (app2 bMax) (consA (binF dIx (varF 3) (cF (.int 0))) (consA (unF dNeg (binF dIx (varF 3) (cF (.int 0)))) nilA))) (consA (binF dIx (varF 3) (cF (.int 1))) nilA))) (nameT 4)) (seqS (asgS (varF 2) (nameT 5)) (seqS (ifS (testF (binF dNe (varF 4) (tupF (consA (cF (.int 1)) (consA (cF (.int 1)) nilA))))) (asgS (binF dAdd (binF dAdd (callF LH.m_word (consA (varF 4) nilA)) (cF (.str " "))) (varF 2)) (nameT 5)) nxS) (seqS (ifS (andT (testF (binF dEq (lenO 1) (cF (.int 0)))) (testF (binF dLt (binF dIx (varF 3) (cF (.int 0))) (cF (.int 0))))) (asgS (binF dAdd (cF (.str "-")) (varF 5)) (nameT 5)) (ifS (testF (binF dGt (lenO 1) (cF (.int 0)))) (appendS 1 (binF dIx (cF (.str "+-")) (appF (app1 bInt) (consA (binF dLt (binF dIx (varF 3) (cF (.int 0))) (cF (.int 0))) nilA)))) nxS)) (appendS 1 (varF 5))))))
noncomputable def LH.S_rowtext : Rho → Out := (seqS (ownS nilA 1) (seqS (forS (itemsQ (binF dIx (varF 0) (cF (.int 0)))) (tupT 2 (consTs (nameT 2) (consTs (nameT 3) nilTs))) LH.L_rowtext_1) (seqS (ifS (testF (binF dEq (lenO 1) (cF (.int 0)))) (ownS (consA (cF (.str "0")) nilA) 1) nxS) (retS (m1F dJoin (cF (.str " ")) (binF dAdd (varF 1) (lstF (consA (binF dIx (varF 0) (cF (.int 1))) (consA (callF LH.m_word (consA (binF dIx (varF 0) (cF (.int 2))) nilA)) nilA)))))))))
noncomputable def LH.B_rowtext (a0 : PyData) : FR := outFR (LH.S_rowtext [.d a0, .un, .un, .un, .un, .un])
noncomputable def LH.L_token_1 : Rho → Out := (asgS (binF dAdd (varF 3) (cF (.int 1))) (nameT 3))
noncomputable def LH.L_token_2 : Rho → Out := (asgS (binF dAdd (varF 4) (cF (.int 1))) (nameT 4))
noncomputable def LH.L_token_3 : Rho → Out := (asgS (binF dAdd (varF 3) (cF (.int 1))) (nameT 3))
noncomputable def LH.S_token : Rho → Out := (seqS (asgS (cF (.str "abcdefghijklmnopqrstuvwxyz")) (nameT 2)) (seqS (ifS (testF (binF dIn3 (binF dIx (varF 0) (varF 1)) (cF (.str "0123456789")))) (seqS (asgS (binF dAdd (varF 1) (cF (.int 1))) (nameT 3)) (seqS (whileS (andT (testF (binF dLt (varF 3) (appF (app1 bLen) (consA (varF 0) nilA)))) (andT (testF (binF dIn3 (binF dIx (varF 0) (varF 3)) (cF (.str "0123456789")))) (andT (testF (binF dNe (binF dIx (varF 0) (varF 1)) (cF (.str "0")))) (testF (binF dLt (varF 3) (binF dAdd (varF 1) (cF (.int 6)))))))) LH.L_token_1) (seqS (ifS (andT (testF (binF dLt (binF dAdd (varF 3) (cF (.int 1))) (appF (app1 bLen) (consA (varF 0) nilA)))) (andT (testF (binF dEq (binF dIx (varF 0) (varF 3)) (cF (.str "/")))) (testF (binF dIn3 (binF dIx (varF 0) (binF dAdd (varF 3) (cF (.int 1)))) (cF (.str "123456789")))))) (seqS (asgS (binF dAdd (varF 3) (cF (.int 2))) (nameT 4)) (seqS (whileS (andT (testF (binF dLt (varF 4) (appF (app1 bLen) (consA (varF 0) nilA)))) (andT (testF (binF dIn3 (binF dIx (varF 0) (varF 4)) (cF (.str "0123456789")))) (testF (binF dLt (varF 4) (binF dAdd (varF 3) (cF (.int 7))))))) LH.L_token_2) (asgS (varF 4) (nameT 3)))) nxS) (retS (tupF (consA (cF (.str "number")) (consA (varF 3) (consA (andV (binF dLt (varF 3) (appF (app1 bLen) (consA (varF 0) nilA))) (orV (binF dIn3 (binF dIx (varF 0) (varF 3)) (cF (.str "0123456789"))) (binF dEq (binF dIx (varF 0) (varF 3)) (cF (.str "/"))))) nilA)))))))) nxS) (seqS (ifS (testF (binF dIn3 (binF dIx (varF 0) (varF 1)) (varF 2))) (seqS (asgS (binF dAdd (varF 1) (cF (.int 1))) (nameT 3)) (seqS (whileS (andT (testF (binF dLt (varF 3) (appF (app1 bLen) (consA (varF 0) nilA)))) (andT (testF (binF dIn3 (binF dIx (varF 0) (varF 3)) (binF dAdd (varF 2) (cF (.str "0123456789"))))) (testF (binF dLt (varF 3) (binF dAdd (varF 1) (cF (.int 8))))))) LH.L_token_3) (retS (tupF (consA (cF (.str "name")) (consA (varF 3) (consA (andV (binF dLt (varF 3) (appF (app1 bLen) (consA (varF 0) nilA))) (binF dIn3 (binF dIx (varF 0) (varF 3)) (binF dAdd (varF 2) (cF (.str "0123456789"))))) nilA))))))) nxS) (seqS (ifS (testF (binF dIn3 (cutF (varF 0) (someP (varF 1)) (someP (binF dAdd (varF 1) (cF (.int 2))))) (lstF (consA (cF (.str "<=")) (consA (cF (.str ">=")) nilA))))) (retS (tupF (consA (cF (.str "sign")) (consA (binF dAdd (varF 1) (cF (.int 2))) (consA (cF (.bool false)) nilA))))) nxS) (seqS (ifS (testF (binF dIn3 (binF dIx (varF 0) (varF 1)) (cF (.str "<>=")))) (retS (tupF (consA (cF (.str "sign")) (consA (binF dAdd (varF 1) (cF (.int 1))) (consA (cF (.bool false)) nilA))))) nxS) (seqS (ifS (testF (binF dIn3 (binF dIx (varF 0) (varF 1)) (cF (.str "+-")))) (retS (tupF (consA (binF dIx (varF 0) (varF 1)) (consA (binF dAdd (varF 1) (cF (.int 1))) (consA (cF (.bool false)) nilA))))) nxS) (retS (tupF (consA (cF (.str "bad")) (consA (varF 1) (consA (cF (.bool true)) nilA)))))))))))
noncomputable def LH.B_token (a0 a1 : PyData) : FR := outFR (LH.S_token [.d a0, .d a1, .un, .un, .un])
noncomputable def LH.m_token : Fn := fn2 LH.B_token
noncomputable def LH.L_fault_1 : Rho → Out := (asgS (binF dAdd (varF 3) (cF (.int 1))) (nameT 3))
noncomputable def LH.L_fault_2 : Rho → Out := (seqS (whileS (andT (testF (binF dLt (varF 3) (appF (app1 bLen) (consA (varF 0) nilA)))) (testF (binF dEq (binF dIx (varF 0) (varF 3)) (cF (.str " "))))) LH.L_fault_1) (ifS (testF (binF dLt (varF 3) (appF (app1 bLen) (consA (varF 0) nilA)))) (seqS (asgS (callF LH.m_token (consA (varF 0) (consA (varF 3) nilA))) (tupT 3 (consTs (nameT 6) (consTs (nameT 7) (consTs (nameT 8) nilTs))))) (seqS (ifS (testF (binF dEq (varF 6) (cF (.str "bad")))) (retS (tupF (consA (varF 3) (consA (cF (.str "not a token")) nilA)))) nxS) (seqS (asgS (cF (.none)) (nameT 5)) (seqS (ifS (andT (testF (binF dIn3 (varF 1) (lstF (consA (cF (.str "side")) (consA (cF (.str "item")) (consA (cF (.str "coefficient")) nilA)))))) (testF (binF dEq (varF 6) (cF (.str "name"))))) (asgS (cF (.str "done")) (nameT 5)) nxS) (seqS (ifS (andT (testF (binF dIn3 (varF 1) (lstF (consA (cF (.str "side")) (consA (cF (.str "item")) nilA))))) (testF (binF dEq (varF 6) (cF (.str "number"))))) (asgS (cF (.str "coefficient")) (nameT 5)) nxS) (seqS (ifS (andT (testF (binF dEq (varF 1) (cF (.str "side")))) (testF (binF dEq (varF 6) (cF (.str "-"))))) (asgS (cF (.str "item")) (nameT 5)) nxS) (seqS (ifS (andT (testF (binF dIn3 (varF 1) (lstF (consA (cF (.str "done")) (consA (cF (.str "coefficient")) nilA))))) (testF (binF dIn3 (varF 6) (lstF (consA (cF (.str "+")) (consA (cF (.str "-")) nilA)))))) (asgS (cF (.str "item")) (nameT 5)) nxS) (seqS (ifS (andT (testF (binF dIn3 (varF 1) (lstF (consA (cF (.str "done")) (consA (cF (.str "coefficient")) nilA))))) (andT (testF (binF dEq (varF 6) (cF (.str "sign")))) (testF (binF dEq (varF 2) (cF (.int 0)))))) (seqS (asgS (cF (.str "side")) (nameT 5)) (asgS (cF (.int 1)) (nameT 2))) nxS) (seqS (ifS (testF (binF dIsN2 (varF 5) (cF (.none)))) (retS (tupF (consA (varF 3) (consA (cF (.str "not expected")) nilA)))) nxS) (seqS (ifS (truF (varF 8)) (retS (tupF (consA (varF 7) (consA (cF (.str "not a token")) nilA)))) nxS) (seqS (asgS (varF 5) (nameT 1)) (asgS (varF 7) (nameT 3))))))))))))) nxS))
noncomputable def LH.S_fault : Rho → Out := (seqS (asgS (cF (.str "side")) (nameT 1)) (seqS (asgS (cF (.int 0)) (nameT 2)) (seqS (asgS (cF (.int 0)) (nameT 3)) (seqS (forS (range1F (consA (binF dAdd (appF (app1 bLen) (consA (varF 0) nilA)) (cF (.int 1))) nilA)) (nameT 4) LH.L_fault_2) (seqS (ifS (orT (testF (binF dEq (varF 2) (cF (.int 0)))) (testF (binF dIn3 (varF 1) (lstF (consA (cF (.str "side")) (consA (cF (.str "item")) nilA)))))) (retS (tupF (consA (appF (app1 bLen) (consA (varF 0) nilA)) (consA (cF (.str "not finished")) nilA)))) nxS) (retS (cF (.none))))))))
noncomputable def LH.B_fault (a0 : PyData) : FR := outFR (LH.S_fault [.d a0, .un, .un, .un, .un, .un, .un, .un, .un])
noncomputable def LH.S_told : Rho → Out := (seqS (tryX (ct1 "TextError") 1 (dropS (callF PG.m_read_row (consA (varF 0) nilA))) (fun e_ => (retS (tupF (consA (fldF 1 "place" e_) (consA (fldF 1 "what" e_) nilA)))))) (retS (cF (.none))))
noncomputable def LH.B_told (a0 : PyData) : FR := outFR (LH.S_told [.d a0, .un])
end DL
namespace DL
open PySem PySem.Spec PyProof.Rows L2 RT
abbrev ch (c : Nat) : Str := ⟨#[c]⟩
structure TOk (t : Str) : Prop where
  len : t.cps.toList.length ≤ 10000
  cps : ∀ c ∈ t.cps.toList, c < 0x110000
theorem strLen (t : Str) : t.length = t.cps.toList.length := by
  simp [Str.length]
theorem ix_ch {t : Str} (h : TOk t) {p c : Nat} (e : t.cps.toList[p]? = some c) : dIx (.str t) (.int (p : Int)) = some (.str (ch c)) := by
  show (if t.length ≤ sizeLine then (atI t.cps.toList (p : Int)).map fun c => PyData.str ⟨#[c]⟩ else none) = _
  rw [if_pos (by rw [strLen, sizeLine_eq]; have := h.len; omega), atI_nat e]
  rfl
theorem ok_ch {c : Nat} (h : c < 0x110000) : PySem.PyData.strOk (ch c) = true := by
  simp [PySem.PyData.strOk, h]
def inC (chars : Str) (c : Nat) : Bool := hasS (ch c) chars
theorem in_ch {chars : Str} {c : Nat} : dIn3 (.str (ch c)) (.str chars) = some (.bool (inC chars c)) := id rfl
def runL (chars : Str) : List Nat → Nat → Nat
  | [], _ => 0
  | _ :: _, 0 => 0
  | c :: cs, m + 1 => if inC chars c = true then runL chars cs m + 1 else 0
theorem runL_le (chars : Str) : ∀ (cs : List Nat) (m : Nat), runL chars cs m ≤ cs.length
  | [], _ => Nat.le_refl _
  | _ :: _, 0 => Nat.zero_le _
  | c :: cs, m + 1 => by
    have := runL_le chars cs m
    unfold runL
    split
    · simp only [List.length_cons]; omega
    · exact Nat.zero_le _
theorem bLen_s {t : Str} (h : TOk t) : bLen (.str t) = some (.int (t.cps.toList.length : Int)) := by
  show (if t.length ≤ sizeLine then some (PyData.int t.length) else none) = _
  rw [if_pos (by rw [strLen, sizeLine_eq]; have := h.len; omega), strLen]
theorem run_while {t chars : Str} (h : TOk t) {p most : Nat} : ∀ (k e : Nat), k + e = t.cps.toList.length → p ≤ e →
    whileS (andT (testF (binF dLt (varF 4) (appF (app1 bLen) (consA (varF 0) nilA)))) (andT (testF (binF dLt (binF dSub (varF 4) (varF 1)) (varF 3))) (testF (binF dIn3 (binF dIx (varF 0) (varF 4)) (varF 2))))) PG.L__run_end_1 [.d (.str t), .d (.int (p : Int)), .d (.str chars), .d (.int (most : Int)), .d (.int (e : Int))] =
      .nx [.d (.str t), .d (.int (p : Int)), .d (.str chars), .d (.int (most : Int)), .d (.int ((e + runL chars (t.cps.toList.drop e) (most - (e - p)) : Nat) : Int))] := by
  intro k
  induction k with
  | zero =>
    intro e he hp
    rw [whileS_eq]
    have hd : t.cps.toList.drop e = [] := List.drop_eq_nil_of_le (by omega)
    have hn : ¬ ((e : Int) < (t.cps.toList.length : Int)) := by omega
    simp only [hd, runL, Nat.add_zero]
    simp [-Array.length_toList, bLen_s h, hn]
  | succ k ih =>
    intro e he hp
    have hl : e < t.cps.toList.length := by omega
    have hc : t.cps.toList[e]? = some t.cps.toList[e] := List.getElem?_eq_getElem hl
    have hd := List.drop_eq_getElem_cons hl
    have hlt : (e : Int) < (t.cps.toList.length : Int) := by omega
    rw [whileS_eq, hd]
    generalize t.cps.toList[e] = c at hc hd
    by_cases hm : e - p < most
    · have hm1 : (e : Int) - (p : Int) < (most : Int) := by omega
      obtain ⟨m', hm'⟩ : ∃ m', most - (e - p) = m' + 1 := ⟨most - (e - p) - 1, by omega⟩
      have hm2 : most - (e + 1 - p) = m' := by omega
      rw [hm']
      unfold runL
      cases hi : inC chars c with
      | true =>
        have z := ih (e + 1) (by omega) (by omega)
        rw [hm2] at z
        have cast : ((e + 1 : Nat) : Int) = (e : Int) + 1 := by omega
        rw [cast] at z
        simp [-Array.length_toList, bLen_s h, hlt, hm1, ix_ch h hc, in_ch, hi, PG.L__run_end_1]
        simp only [PG.L__run_end_1] at z
        rw [z]
        simp only [Out.nx.injEq, List.cons.injEq, Ent.d.injEq, PyData.int.injEq, and_true, true_and]
        omega
      | false =>
        simp [-Array.length_toList, bLen_s h, hlt, hm1, ix_ch h hc, in_ch, hi]
    · have hm1 : ¬ ((e : Int) - (p : Int) < (most : Int)) := by omega
      have hm2 : most - (e - p) = 0 := by omega
      rw [hm2]
      unfold runL
      simp [-Array.length_toList, bLen_s h, hlt, hm1]
theorem pg_run_end {t chars : Str} (h : TOk t) {p most : Nat} (hp : p ≤ t.cps.toList.length) : PG.B__run_end (.str t) (.int (p : Int)) (.str chars) (.int (most : Int)) = .ok (.int ((p + runL chars (t.cps.toList.drop p) most : Nat) : Int)) := by
  have z := run_while h (chars := chars) (p := p) (most := most) (t.cps.toList.length - p) p (by omega) (Nat.le_refl _)
  rw [Nat.sub_self, Nat.sub_zero] at z
  simp only [PG.B__run_end, PG.S__run_end]
  simp [z]
end DL
namespace DL
open PySem PySem.Spec PyProof.Rows L2 RT
def DIGS : Str := "0123456789"
def LETS : Str := "abcdefghijklmnopqrstuvwxyz"
def OPSC : Str := "+-<=>"
def digE (cs : List Nat) : Nat := match cs with
  | [] => 0
  | c :: _ => if c = 48 then 1 else runL DIGS cs 6
theorem eq_ch {c d : Nat} (hc : c < 0x110000) (hd : d < 0x110000) : dEq (.str (ch c)) (.str (ch d)) = some (.bool (decide (c = d))) := by
  rw [dEq_s (ok_ch hc) (ok_ch hd)]
  congr 2
  rw [Bool.eq_iff_iff]
  simp
theorem ne_ch {c d : Nat} (hc : c < 0x110000) (hd : d < 0x110000) : dNe (.str (ch c)) (.str (ch d)) = some (.bool (!decide (c = d))) := by
  rw [dNe_s (ok_ch hc) (ok_ch hd)]
  congr 2
  rw [Bool.eq_iff_iff]
  simp
theorem s48 : ("0" : Str) = ch 48 := by decide
theorem s32 : (" " : Str) = ch 32 := by decide
theorem s47 : ("/" : Str) = ch 47 := by decide
theorem pg_digits_end {t : Str} (h : TOk t) {p : Nat} (hp : p < t.cps.toList.length) : PG.B__digits_end (.str t) (.int (p : Int)) = .ok (.int ((p + digE (t.cps.toList.drop p) : Nat) : Int)) := by
  have hc : t.cps.toList[p]? = some t.cps.toList[p] := List.getElem?_eq_getElem hp
  have hd := List.drop_eq_getElem_cons hp
  have hm := h.cps _ (List.getElem_mem hp)
  have r := pg_run_end h (chars := DIGS) (p := p) (most := 6) (by omega)
  have r' : PG.m__run_end [.str t, .int (p : Int), .str "0123456789", .int 6] = _ := r
  rw [hd] at r' ⊢
  generalize t.cps.toList[p] = c at hc hd hm r' ⊢
  by_cases h0 : c = 48
  · subst h0
    have e := eq_ch (c := 48) (d := 48) (by decide) (by decide)
    simp [PG.B__digits_end, PG.S__digits_end, ix_ch h hc, s48, e, digE]
  · have e := eq_ch (c := c) (d := 48) hm (by decide)
    simp [PG.B__digits_end, PG.S__digits_end, ix_ch h hc, s48, e, h0, r', digE]
end DL
namespace DL
open PySem PySem.Spec PyProof.Rows L2 RT
theorem cut_s {t : Str} (h : TOk t) {a k : Nat} (ha : a ≤ t.cps.toList.length) : dCut (.str t) (some (a : Int)) (some ((a : Int) + (k : Int))) = some (.str ⟨((t.cps.toList.drop a).take k).toArray⟩) := by
  have e : cutS t (some (a : Int)) (some ((a : Int) + (k : Int))) = ⟨((t.cps.toList.drop a).take k).toArray⟩ := by
    unfold cutS
    rw [show (a : Int) + (k : Int) = ((a + k : Nat) : Int) by omega, HT.sIx_nat, HT.sIx_nat, strLen]
    rw [Nat.min_eq_left ha]
    congr 2
    by_cases hk : a + k ≤ t.cps.toList.length
    · rw [Nat.min_eq_left hk]
      congr 1
      omega
    · rw [Nat.min_eq_right (by omega), List.take_of_length_le (by rw [List.length_drop]; omega), List.take_of_length_le (by rw [List.length_drop]; omega)]
  show (if t.length ≤ sizeLine then some (PyData.str (cutS t (some (a : Int)) (some ((a : Int) + (k : Int))))) else none) = _
  rw [if_pos (by rw [strLen, sizeLine_eq]; have := h.len; omega), e]
theorem ok_emp : PySem.PyData.strOk ⟨#[]⟩ = true := by decide +kernel
def numE (cs : List Nat) : Nat := match cs.drop (digE cs) with
  | c :: d :: _ => if c = 47 ∧ inC DIGS d = true ∧ d ≠ 48 then digE cs + 1 + digE (cs.drop (digE cs + 1)) else digE cs
  | _ => digE cs
theorem digE_le (cs : List Nat) : digE cs ≤ cs.length := by
  unfold digE
  cases cs with
  | nil => exact Nat.le_refl _
  | cons c cs =>
    split
    · rename_i h; cases h
    · split
      · simp only [List.length_cons]; omega
      · exact runL_le _ _ _
theorem pg_number_end {t : Str} (h : TOk t) {p : Nat} (hp : p < t.cps.toList.length) : PG.B__number_end (.str t) (.int (p : Int)) = .ok (.int ((p + numE (t.cps.toList.drop p) : Nat) : Int)) := by
  have d1 : PG.m__digits_end [.str t, .int (p : Int)] = .ok (.int ((p + digE (t.cps.toList.drop p) : Nat) : Int)) := pg_digits_end h hp
  have hle := digE_le (t.cps.toList.drop p)
  rw [List.length_drop] at hle
  have dd : (t.cps.toList.drop p).drop (digE (t.cps.toList.drop p)) = t.cps.toList.drop (p + digE (t.cps.toList.drop p)) := List.drop_drop
  have dd1 : (t.cps.toList.drop p).drop (digE (t.cps.toList.drop p) + 1) = t.cps.toList.drop (p + digE (t.cps.toList.drop p) + 1) := by rw [List.drop_drop]; rfl
  unfold numE
  rw [dd, dd1]
  generalize hk : digE (t.cps.toList.drop p) = k at *
  obtain ⟨e, he⟩ : ∃ e, e = p + k := ⟨_, rfl⟩
  rw [← he]
  rw [← he] at d1
  have e1 : e ≤ t.cps.toList.length := by omega
  have c1 := cut_s h (a := e) (k := 1) e1
  rw [show ((e : Int) + ((1 : Nat) : Int)) = (e : Int) + 1 from rfl] at c1
  have fold : p + k = e := he.symm
  cases hr : t.cps.toList.drop e with
  | nil =>
    have hl : t.cps.toList.length ≤ e := by
      have := congrArg List.length hr
      rw [List.length_drop, List.length_nil] at this
      omega
    rw [hr] at c1
    have c1' : dCut (.str t) (some (e : Int)) (some ((e : Int) + 1)) = some (.str ⟨#[]⟩) := c1
    have e2 : dCut (.str t) (some ((e : Int) + 1)) (some ((e : Int) + 2)) = some (.str ⟨#[]⟩) := by
      show (if t.length ≤ sizeLine then some (PyData.str (cutS t _ _)) else none) = _
      rw [if_pos (by rw [strLen, sizeLine_eq]; have := h.len; omega)]
      congr 2
      unfold cutS
      rw [show (e : Int) + 1 = ((e + 1 : Nat) : Int) by omega, show (e : Int) + 2 = ((e + 2 : Nat) : Int) by omega, HT.sIx_nat, HT.sIx_nat, strLen, Nat.min_eq_right (show t.cps.toList.length ≤ e + 1 by omega), Nat.min_eq_right (show t.cps.toList.length ≤ e + 2 by omega), Nat.sub_self]
      simp
    have q : dEq (.str ⟨#[]⟩) (.str "/") = some (.bool false) := by
      rw [dEq_s ok_emp (by decide +kernel)]
      rfl
    simp [PG.B__number_end, PG.S__number_end, d1, cutF_apc, someP_apc, c1', e2, q, fold]
  | cons c r =>
    have hl : e < t.cps.toList.length := by
      have := congrArg List.length hr
      rw [List.length_drop, List.length_cons] at this
      omega
    have hm : c < 0x110000 := h.cps c (by
      have : c ∈ t.cps.toList.drop e := by rw [hr]; exact List.mem_cons_self
      exact List.mem_of_mem_drop this)
    rw [hr] at c1
    have c1' : dCut (.str t) (some (e : Int)) (some ((e : Int) + 1)) = some (.str (ch c)) := c1
    have c2 := cut_s h (a := e + 1) (k := 1) (by omega)
    have hr2 : t.cps.toList.drop (e + 1) = r := by
      have : (t.cps.toList.drop e).drop 1 = r := by rw [hr]; rfl
      rw [List.drop_drop] at this
      exact this
    rw [show (((e + 1 : Nat) : Int) + ((1 : Nat) : Int)) = (e : Int) + 2 by omega, show ((e + 1 : Nat) : Int) = (e : Int) + 1 by omega, hr2] at c2
    have q1 := eq_ch (c := c) (d := 47) hm (by decide)
    rw [← s47] at q1
    cases r with
    | nil =>
      have c2' : dCut (.str t) (some ((e : Int) + 1)) (some ((e : Int) + 2)) = some (.str ⟨#[]⟩) := c2
      have q2 : dNe (.str ⟨#[]⟩) (.str "") = some (.bool false) := by
        rw [dNe_s ok_emp (by decide +kernel)]
        rfl
      by_cases hc : c = 47
      · subst hc
        simp [PG.B__number_end, PG.S__number_end, d1, cutF_apc, someP_apc, c1', c2', q1, q2, fold]
      · simp [PG.B__number_end, PG.S__number_end, d1, cutF_apc, someP_apc, c1', c2', q1, q2, fold, hc]
    | cons d r =>
      have hm2 : d < 0x110000 := h.cps d (by
        have : d ∈ t.cps.toList.drop (e + 1) := by rw [hr2]; exact List.mem_cons_self
        exact List.mem_of_mem_drop this)
      have c2' : dCut (.str t) (some ((e : Int) + 1)) (some ((e : Int) + 2)) = some (.str (ch d)) := c2
      have q2 : dNe (.str (ch d)) (.str "") = some (.bool true) := by
        rw [dNe_s (ok_ch hm2) (by decide +kernel)]
        rfl
      have q3 := ne_ch (c := d) (d := 48) hm2 (by decide)
      rw [← s48] at q3
      have q4 : dIn3 (.str (ch d)) (.str "0123456789") = some (.bool (inC DIGS d)) := in_ch
      have d2 : PG.m__digits_end [.str t, .int (((e + 1 : Nat)) : Int)] = .ok (.int ((e + 1 + digE (t.cps.toList.drop (e + 1)) : Nat) : Int)) := pg_digits_end h (by
        have := congrArg List.length hr2
        rw [List.length_drop, List.length_cons] at this
        omega)
      rw [show ((e + 1 : Nat) : Int) = (e : Int) + 1 by omega] at d2
      by_cases hc : c = 47
      · subst hc
        cases hi : inC DIGS d with
        | false => simp [PG.B__number_end, PG.S__number_end, d1, cutF_apc, someP_apc, c1', c2', q1, q2, q4, fold, hi]
        | true =>
          by_cases h48 : d = 48
          · subst h48
            simp [PG.B__number_end, PG.S__number_end, d1, cutF_apc, someP_apc, c1', c2', q1, q2, q3, q4, fold, hi]
          · simp [PG.B__number_end, PG.S__number_end, d1, d2, cutF_apc, someP_apc, c1', c2', q1, q2, q3, q4, hi, h48]
            omega
      · simp [PG.B__number_end, PG.S__number_end, d1, cutF_apc, someP_apc, c1', c2', q1, q2, fold, hc]
end DL
namespace DL
open PySem PySem.Spec PyProof.Rows L2 RT
def ALNUM : Str := "abcdefghijklmnopqrstuvwxyz0123456789"
def is2 (c : Nat) (r : List Nat) : Bool := match r with
  | d :: _ => (c == 60 || c == 62) && d == 61
  | [] => false
def tokE (cs : List Nat) : Nat := match cs with
  | [] => 0
  | c :: r => if inC DIGS c = true then numE (c :: r) else if inC LETS c = true then runL ALNUM (c :: r) 8 else if is2 c r = true then 2 else if inC OPSC c = true then 1 else 0
theorem in_two {s : Str} (h : PySem.PyData.strOk s = true) : dIn3 (.str s) (.tuple [.str "<=", .str ">="]) = some (.bool (("<=" == s) || (">=" == s))) := by
  show (if SeqAt.shaped (.str s) = true ∧ SeqAt.shaped (.tuple [.str "<=", .str ">="]) = true then some (PyData.bool ([PyData.str "<=", .str ">="].any fun z => PyData.eqv z (.str s))) else none) = _
  have hs : SeqAt.shaped (.str s) = true := by
    simp [SeqAt.shaped, PyData.canLay0, PyData.depth, h]
  rw [if_pos ⟨hs, by decide +kernel⟩]
  simp [PyData.eqv]
theorem alnum_add : dAdd (.str "abcdefghijklmnopqrstuvwxyz") (.str "0123456789") = some (.str ALNUM) := by
  show (if (("abcdefghijklmnopqrstuvwxyz" : Str)).length + (("0123456789" : Str)).length ≤ sizeLine then some (PyData.str (("abcdefghijklmnopqrstuvwxyz" : Str) ++ ("0123456789" : Str))) else none) = _
  rw [if_pos (by rw [sizeLine_eq]; decide +kernel)]
  congr 2
end DL
namespace DL
open PySem PySem.Spec PyProof.Rows L2 RT
theorem sle : ("<=" : Str) = ⟨#[60, 61]⟩ := by decide
theorem sge : (">=" : Str) = ⟨#[62, 61]⟩ := by decide
theorem two_is {c : Nat} {r : List Nat} : (("<=" == (⟨((c :: r).take 2).toArray⟩ : Str)) || (">=" == (⟨((c :: r).take 2).toArray⟩ : Str))) = is2 c r := by
  rw [sle, sge, Bool.eq_iff_iff]
  cases r with
  | nil => simp [is2]
  | cons d r =>
    simp [is2]
    omega
theorem ok_take {cs : List Nat} (h : ∀ c ∈ cs, c < 0x110000) (k : Nat) : PySem.PyData.strOk ⟨(cs.take k).toArray⟩ = true := by
  simp [PySem.PyData.strOk]
  intro c hc
  exact h c (List.mem_of_mem_take hc)
theorem pg_token_end {t : Str} (h : TOk t) {p : Nat} (hp : p < t.cps.toList.length) : PG.B__token_end (.str t) (.int (p : Int)) = .ok (.int ((p + tokE (t.cps.toList.drop p) : Nat) : Int)) := by
  have hc : t.cps.toList[p]? = some t.cps.toList[p] := List.getElem?_eq_getElem hp
  have hd := List.drop_eq_getElem_cons hp
  have n1 : PG.m__number_end [.str t, .int (p : Int)] = _ := pg_number_end h hp
  have r1 : PG.m__run_end [.str t, .int (p : Int), .str ALNUM, .int 8] = _ := pg_run_end h (chars := ALNUM) (p := p) (most := 8) (by omega)
  have c1 := cut_s h (a := p) (k := 2) (by omega)
  have hk : PySem.PyData.strOk ⟨((t.cps.toList.drop p).take 2).toArray⟩ = true := ok_take (fun c hc => h.cps c (List.mem_of_mem_drop hc)) 2
  rw [hd] at n1 r1 c1 hk ⊢
  generalize t.cps.toList[p] = c at hc hd n1 r1 c1 hk ⊢
  generalize t.cps.toList.drop (p + 1) = r at hd n1 r1 c1 hk ⊢
  have q1 : dIn3 (.str (ch c)) (.str "0123456789") = some (.bool (inC DIGS c)) := in_ch
  have q2 : dIn3 (.str (ch c)) (.str "abcdefghijklmnopqrstuvwxyz") = some (.bool (inC LETS c)) := in_ch
  have q3 : dIn3 (.str (ch c)) (.str "+-<=>") = some (.bool (inC OPSC c)) := in_ch
  have q4 := in_two hk
  rw [two_is] at q4
  have c1' : dCut (.str t) (some (p : Int)) (some ((p : Int) + 2)) = some (.str ⟨((c :: r).take 2).toArray⟩) := c1
  cases h1 : inC DIGS c with
  | true => simp [PG.B__token_end, PG.S__token_end, ix_ch h hc, q1, h1, n1, tokE]
  | false =>
    cases h2 : inC LETS c with
    | true =>
      simp [PG.B__token_end, PG.S__token_end, ix_ch h hc, q1, q2, h1, h2, alnum_add, r1, tokE]
    | false =>
      cases h3 : is2 c r with
      | true => simp [PG.B__token_end, PG.S__token_end, ix_ch h hc, q1, q2, h1, h2, h3, cutF_apc, someP_apc, c1', q4, tokE, -List.take_succ_cons]
      | false =>
        cases h4 : inC OPSC c <;> simp [PG.B__token_end, PG.S__token_end, ix_ch h hc, q1, q2, q3, h1, h2, h3, h4, cutF_apc, someP_apc, c1', q4, tokE, -List.take_succ_cons]
theorem dEq_ii (a b : Int) : dEq (.int a) (.int b) = some (.bool (a == b)) := by
  show (if SeqAt.shaped (.int a) = true ∧ SeqAt.shaped (.int b) = true then some (PyData.bool (PyData.eqv (.int a) (.int b))) else none) = _
  rw [if_pos ⟨rfl, rfl⟩]
  simp [PyData.eqv]
def cutE (cs : List Nat) (k : Nat) : Bool := match cs, cs.drop k with
  | c :: _, d :: _ => if inC LETS c = true then inC LETS d || inC DIGS d else inC DIGS c && inC DIGS d
  | _, _ => false
theorem pg_is_cut_off {t : Str} (h : TOk t) {p k : Nat} (hp : p < t.cps.toList.length) (hk : p + k ≤ t.cps.toList.length) : PG.B__is_cut_off (.str t) (.int (p : Int)) (.int ((p + k : Nat) : Int)) = .ok (.bool (cutE (t.cps.toList.drop p) k)) := by
  have hc : t.cps.toList[p]? = some t.cps.toList[p] := List.getElem?_eq_getElem hp
  have hd := List.drop_eq_getElem_cons hp
  have dd : (t.cps.toList.drop p).drop k = t.cps.toList.drop (p + k) := List.drop_drop
  unfold cutE
  rw [dd]
  rw [hd]
  generalize t.cps.toList[p] = c at hc hd ⊢
  generalize he : p + k = e at *
  by_cases hl : e = t.cps.toList.length
  · have e0 : t.cps.toList.drop e = [] := List.drop_eq_nil_of_le (by omega)
    rw [e0]
    have e1 : ((e : Int) = (t.cps.toList.length : Int)) := by omega
    simp [-Array.length_toList, PG.B__is_cut_off, PG.S__is_cut_off, bLen_s h, hl, dEq_ii]
  · have hl2 : e < t.cps.toList.length := by omega
    have hc2 : t.cps.toList[e]? = some t.cps.toList[e] := List.getElem?_eq_getElem hl2
    rw [List.drop_eq_getElem_cons hl2]
    generalize t.cps.toList[e] = d at hc2 ⊢
    have e1 : ¬ ((e : Int) = (t.cps.toList.length : Int)) := by omega
    have q1 : dIn3 (.str (ch c)) (.str "0123456789") = some (.bool (inC DIGS c)) := in_ch
    have q2 : dIn3 (.str (ch c)) (.str "abcdefghijklmnopqrstuvwxyz") = some (.bool (inC LETS c)) := in_ch
    have q3 : dIn3 (.str (ch d)) (.str "0123456789") = some (.bool (inC DIGS d)) := in_ch
    have q4 : dIn3 (.str (ch d)) (.str "abcdefghijklmnopqrstuvwxyz") = some (.bool (inC LETS d)) := in_ch
    cases h1 : inC LETS c <;> cases h2 : inC DIGS c <;> cases h3 : inC LETS d <;> cases h4 : inC DIGS d <;>
      simp [-Array.length_toList, PG.B__is_cut_off, PG.S__is_cut_off, bLen_s h, e1, ix_ch h hc, ix_ch h hc2, q1, q2, q3, q4, h1, h2, h3, h4, dEq_ii]
end DL
namespace DL
open PySem PySem.Spec PyProof.Rows L2 RT
structure TokAt (w rest : List Nat) : Prop where
  ne : w ≠ []
  sp : w.head? ≠ some 32
  len : tokE (w ++ rest) = w.length
  cut : cutE (w ++ rest) w.length = false
noncomputable abbrev tokC : Rho → Res Bool := testF (binF dLt (varF 2) (appF (app1 bLen) (consA (varF 0) nilA)))
section
variable {t : Str}
theorem tok_skip (h : TOk t) {p : Nat} {r : List Nat} (hd : t.cps.toList.drop p = 32 :: r) {acc : List PyData} {z : Ent} :
    whileS tokC PG.L__tokens_1 [.d (.str t), .own acc, .d (.int (p : Int)), z] = whileS tokC PG.L__tokens_1 [.d (.str t), .own acc, .d (.int ((p + 1 : Nat) : Int)), z] := by
  have hp : p < t.cps.toList.length := by
    have := congrArg List.length hd
    rw [List.length_drop, List.length_cons] at this
    omega
  have hc : t.cps.toList[p]? = some 32 := by
    have := congrArg List.head? hd
    rwa [List.head?_drop] at this
  have hlt : (p : Int) < (t.cps.toList.length : Int) := by omega
  have e := eq_ch (c := 32) (d := 32) (by decide) (by decide)
  rw [whileS_eq]
  simp [-Array.length_toList, bLen_s h, hlt, ix_ch h hc, s32, e, PG.L__tokens_1]
end
end DL
namespace DL
open PySem PySem.Spec PyProof.Rows L2 RT
inductive Wd | num (n d : Nat) | unk (i : Nat) | plus | minus | sgn (s : Nat)
deriving DecidableEq
def digN (n : Nat) : List Nat := if n < 10 then [48 + n] else [48 + n / 10, 48 + n % 10]
def Wd.cs : Wd → List Nat
  | .num n d => if d = 1 then digN n else digN n ++ [47, 48 + d]
  | .unk i => if i = 0 then [120] else if i = 1 then [121] else [122, 57]
  | .plus => [43]
  | .minus => [45]
  | .sgn s => if s = 0 then [60, 61] else if s = 1 then [60] else if s = 2 then [61] else if s = 3 then [62, 61] else [62]
def Wd.good : Wd → Prop
  | .num n d => n < 30 ∧ 1 ≤ d ∧ d < 5
  | .unk i => i < 3
  | .plus => True
  | .minus => True
  | .sgn s => s < 5
def beh : Wd → Wd → Bool
  | .num _ _, .num _ _ => false
  | .num _ _, _ => true
  | .unk _, .num _ _ => false
  | .unk _, .unk _ => false
  | .unk _, _ => true
  | .sgn _, .num _ _ => true
  | .sgn _, .unk _ => true
  | .sgn _, .minus => true
  | .sgn _, _ => false
  | _, .num _ _ => true
  | _, .unk _ => true
  | _, _ => false
end DL
namespace DL
open PySem PySem.Spec PyProof.Rows L2 RT
end DL
namespace DL
open PySem PySem.Spec PyProof.Rows L2 RT
def tokS (w : Wd) : Str := ⟨w.cs.toArray⟩
theorem TOk.strOk {t : Str} (h : TOk t) : PySem.PyData.strOk t = true := by
  have := ok_take (cs := t.cps.toList) h.cps t.cps.toList.length
  rw [List.take_length] at this
  simpa using this
theorem in_pm {s : Str} (h : PySem.PyData.strOk s = true) : dIn3 (.str s) (.tuple [.str "+", .str "-"]) = some (.bool (("+" == s) || ("-" == s))) := by
  show (if SeqAt.shaped (.str s) = true ∧ SeqAt.shaped (.tuple [.str "+", .str "-"]) = true then some (PyData.bool ([PyData.str "+", .str "-"].any fun z => PyData.eqv z (.str s))) else none) = _
  rw [if_pos ⟨str_shaped h, by decide +kernel⟩]
  simp [PyData.eqv]
def kvB : List (Str × PyData) := [("number", .tuple [.str "unknown", .str "+", .str "-", .str "sign"]), ("unknown", .tuple [.str "+", .str "-", .str "sign"]), ("+", .tuple [.str "number", .str "unknown"]), ("-", .tuple [.str "number", .str "unknown"]), ("sign", .tuple [.str "number", .str "unknown", .str "-"])]
end DL
namespace DL
open PySem PySem.Spec PyProof.Rows L2 RT
def Wd.isSg : Wd → Bool
  | .sgn _ => true
  | _ => false
abbrev ckT : Tg := tupT 2 (consTs (nameT 5) (consTs (nameT 6) nilTs))
end DL
namespace DL
open PySem PySem.Spec PyProof.Rows L2 RT
def sT (cs : List Nat) : Str := ⟨cs.toArray⟩
theorem int_facts2 : ∀ d < 5, PySem.intText? (sT [48 + d]) = some (d : Int) := by decide +kernel
theorem bInt_d {d : Nat} (h : d < 5) : bInt (.str (sT [48 + d])) = some (.int (d : Int)) := by
  show (if (sT [48 + d]).length ≤ 640 then (PySem.intText? (sT [48 + d])).map PyData.int else none) = _
  rw [if_pos (by rw [strLen]; simp [sT]), int_facts2 d h]
  rfl
theorem bInt_1 : bInt (.str "1") = some (.int 1) := bInt_d (d := 1) (by decide)
theorem nat_bt {n k : Nat} (h : n < 2 ^ k) : Bt k (n : Int) := by
  unfold Bt
  simpa using h
end DL
namespace DL
open PySem PySem.Spec PyProof.Rows L2 RT
structure St8 where
  pairs : List Pt
  sign : Str
  bound : Qn
  side : Qn
  factor : Qn
def stepW (w : Wd) (nx : Bool) (s : St8) : St8 := match w with
  | .sgn _ => { s with sign := tokS w, side := (-1, 1), factor := (-1, 1) }
  | .unk _ => { s with pairs := s.pairs ++ [(tokS w, s.factor)] }
  | .num n d => { s with factor := qmul s.factor (nrm (n : Int) (d : Int)), bound := if nx = true then s.bound else qsub s.bound (qmul s.factor (nrm (n : Int) (d : Int))) }
  | .plus => { s with factor := s.side }
  | .minus => { s with factor := qmul s.side (-1, 1) }
structure SzS (t : Nat) (s : St8) : Prop where
  side : Sz 1 s.side
  factor : Sz (5 * t + 2) s.factor
  bound : Sz (100 * t + 1) s.bound
  len : s.pairs.length ≤ t
theorem nrm_sz {n d : Nat} (h : n < 30 ∧ 1 ≤ d ∧ d < 5) : Sz 5 (nrm (n : Int) (d : Int)) := .nrm (by omega) (nat_bt (by omega)) (nat_bt (by omega))
theorem SzS.step {t : Nat} {s : St8} (h : SzS t s) {w : Wd} (hw : w.good) (ht : t ≤ 18) (nx : Bool) : SzS (t + 1) (stepW w nx s) := by
  have sz := h.side
  have fz := h.factor
  have bz := h.bound
  have pl := h.len
  cases w with
  | num n d =>
    have f2 := fz.mul (nrm_sz hw)
    refine ⟨sz, f2.mono (by omega), ?_, by show s.pairs.length ≤ _; omega⟩
    cases nx with
    | true => exact bz.mono (by omega)
    | false => exact (bz.sub f2).mono (by omega)
  | unk i => exact ⟨sz, fz.mono (by omega), bz.mono (by omega), by show (s.pairs ++ _).length ≤ _; rw [List.length_append]; simp; omega⟩
  | plus => exact ⟨sz, sz.mono (by omega), bz.mono (by omega), by show s.pairs.length ≤ _; omega⟩
  | minus => exact ⟨sz, (sz.mul szm1).mono (by omega), bz.mono (by omega), by show s.pairs.length ≤ _; omega⟩
  | sgn i => exact ⟨szm1, szm1.mono (by omega), bz.mono (by omega), by show s.pairs.length ≤ _; omega⟩
def zipK8 (p : Nat) : List PyData → List (PyData × PyData)
  | [] => []
  | x :: xs => (.int (p : Int), x) :: zipK8 (p + 1) xs
theorem enum_zip (xs : List PyData) : enumD xs = zipK8 0 xs := by
  have main : ∀ (xs : List PyData) (p : Nat), (List.range' p xs.length).zipWith (fun i x => (PyData.int (i : Nat), x)) xs = zipK8 p xs := by
    intro xs
    induction xs with
    | nil => intro p; rfl
    | cons x xs ih =>
      intro p
      rw [List.length_cons, List.range'_succ, List.zipWith_cons_cons, ih]
      rfl
  unfold enumD
  rw [List.range_eq_range']
  exact main xs 0
abbrev roT : Tgs := consTs (nameT 6) (consTs (nameT 7) nilTs)
def envS (e0 : Ent) (s : St8) (e6 e7 e8 : Ent) : Rho := [e0, .own (s.pairs.map pD), .d (.str s.sign), .d (N s.bound), .d (N s.side), .d (N s.factor), e6, e7, e8]
end DL
namespace DL
open PySem PySem.Spec PyProof.Rows L2 RT
def st0 : St8 := ⟨[], "", (0, 1), (1, 1), (1, 1)⟩
end DL
namespace DL
open PySem PySem.Spec PyProof.Rows L2 RT
structure It where
  neg : Bool
  n : Nat
  d : Nat
  i : Nat
  k : Nat
structure It.Good (it : It) : Prop where
  n : it.n < 30
  d1 : 1 ≤ it.d
  d2 : it.d < 5
  i : it.i < 3
  low : nrm (it.n : Int) (it.d : Int) = ((it.n : Int), (it.d : Int))
def It.q (it : It) : Qn := ((it.n : Int), (it.d : Int))
def It.sg (it : It) : Qn := if it.neg = true then (-1, 1) else (1, 1)
def It.op (it : It) : Wd := if it.neg = true then .minus else .plus
def It.body (it : It) : List Wd := if it.k = 0 then [.num it.n it.d] else if it.k = 1 then [.unk it.i] else [.num it.n it.d, .unk it.i]
def It.wd (first : Bool) (it : It) : List Wd := (if first = true ∧ it.neg = false then [] else [it.op]) ++ it.body
def It.nm (it : It) : Str := tokS (.unk it.i)
def fac (σ : Qn) (it : It) : Qn := if it.neg = true then qmul σ (-1, 1) else σ
end DL
namespace DL
open PySem PySem.Spec PyProof.Rows L2 RT
theorem neg_mul {a b : Qn} (ha : 0 < a.2) (hb : 0 < b.2) : qmul (qsub (0, 1) a) b = qsub (0, 1) (qmul a b) := by
  have p1 : 0 < (qsub (0, 1) a).2 := nrm_pos (by simp; omega)
  have p2 : 0 < (qmul a b).2 := nrm_pos (Int.mul_ne_zero (by omega) (by omega))
  refine rv_ext (low_nrm (Int.mul_ne_zero (by omega) (by omega))) (low_nrm (by simp; omega)) ?_
  rw [rv_mul (by omega) (by omega), rv_sub (by omega) (by decide), rv_sub (by omega) (by decide), rv_mul (by omega) (by omega)]
  have : rv (0, 1) = 0 := by rw [rv_zero]; exact .inl rfl
  rw [this]
  grind
end DL
namespace DL
open PySem PySem.Spec PyProof.Rows L2 RT
end DL
namespace DL
open PySem PySem.Spec PyProof.Rows L2 RT
def sp (g : Nat) : List Nat := List.replicate g 32
end DL
namespace DL
open PySem PySem.Spec PyProof.Rows L2 RT
def lexM : Nat → Nat → List Nat → List (Nat × List Nat) × Option Nat
  | 0, _, _ => ([], none)
  | _ + 1, _, [] => ([], none)
  | f + 1, p, c :: r => if c = 32 then lexM f (p + 1) r else
    if tokE (c :: r) = 0 then ([], some p) else
    if cutE (c :: r) (tokE (c :: r)) = true then ([(p, (c :: r).take (tokE (c :: r)))], some (p + tokE (c :: r))) else
    ((p, (c :: r).take (tokE (c :: r))) :: (lexM f (p + tokE (c :: r)) ((c :: r).drop (tokE (c :: r)))).1, (lexM f (p + tokE (c :: r)) ((c :: r).drop (tokE (c :: r)))).2)
def tokD (q : Nat × List Nat) : PyData := .tuple [.int (q.1 : Int), .str ⟨q.2.toArray⟩]
def wrongD : Option Nat → PyData
  | none => .none
  | some p => .int (p : Int)
theorem numE_le (cs : List Nat) : numE cs ≤ cs.length := by
  unfold numE
  have h := digE_le cs
  split
  · rename_i c d r e
    have hl := congrArg List.length e
    rw [List.length_drop] at hl
    simp only [List.length_cons] at hl
    split
    · have h2 := digE_le (cs.drop (digE cs + 1))
      rw [List.length_drop] at h2
      omega
    · exact h
  · exact h
theorem tokE_le : ∀ cs : List Nat, tokE cs ≤ cs.length := by
  intro cs
  unfold tokE
  cases cs with
  | nil => exact Nat.le_refl _
  | cons c r =>
    dsimp only
    split
    · exact numE_le _
    · split
      · exact runL_le _ _ _
      · split
        · rename_i h
          unfold is2 at h
          cases r with
          | nil => simp at h
          | cons d r => simp
        · split <;> simp
section
variable {t : Str}
theorem lex_loop (h : TOk t) : ∀ (f p : Nat) (acc : List PyData) (z : Ent), p ≤ t.cps.toList.length → (t.cps.toList.drop p).length < f → acc.length + f ≤ 20000 →
    (∃ p' z', (lexM f p (t.cps.toList.drop p)).2 = none ∧ whileS tokC PG.L__tokens_1 [.d (.str t), .own acc, .d (.int (p : Int)), z] = .nx [.d (.str t), .own (acc ++ (lexM f p (t.cps.toList.drop p)).1.map tokD), p', z']) ∨
    (∃ q, (lexM f p (t.cps.toList.drop p)).2 = some q ∧ whileS tokC PG.L__tokens_1 [.d (.str t), .own acc, .d (.int (p : Int)), z] = .rt (.tuple [.list (acc ++ (lexM f p (t.cps.toList.drop p)).1.map tokD), .int (q : Int)]))
  | 0, p, acc, z, hp, hf, _ => by omega
  | f + 1, p, acc, z, hp, hf, hacc => by
    cases hd : t.cps.toList.drop p with
    | nil =>
      left
      have e : p = t.cps.toList.length := by
        have := congrArg List.length hd
        rw [List.length_drop, List.length_nil] at this
        omega
      refine ⟨.d (.int (p : Int)), z, rfl, ?_⟩
      rw [e, whileS_eq]
      simp [-Array.length_toList, bLen_s h, lexM]
    | cons c r =>
      have hp1 : p < t.cps.toList.length := by
        have := congrArg List.length hd
        rw [List.length_drop, List.length_cons] at this
        omega
      have hd1 : t.cps.toList.drop (p + 1) = r := by
        have : (t.cps.toList.drop p).drop 1 = r := by rw [hd]; rfl
        rwa [List.drop_drop] at this
      by_cases h32 : c = 32
      · subst h32
        rw [tok_skip h hd]
        have L := lex_loop h f (p + 1) acc z (by omega) (by rw [hd1]; rw [hd, List.length_cons] at hf; omega) (by omega)
        rw [hd1] at L
        have e : lexM (f + 1) p (32 :: r) = lexM f (p + 1) r := by simp [lexM]
        rw [e]
        exact L
      · have hlt : (p : Int) < (t.cps.toList.length : Int) := by omega
        have hc : t.cps.toList[p]? = some c := by
          have := congrArg List.head? hd
          rwa [List.head?_drop] at this
        have hm := h.cps c (List.mem_of_getElem? hc)
        have e := eq_ch (c := c) (d := 32) hm (by decide)
        have t1 : PG.m__token_end [.str t, .int (p : Int)] = _ := pg_token_end h hp1
        rw [hd] at t1
        have kle := tokE_le (c :: r)
        have hlen := congrArg List.length hd
        rw [List.length_drop] at hlen
        generalize hk : tokE (c :: r) = k at *
        have cast : ((p + k : Nat) : Int) = (p : Int) + (k : Int) := by omega
        rw [cast] at t1
        by_cases k0 : k = 0
        · right
          subst k0
          have el : lexM (f + 1) p (c :: r) = ([], some p) := by simp [lexM, h32, hk]
          refine ⟨p, by rw [el], ?_⟩
          rw [el, List.map_nil, List.append_nil, whileS_eq]
          simp [-Array.length_toList, bLen_s h, hlt, ix_ch h hc, s32, e, h32, PG.L__tokens_1, t1]
        · have t2 : PG.m__is_cut_off [.str t, .int (p : Int), .int ((p + k : Nat) : Int)] = _ := pg_is_cut_off h hp1 (by omega)
          rw [hd, cast] at t2
          have c1 := cut_s h (a := p) (k := k) (by omega)
          rw [hd] at c1
          have hne : ¬ ((p : Int) + (k : Int) = (p : Int)) := by omega
          have hsz : acc.length < 16777216 := by omega
          have et : PyData.tuple [.int (p : Int), .str ⟨((c :: r).take k).toArray⟩] = tokD (p, (c :: r).take k) := rfl
          cases hcut : cutE (c :: r) k with
          | true =>
            right
            rw [hcut] at t2
            have el : lexM (f + 1) p (c :: r) = ([(p, (c :: r).take k)], some (p + k)) := by simp [lexM, h32, hk, k0, hcut]
            refine ⟨p + k, by rw [el], ?_⟩
            rw [el, List.map_cons, List.map_nil, ← et, whileS_eq]
            simp [-Array.length_toList, -List.take_succ_cons, bLen_s h, hlt, ix_ch h hc, s32, e, h32, PG.L__tokens_1, t1, t2, hne, k0, cutF_apc, someP_apc, c1, hsz]
          | false =>
            rw [hcut] at t2
            have hdk : t.cps.toList.drop (p + k) = (c :: r).drop k := by rw [← List.drop_drop, hd]
            have L := lex_loop h f (p + k) (acc ++ [tokD (p, (c :: r).take k)]) (.d (.int ((p + k : Nat) : Int))) (by omega) (by rw [hdk, List.length_drop]; rw [hd] at hf; omega) (by rw [List.length_append, List.length_singleton]; omega)
            rw [hdk] at L
            have el : lexM (f + 1) p (c :: r) = ((p, (c :: r).take k) :: (lexM f (p + k) ((c :: r).drop k)).1, (lexM f (p + k) ((c :: r).drop k)).2) := by
              rw [lexM, if_neg h32, hk, if_neg k0, if_neg (by rw [hcut]; decide)]
            have st : whileS tokC PG.L__tokens_1 [.d (.str t), .own acc, .d (.int (p : Int)), z] = whileS tokC PG.L__tokens_1 [.d (.str t), .own (acc ++ [tokD (p, (c :: r).take k)]), .d (.int ((p + k : Nat) : Int)), .d (.int ((p + k : Nat) : Int))] := by
              rw [← et, whileS_eq, cast]
              simp [-Array.length_toList, -List.take_succ_cons, bLen_s h, hlt, ix_ch h hc, s32, e, h32, PG.L__tokens_1, t1, t2, hne, k0, cutF_apc, someP_apc, c1, hsz]
            rw [st, el]
            simp only [List.map_cons]
            rcases L with ⟨p', z', l1, l2⟩ | ⟨q, l1, l2⟩
            · left
              refine ⟨p', z', l1, ?_⟩
              rw [l2, List.append_assoc]
              rfl
            · right
              refine ⟨q, l1, ?_⟩
              rw [l2, List.append_assoc]
              rfl
def lexT (t : Str) : List (Nat × List Nat) × Option Nat := lexM (t.cps.toList.length + 1) 0 t.cps.toList
theorem pg_tokensG (h : TOk t) : PG.B__tokens (.str t) = .ok (.tuple [.list ((lexT t).1.map tokD), wrongD (lexT t).2]) := by
  have L := lex_loop h (t.cps.toList.length + 1) 0 [] .un (Nat.zero_le _) (by simp) (by have := h.len; rw [List.length_nil]; omega)
  rw [List.drop_zero] at L
  simp only [List.nil_append] at L
  unfold lexT
  rcases L with ⟨p', z', l1, l2⟩ | ⟨q, l1, l2⟩
  · rw [l1]
    have l2' : whileS tokC PG.L__tokens_1 [.d (.str t), .own [], .d (.int 0), .un] = _ := l2
    simp only [PG.B__tokens, PG.S__tokens]
    simp [l2', wrongD]
  · rw [l1]
    have l2' : whileS tokC PG.L__tokens_1 [.d (.str t), .own [], .d (.int 0), .un] = _ := l2
    simp only [PG.B__tokens, PG.S__tokens]
    simp [l2', wrongD]
end
end DL
namespace DL
open PySem PySem.Spec PyProof.Rows L2 RT
inductive Kd where
  | num | unk | plus | minus | sgn
deriving DecidableEq
def Kd.tx : Kd → Str
  | .num => "number"
  | .unk => "unknown"
  | .plus => "+"
  | .minus => "-"
  | .sgn => "sign"
def kdM (w : List Nat) : Kd := match w with
  | [] => .sgn
  | c :: r => if inC DIGS c = true then .num else if inC LETS c = true then .unk else if c :: r = [43] then .plus else if c :: r = [45] then .minus else .sgn
def Kd.beh : Kd → Kd → Bool
  | .num, .unk | .num, .plus | .num, .minus | .num, .sgn | .unk, .plus | .unk, .minus | .unk, .sgn | .plus, .num | .plus, .unk | .minus, .num | .minus, .unk | .sgn, .num | .sgn, .unk | .sgn, .minus => true
  | _, _ => false
def Kd.bh : Kd → PyData
  | .num => .tuple [.str "unknown", .str "+", .str "-", .str "sign"]
  | .unk => .tuple [.str "+", .str "-", .str "sign"]
  | .plus => .tuple [.str "number", .str "unknown"]
  | .minus => .tuple [.str "number", .str "unknown"]
  | .sgn => .tuple [.str "number", .str "unknown", .str "-"]
def Kd.isEnd : Kd → Bool
  | .num | .unk => true
  | _ => false
theorem tx_ok (k : Kd) : PySem.PyData.strOk k.tx = true := by cases k <;> (simp only [Kd.tx]; decide +kernel)
theorem tx_shaped (k : Kd) : SeqAt.shaped (.str k.tx) = true := str_shaped (tx_ok k)
theorem bhk_shaped (k : Kd) : SeqAt.shaped k.bh = true := by cases k <;> (simp only [Kd.bh]; decide +kernel)
theorem not_in_bhk (v k : Kd) : dNotIn3 (.str k.tx) v.bh = some (.bool (!v.beh k)) := by
  have hs := tx_shaped k
  have hb := bhk_shaped v
  cases v <;> (show (if SeqAt.shaped (.str k.tx) = true ∧ SeqAt.shaped _ = true then some (PyData.bool (!List.any _ fun z => PyData.eqv z (.str k.tx))) else none) = _; rw [if_pos ⟨hs, hb⟩]; cases k <;> simp [PyData.eqv, Kd.tx, Kd.beh] <;> decide +kernel)
theorem kv_findK (v : Kd) : ∃ x, (kvB.find? fun p => decide (p.1 = v.tx)) = some (x, v.bh) := by
  cases v <;> exact ⟨_, rfl⟩
theorem tx_sign (k : Kd) : dEq (.str k.tx) (.str "sign") = some (.bool (decide (k = .sgn))) := by
  rw [dEq_s (tx_ok k) (by decide +kernel)]
  cases k <;> (simp [Kd.tx] <;> decide +kernel)
theorem tx_unknown (k : Kd) : dEq (.str k.tx) (.str "unknown") = some (.bool (decide (k = .unk))) := by
  rw [dEq_s (tx_ok k) (by decide +kernel)]
  cases k <;> (simp [Kd.tx] <;> decide +kernel)
theorem tx_nunknown (k : Kd) : dNe (.str k.tx) (.str "unknown") = some (.bool (!decide (k = .unk))) := by
  rw [dNe_s (tx_ok k) (by decide +kernel)]
  cases k <;> (simp [Kd.tx] <;> decide +kernel)
theorem tx_number (k : Kd) : dEq (.str k.tx) (.str "number") = some (.bool (decide (k = .num))) := by
  rw [dEq_s (tx_ok k) (by decide +kernel)]
  cases k <;> (simp [Kd.tx] <;> decide +kernel)
theorem tx_end (k : Kd) : dNotIn3 (.str k.tx) (.tuple [.str "number", .str "unknown"]) = some (.bool (!k.isEnd)) := by
  show (if SeqAt.shaped (.str k.tx) = true ∧ SeqAt.shaped (.tuple [.str "number", .str "unknown"]) = true then some (PyData.bool (![PyData.str "number", .str "unknown"].any fun z => PyData.eqv z (.str k.tx))) else none) = _
  rw [if_pos ⟨tx_shaped k, by decide +kernel⟩]
  cases k <;> simp [PyData.eqv, Kd.tx, Kd.isEnd] <;> decide +kernel
structure WOk (w : List Nat) : Prop where
  ne : w ≠ []
  len : w.length ≤ 10000
  cps : ∀ c ∈ w, c < 0x110000
theorem WOk.tok {w : List Nat} (h : WOk w) : TOk ⟨w.toArray⟩ := ⟨by simpa using h.len, fun c hc => h.cps c (by simpa using hc)⟩
theorem plus_is {w : List Nat} : (("+" : Str) == (⟨w.toArray⟩ : Str)) = decide (w = [43]) := by
  rw [show ("+" : Str) = ⟨#[43]⟩ by decide, Bool.eq_iff_iff]
  simp
  constructor
  · intro h
    exact h.symm
  · rintro rfl
    rfl
theorem minus_is {w : List Nat} : (("-" : Str) == (⟨w.toArray⟩ : Str)) = decide (w = [45]) := by
  rw [show ("-" : Str) = ⟨#[45]⟩ by decide, Bool.eq_iff_iff]
  simp
  constructor
  · intro h
    exact h.symm
  · rintro rfl
    rfl
theorem pg_kindG {w : List Nat} (h : WOk w) : PG.B__kind (.str ⟨w.toArray⟩) = .ok (.str (kdM w).tx) := by
  have T := h.tok
  obtain ⟨c, r, rfl⟩ := List.exists_cons_of_ne_nil h.ne
  have hc : (⟨(c :: r).toArray⟩ : Str).cps.toList[0]? = some c := by simp
  have i1 : dIx (.str ⟨(c :: r).toArray⟩) (.int 0) = some (.str (ch c)) := ix_ch T (p := 0) hc
  have q1 : dIn3 (.str (ch c)) (.str "0123456789") = some (.bool (inC DIGS c)) := in_ch
  have q2 : dIn3 (.str (ch c)) (.str "abcdefghijklmnopqrstuvwxyz") = some (.bool (inC LETS c)) := in_ch
  have q3 := in_pm T.strOk
  rw [plus_is, minus_is] at q3
  have e43 : c :: r = [43] → (⟨(c :: r).toArray⟩ : Str) = "+" := fun e => by rw [e]; decide
  have e45 : c :: r = [45] → (⟨(c :: r).toArray⟩ : Str) = "-" := fun e => by rw [e]; decide
  generalize hW : (⟨(c :: r).toArray⟩ : Str) = W at *
  unfold kdM
  by_cases a1 : inC DIGS c = true
  · rw [a1] at q1
    simp [-List.cons.injEq, PG.B__kind, PG.S__kind, i1, q1, a1, Kd.tx]
  · have a1' : inC DIGS c = false := by simpa using a1
    rw [a1'] at q1
    by_cases a2 : inC LETS c = true
    · rw [a2] at q2
      simp [-List.cons.injEq, PG.B__kind, PG.S__kind, i1, q1, q2, a1, a2, Kd.tx]
    · have a2' : inC LETS c = false := by simpa using a2
      rw [a2'] at q2
      by_cases a3 : c :: r = [43]
      · rw [decide_eq_true a3, Bool.true_or] at q3
        simp only [if_neg a1, if_neg a2, if_pos a3]
        obtain rfl := e43 a3
        simp [-List.cons.injEq, PG.B__kind, PG.S__kind, i1, q1, q2, q3, Kd.tx]
      · by_cases a4 : c :: r = [45]
        · rw [decide_eq_false a3, decide_eq_true a4, Bool.false_or] at q3
          simp only [if_neg a1, if_neg a2, if_neg a3, if_pos a4]
          obtain rfl := e45 a4
          simp [-List.cons.injEq, PG.B__kind, PG.S__kind, i1, q1, q2, q3, Kd.tx]
        · rw [decide_eq_false a3, decide_eq_false a4, Bool.false_or] at q3
          simp only [if_neg a1, if_neg a2, if_neg a3, if_neg a4]
          simp [-List.cons.injEq, PG.B__kind, PG.S__kind, i1, q1, q2, q3, Kd.tx]
def ckM (v : Kd) (sg : Nat) : List (Nat × List Nat) → Nat ⊕ (Kd × Nat)
  | [] => .inr (v, sg)
  | q :: ts => if v.beh (kdM q.2) = true ∧ ¬ (kdM q.2 = .sgn ∧ sg = 1) then ckM (kdM q.2) (if kdM q.2 = .sgn then sg + 1 else sg) ts else .inl q.1
def tErr (p : Nat) (s : Str) : Exn := ⟨"TextError", [("place", .int (p : Int)), ("what", .str s)]⟩
theorem ck_loopG {e0 e1 e2 : Ent} : ∀ (ts : List (Nat × List Nat)) (v : Kd) (sg : Nat) (e5 e6 e7 : Ent), (∀ q ∈ ts, WOk q.2) → sg ≤ 1 →
    (∃ p ρ, ckM v sg ts = .inl p ∧ loopS ckT PG.L__check_1 (ts.map tokD) [e0, e1, e2, .d (.str v.tx), .d (.int (sg : Int)), e5, e6, e7] = .ex (tErr p "not expected") ρ) ∨
    (∃ v' sg' e5' e6' e7', ckM v sg ts = .inr (v', sg') ∧ loopS ckT PG.L__check_1 (ts.map tokD) [e0, e1, e2, .d (.str v.tx), .d (.int (sg : Int)), e5, e6, e7] = .nx [e0, e1, e2, .d (.str v'.tx), .d (.int (sg' : Int)), e5', e6', e7'])
  | [], v, sg, e5, e6, e7, _, _ => .inr ⟨v, sg, e5, e6, e7, rfl, rfl⟩
  | q :: ts, v, sg, e5, e6, e7, hw, hs => by
    obtain ⟨p, w⟩ := q
    have k1 : PG.m__kind [.str ⟨w.toArray⟩] = .ok (.str (kdM w).tx) := pg_kindG (hw _ List.mem_cons_self)
    obtain ⟨x, kf⟩ := kv_findK v
    have kf' : ([("number", .tuple [.str "unknown", .str "+", .str "-", .str "sign"]), ("unknown", .tuple [.str "+", .str "-", .str "sign"]), ("+", .tuple [.str "number", .str "unknown"]), ("-", .tuple [.str "number", .str "unknown"]), ("sign", .tuple [.str "number", .str "unknown", .str "-"])] : List (Str × PyData)).find? (fun p => decide (p.1 = v.tx)) = some (x, v.bh) := kf
    have ni := not_in_bhk v (kdM w)
    have es := tx_sign (kdM w)
    have e1' : dEq (.int (sg : Int)) (.int 1) = some (.bool ((sg : Int) == 1)) := dEq_ii _ _
    have nd : (["place", "what"] : List Str).Nodup := by decide
    generalize hk : kdM w = k at *
    generalize hW : (⟨w.toArray⟩ : Str) = W at *
    have hcons : (((p, w) : Nat × List Nat) :: ts).map tokD = .tuple [.int (p : Int), .str W] :: ts.map tokD := by rw [List.map_cons]; unfold tokD; rw [hW]
    rw [hcons]
    have step : ckM v sg ((p, w) :: ts) = if v.beh k = true ∧ ¬ (k = .sgn ∧ sg = 1) then ckM k (if k = .sgn then sg + 1 else sg) ts else .inl p := by
      simp only [ckM, hk]
    rw [step]
    by_cases hb : v.beh k = true ∧ ¬ (k = .sgn ∧ sg = 1)
    · rw [if_pos hb]
      obtain ⟨hb1, hb2⟩ := hb
      rw [hb1] at ni
      by_cases hsg : k = .sgn
      · subst hsg
        have hsg1 : ¬ sg = 1 := fun z => hb2 ⟨rfl, z⟩
        rw [if_pos rfl]
        have n1 : ((sg : Int) == 1) = false := by simp; omega
        rw [n1] at e1'
        have st : PG.L__check_1 [e0, e1, e2, .d (.str v.tx), .d (.int (sg : Int)), .d (.int (p : Int)), .d (.str W), e7] = .nx [e0, e1, e2, .d (.str Kd.sgn.tx), .d (.int ((sg + 1 : Nat) : Int)), .d (.int (p : Int)), .d (.str W), .d (.str Kd.sgn.tx)] := by
          simp [PG.L__check_1, k1, kf', ni, es, e1']
        have L := ck_loopG (e0 := e0) (e1 := e1) (e2 := e2) ts .sgn (sg + 1) (.d (.int (p : Int))) (.d (.str W)) (.d (.str Kd.sgn.tx)) (fun q hq => hw q (List.mem_cons_of_mem _ hq)) (by omega)
        rw [loopS_cons_nx (ρ1 := [e0, e1, e2, .d (.str v.tx), .d (.int (sg : Int)), .d (.int (p : Int)), .d (.str W), e7]) (by simp) st]
        exact L
      · rw [if_neg hsg]
        rw [decide_eq_false hsg] at es
        have st : PG.L__check_1 [e0, e1, e2, .d (.str v.tx), .d (.int (sg : Int)), .d (.int (p : Int)), .d (.str W), e7] = .nx [e0, e1, e2, .d (.str k.tx), .d (.int (sg : Int)), .d (.int (p : Int)), .d (.str W), .d (.str k.tx)] := by
          simp [PG.L__check_1, k1, kf', ni, es]
        have L := ck_loopG (e0 := e0) (e1 := e1) (e2 := e2) ts k sg (.d (.int (p : Int))) (.d (.str W)) (.d (.str k.tx)) (fun q hq => hw q (List.mem_cons_of_mem _ hq)) hs
        rw [loopS_cons_nx (ρ1 := [e0, e1, e2, .d (.str v.tx), .d (.int (sg : Int)), .d (.int (p : Int)), .d (.str W), e7]) (by simp) st]
        exact L
    · rw [if_neg hb]
      left
      have st : PG.L__check_1 [e0, e1, e2, .d (.str v.tx), .d (.int (sg : Int)), .d (.int (p : Int)), .d (.str W), e7] = .ex (tErr p "not expected") [e0, e1, e2, .d (.str v.tx), .d (.int (sg : Int)), .d (.int (p : Int)), .d (.str W), .d (.str k.tx)] := by
        cases hbe : v.beh k with
        | false =>
          rw [hbe] at ni
          simp [PG.L__check_1, k1, kf', ni, raiseA, nd, tErr]
        | true =>
          rw [hbe] at ni
          have : k = .sgn ∧ sg = 1 := by
            by_cases z : k = .sgn ∧ sg = 1
            · exact z
            · exact absurd ⟨hbe, z⟩ hb
          obtain ⟨rfl, rfl⟩ := this
          simp [PG.L__check_1, k1, kf', ni, es, raiseA, nd, tErr]
      refine ⟨p, [e0, e1, e2, .d (.str v.tx), .d (.int (sg : Int)), .d (.int (p : Int)), .d (.str W), .d (.str k.tx)], rfl, ?_⟩
      rw [loopS_cons (ρ1 := [e0, e1, e2, .d (.str v.tx), .d (.int (sg : Int)), .d (.int (p : Int)), .d (.str W), e7]) (by simp), st]
def faultM (len : Nat) (lx : List (Nat × List Nat) × Option Nat) : Option (Nat × Str) := match ckM .sgn 0 lx.1 with
  | .inl p => some (p, "not expected")
  | .inr (v, sg) => match lx.2 with
    | some q => some (q, "not a token")
    | none => if sg = 0 ∨ v.isEnd = false then some (len, "not finished") else none
theorem pg_checkG {t : Str} (h : TOk t) {lx : List (Nat × List Nat) × Option Nat} (hw : ∀ q ∈ lx.1, WOk q.2) :
    PG.B__check (.str t) (.list (lx.1.map tokD)) (wrongD lx.2) = match faultM t.cps.toList.length lx with
      | some (p, s) => .ex (tErr p s)
      | none => .ok .none := by
  have nd : (["place", "what"] : List Str).Nodup := by decide
  have bl := bLen_s h
  have tx0 : Kd.sgn.tx = "sign" := rfl
  obtain ⟨ts, wr⟩ := lx
  rcases ck_loopG (e0 := .d (.str t)) (e1 := .d (.list (ts.map tokD))) (e2 := .d (wrongD wr)) ts .sgn 0 .un .un .un hw (by decide) with ⟨p, ρ, l1, l2⟩ | ⟨v, sg, e5, e6, e7, l1, l2⟩
  · simp only [faultM, l1]
    rw [tx0] at l2
    have l2' : loopS ckT PG.L__check_1 (ts.map tokD) [.d (.str t), .d (.list (ts.map tokD)), .d (wrongD wr), .d (.str "sign"), .d (.int 0), .un, .un, .un] = _ := l2
    generalize ts.map tokD = TS at *
    simp [PG.B__check, PG.S__check, l2']
  · simp only [faultM, l1]
    rw [tx0] at l2
    have l2' : loopS ckT PG.L__check_1 (ts.map tokD) [.d (.str t), .d (.list (ts.map tokD)), .d (wrongD wr), .d (.str "sign"), .d (.int 0), .un, .un, .un] = _ := l2
    have z0 : dEq (.int (sg : Int)) (.int 0) = some (.bool ((sg : Int) == 0)) := dEq_ii _ _
    have te := tx_end v
    generalize ts.map tokD = TS at *
    cases wr with
    | some q =>
      have nq : isNone (.int (q : Int)) = false := rfl
      simp only [wrongD] at l2' ⊢
      simp [PG.B__check, PG.S__check, l2', wrongD, nq, raiseA, nd, tErr]
    | none =>
      have nq : isNone .none = true := rfl
      simp only [wrongD] at l2' ⊢
      by_cases hs : sg = 0
      · subst hs
        simp [-Array.length_toList, PG.B__check, PG.S__check, l2', wrongD, nq, raiseA, nd, tErr, bl]
      · have n1 : ((sg : Int) == 0) = false := by simp; omega
        rw [n1] at z0
        cases he : v.isEnd with
        | false =>
          rw [he] at te
          simp [-Array.length_toList, PG.B__check, PG.S__check, l2', wrongD, nq, raiseA, nd, tErr, bl, z0, te, hs]
        | true =>
          rw [he] at te
          simp [-Array.length_toList, PG.B__check, PG.S__check, l2', wrongD, nq, raiseA, nd, tErr, bl, z0, te, hs]
theorem tokE_pos_w {t : Str} {c : Nat} {r : List Nat} {k : Nat} (h : ∀ x ∈ c :: r, x < 0x110000) (hl : (c :: r).length ≤ 10000) (hk : k ≠ 0) : WOk ((c :: r).take k) := by
  refine ⟨?_, by rw [List.length_take]; omega, fun x hx => h x (List.mem_of_mem_take hx)⟩
  cases k with
  | zero => exact absurd rfl hk
  | succ k => simp
theorem lex_words : ∀ (f p : Nat) (cs : List Nat), (∀ x ∈ cs, x < 0x110000) → cs.length ≤ 10000 → ∀ q ∈ (lexM f p cs).1, WOk q.2
  | 0, p, cs, _, _, q, hq => by simp [lexM] at hq
  | f + 1, p, [], _, _, q, hq => by simp [lexM] at hq
  | f + 1, p, c :: r, h, hl, q, hq => by
    simp only [lexM] at hq
    split at hq
    · exact lex_words f (p + 1) r (fun x hx => h x (List.mem_cons_of_mem _ hx)) (by rw [List.length_cons] at hl; omega) q hq
    · split at hq
      · cases hq
      · rename_i _ h0
        split at hq
        · rw [List.mem_singleton.mp hq]
          exact tokE_pos_w (t := "") h hl h0
        · rcases List.mem_cons.mp hq with hq | hq
          · rw [hq]
            exact tokE_pos_w (t := "") h hl h0
          · exact lex_words f _ _ (fun x hx => h x (List.mem_of_mem_drop hx)) (by rw [List.length_drop]; omega) q hq
end DL
namespace DL
open PySem PySem.Spec PyProof.Rows L2 RT PySem.NumText
theorem inC_iff (chars : Str) (c : Nat) : inC chars c = decide (c ∈ chars.cps.toList) := by
  unfold inC hasS
  exact StrLaws.found_one chars c
theorem dig_iff {c : Nat} : inC DIGS c = true ↔ 48 ≤ c ∧ c ≤ 57 := by
  rw [inC_iff, decide_eq_true_eq, show DIGS.cps.toList = [48, 49, 50, 51, 52, 53, 54, 55, 56, 57] by decide +kernel]
  simp only [List.mem_cons, List.not_mem_nil, or_false]
  omega
theorem run_chars (chars : Str) : ∀ (cs : List Nat) (m : Nat), ∀ c ∈ cs.take (runL chars cs m), inC chars c = true
  | [], m, c, h => by simp [runL] at h
  | d :: cs, 0, c, h => by simp [runL] at h
  | d :: cs, m + 1, c, h => by
    unfold runL at h
    split at h
    · rename_i hd
      rw [List.take_succ_cons] at h
      rcases List.mem_cons.mp h with h | h
      · rw [h]; exact hd
      · exact run_chars chars cs m c h
    · simp at h
theorem run_most (chars : Str) : ∀ (cs : List Nat) (m : Nat), runL chars cs m ≤ m
  | [], m => Nat.zero_le _
  | d :: cs, 0 => Nat.le_refl _
  | d :: cs, m + 1 => by
    unfold runL
    split
    · have := run_most chars cs m; omega
    · exact Nat.zero_le _
theorem dig_take {cs : List Nat} (h : ∀ c r, cs = c :: r → inC DIGS c = true) : AllDigits (cs.take (digE cs)) ∧ (cs.take (digE cs)).length ≤ 6 ∧ (cs ≠ [] → 1 ≤ digE cs) := by
  unfold digE
  cases cs with
  | nil => exact ⟨fun c hc => by simp at hc, by simp, fun z => absurd rfl z⟩
  | cons c r =>
    have hc := h c r rfl
    dsimp only
    split
    · refine ⟨fun x hx => ?_, by simp, fun _ => Nat.le_refl _⟩
      simp at hx
      rw [hx]
      exact dig_iff.mp hc
    · refine ⟨fun x hx => dig_iff.mp (run_chars DIGS _ _ x hx), ?_, fun _ => ?_⟩
      · rw [List.length_take]
        have := run_most DIGS (c :: r) 6
        omega
      · unfold runL
        rw [if_pos hc]
        omega
theorem dv_lt : ∀ (cs : List Nat) (a : Nat), AllDigits cs → cs.foldl (fun acc c => acc * 10 + (c - 48)) a < (a + 1) * 10 ^ cs.length
  | [], a, _ => by simp
  | c :: cs, a, h => by
    have hc := h.head
    have ih := dv_lt cs (a * 10 + (c - 48)) h.tail
    rw [List.foldl_cons, List.length_cons, Nat.pow_succ]
    refine Nat.lt_of_lt_of_le ih ?_
    have : a * 10 + (c - 48) + 1 ≤ (a + 1) * 10 := by omega
    calc (a * 10 + (c - 48) + 1) * 10 ^ cs.length ≤ (a + 1) * 10 * 10 ^ cs.length := Nat.mul_le_mul_right _ this
      _ = (a + 1) * (10 ^ cs.length * 10) := by ac_rfl
theorem dv_ge : ∀ (cs : List Nat) (a : Nat), a ≤ cs.foldl (fun acc c => acc * 10 + (c - 48)) a
  | [], a => Nat.le_refl _
  | c :: cs, a => by
    rw [List.foldl_cons]
    exact Nat.le_trans (by omega) (dv_ge cs (a * 10 + (c - 48)))
theorem dv_small {cs : List Nat} (h : AllDigits cs) (hl : cs.length ≤ 6) : digitsVal cs < 1000000 := by
  have := dv_lt cs 0 h
  unfold digitsVal
  refine Nat.lt_of_lt_of_le this ?_
  rw [Nat.zero_add, Nat.one_mul]
  exact Nat.pow_le_pow_right (by decide) hl
theorem dv_pos {c : Nat} {cs : List Nat} (h : AllDigits (c :: cs)) (hc : c ≠ 48) : 1 ≤ digitsVal (c :: cs) := by
  unfold digitsVal
  rw [List.foldl_cons]
  have := h.head
  exact Nat.le_trans (by omega) (dv_ge cs _)
theorem part_none {w : List Nat} (h : 47 ∉ w) : Txt.partition ⟨w.toArray⟩ "/" = (⟨w.toArray⟩, Str.empty, Str.empty) := by
  unfold Txt.partition
  rcases StrLaws.occ_head (⟨w.toArray⟩ : Str) ⟨#[47]⟩ 1 (Nat.le_refl 1) with ⟨h0, _⟩ | ⟨i, r, _, hi, _⟩
  · rw [show ("/" : Str) = ⟨#[47]⟩ by decide, h0]
  · have := (StrLaws.subAt_one _ 47 i).mp hi
    exact absurd (List.mem_of_getElem? this) (by simpa using h)
theorem part_some {w1 w2 : List Nat} (h : 47 ∉ w1) : Txt.partition ⟨(w1 ++ 47 :: w2).toArray⟩ "/" = ((⟨w1.toArray⟩ : Str), ("/" : Str), (⟨w2.toArray⟩ : Str)) := by
  unfold Txt.partition
  have at1 : (w1 ++ 47 :: w2)[w1.length]? = some 47 := by
    rw [List.getElem?_append_right (Nat.le_refl _), Nat.sub_self]; rfl
  rcases StrLaws.occ_head (⟨(w1 ++ 47 :: w2).toArray⟩ : Str) ⟨#[47]⟩ 1 (Nat.le_refl 1) with ⟨h0, hn⟩ | ⟨i, r, h0, hi, hn⟩
  · exact absurd ((StrLaws.subAt_one _ 47 w1.length).mpr (by simpa using at1)) (hn w1.length)
  · have e1 := (StrLaws.subAt_one _ 47 i).mp hi
    have ei : i = w1.length := by
      rcases Nat.lt_trichotomy i w1.length with z | z | z
      · exfalso
        have e1' : (w1 ++ 47 :: w2)[i]? = some 47 := by simpa using e1
        rw [List.getElem?_append_left z] at e1'
        exact h (List.mem_of_getElem? e1')
      · exact z
      · exact absurd ((StrLaws.subAt_one _ 47 w1.length).mpr (by simpa using at1)) (hn w1.length z)
    subst ei
    rw [show ("/" : Str) = ⟨#[47]⟩ by decide, h0]
    dsimp only
    have l1 : (⟨(w1 ++ 47 :: w2).toArray⟩ : Str).length = w1.length + 1 + w2.length := by simp [Str.length]; omega
    have ext : ∀ a b : Str, a.cps.toList = b.cps.toList → a = b := fun a b e => by
      cases a; cases b; congr; exact Array.toList_inj.mp e
    have q1 : Builtin.Str.strSub (⟨(w1 ++ 47 :: w2).toArray⟩ : Str) 0 w1.length = ⟨w1.toArray⟩ := ext _ _ (by
      rw [StrLaws.strSub_toList]
      simp)
    have q2 : Builtin.Str.strSub (⟨(w1 ++ 47 :: w2).toArray⟩ : Str) (w1.length + (⟨#[47]⟩ : Str).length) (⟨(w1 ++ 47 :: w2).toArray⟩ : Str).length = ⟨w2.toArray⟩ := ext _ _ (by
      rw [StrLaws.strSub_toList, l1]
      show ((w1 ++ 47 :: w2).toArray.toList.drop (w1.length + 1)).take _ = w2.toArray.toList
      rw [List.toList_toArray, List.toList_toArray, show w1 ++ 47 :: w2 = (w1 ++ [47]) ++ w2 by simp, List.drop_left' (by simp), List.take_of_length_le]
      show w2.length ≤ w1.length + 1 + w2.length - (w1.length + 1)
      omega)
    rw [q1, q2]
inductive NTok : List Nat → Nat → Nat → Prop
  | whole {ds : List Nat} : AllDigits ds → ds ≠ [] → ds.length ≤ 6 → NTok ds (digitsVal ds) 1
  | frac {ds : List Nat} {e : Nat} {es : List Nat} : AllDigits ds → ds ≠ [] → ds.length ≤ 6 → AllDigits (e :: es) → e ≠ 48 → (e :: es).length ≤ 6 → NTok (ds ++ 47 :: e :: es) (digitsVal ds) (digitsVal (e :: es))
theorem ad_no {ds : List Nat} (h : AllDigits ds) : 47 ∉ ds := fun z => by have := h 47 z; omega
theorem NTok.sz {w : List Nat} {n d : Nat} (h : NTok w n d) : n < 1000000 ∧ 1 ≤ d ∧ d < 1000000 := by
  cases h with
  | whole a b c => exact ⟨dv_small a c, Nat.le_refl _, by decide⟩
  | frac a b c a' z c' => exact ⟨dv_small a c, dv_pos a' z, dv_small a' c'⟩
theorem bInt_ds {ds : List Nat} (h : AllDigits ds) (h1 : ds ≠ []) (hl : ds.length ≤ 6) : bInt (.str ⟨ds.toArray⟩) = some (.int (digitsVal ds : Int)) := by
  have l1 : (⟨ds.toArray⟩ : Str).length = ds.length := by simp [Str.length]
  show (if (⟨ds.toArray⟩ : Str).length ≤ 640 then (PySem.intText? ⟨ds.toArray⟩).map PyData.int else none) = _
  rw [if_pos (by omega), intText_digits (x := ⟨ds.toArray⟩) (by simpa using h) (by simpa using h1) (by omega)]
  simp
theorem pg_number_ofG {w : List Nat} {n d : Nat} (h : NTok w n d) : PG.B__number_of (.str ⟨w.toArray⟩) = .ok (N (nrm (n : Int) (d : Int))) := by
  have sl : ¬ (("/" : Str).length = 0) := by decide +kernel
  obtain ⟨s1, s2, s3⟩ := h.sz
  have pn : PG.m_number [.int (n : Int), .int (d : Int)] = _ := pg_number (t := (n : Int)) (b := (d : Int)) (by omega) ((nat_bt (k := 20) (by omega)).mono (by decide))
  cases h with
  | @whole ds a b c =>
    have pf := part_none (ad_no a)
    have hl : (⟨w.toArray⟩ : Str).length ≤ sizeLine := by
      rw [sizeLine_eq, strLen]
      show w.toArray.toList.length ≤ _
      rw [List.toList_toArray]; omega
    have i1 := bInt_ds a b c
    have t0 : truth (.str Str.empty) = some false := by decide +kernel
    have i2 : bInt (.str "1") = some (.int 1) := bInt_1
    have pn' : PG.m_number [.int ((digitsVal w : Nat) : Int), .int 1] = .ok (N (nrm ((digitsVal w : Nat) : Int) 1)) := pn
    generalize (⟨w.toArray⟩ : Str) = W at *
    simp [PG.B__number_of, PG.S__number_of, pf, i1, i2, hl, sl, t0, pn']
  | @frac ds e es a b c a' z c' =>
    have pf := part_some (w2 := e :: es) (ad_no a)
    have hl : (⟨(ds ++ 47 :: e :: es).toArray⟩ : Str).length ≤ sizeLine := by
      rw [sizeLine_eq, strLen]
      show (ds ++ 47 :: e :: es).toArray.toList.length ≤ _
      rw [List.toList_toArray, List.length_append, List.length_cons]; omega
    have i1 := bInt_ds a b c
    have i2 := bInt_ds a' (by simp) c'
    have t1 : truth (.str ⟨(e :: es).toArray⟩) = some true := by
      have : (⟨(e :: es).toArray⟩ : Str).length = es.length + 1 := by simp [Str.length]
      rw [List.length_cons] at c'
      simp [truth, this]
      rw [sizeLine_eq]
      omega
    generalize (⟨(ds ++ 47 :: e :: es).toArray⟩ : Str) = W at *
    generalize (⟨ds.toArray⟩ : Str) = W1 at *
    generalize (⟨(e :: es).toArray⟩ : Str) = W2 at *
    simp [PG.B__number_of, PG.S__number_of, pf, i1, i2, hl, sl, t1, pn]
theorem num_take {c : Nat} {r : List Nat} (hc : inC DIGS c = true) : ∃ n d, NTok ((c :: r).take (tokE (c :: r))) n d := by
  have et : tokE (c :: r) = numE (c :: r) := by simp [tokE, hc]
  rw [et]
  obtain ⟨d1, d2, d3⟩ := dig_take (cs := c :: r) (fun c' r' e => by cases e; exact hc)
  have d3 := d3 (by simp)
  have dne : (c :: r).take (digE (c :: r)) ≠ [] := by
    intro z
    have := congrArg List.length z
    rw [List.length_take, List.length_cons, List.length_nil] at this
    omega
  unfold numE
  split
  · rename_i x y r2 e
    split
    · rename_i hx
      obtain ⟨hx1, hx2, hx3⟩ := hx
      subst hx1
      have ed : (c :: r).drop (digE (c :: r) + 1) = y :: r2 := by
        rw [← List.drop_drop, e]; rfl
      obtain ⟨g1, g2, g3⟩ := dig_take (cs := y :: r2) (fun c' r' e => by cases e; exact hx2)
      have g3 := g3 (by simp)
      have sp : (c :: r).take (digE (c :: r) + 1 + digE ((c :: r).drop (digE (c :: r) + 1))) = (c :: r).take (digE (c :: r)) ++ 47 :: (y :: r2).take (digE (y :: r2)) := by
        rw [ed, Nat.add_assoc, List.take_add, e]
        rw [show 1 + digE (y :: r2) = digE (y :: r2) + 1 by omega, List.take_succ_cons]
      rw [sp]
      generalize hk : digE (y :: r2) = k at *
      cases k with
      | zero => omega
      | succ k =>
        rw [List.take_succ_cons] at g1 g2 ⊢
        exact ⟨_, _, .frac d1 dne d2 g1 hx3 g2⟩
    · exact ⟨_, _, .whole d1 dne d2⟩
  · exact ⟨_, _, .whole d1 dne d2⟩
end DL
namespace DL
open PySem PySem.Spec PyProof.Rows L2 RT PySem.NumText
def wS (w : List Nat) : Str := ⟨w.toArray⟩
def numQ (w : List Nat) : Qn := nrm (digitsVal (w.takeWhile (· != 47)) : Int) (((match w.dropWhile (· != 47) with | [] => 1 | _ :: r => digitsVal r) : Nat) : Int)
theorem tw_no {ds : List Nat} (h : 47 ∉ ds) (r : List Nat) : (ds ++ 47 :: r).takeWhile (· != 47) = ds ∧ (ds ++ 47 :: r).dropWhile (· != 47) = 47 :: r := by
  induction ds with
  | nil => simp
  | cons d ds ih =>
    have h1 : d ≠ 47 := fun e => h (by simp [e])
    obtain ⟨i1, i2⟩ := ih fun z => h (List.mem_cons_of_mem _ z)
    have hb : (d != 47) = true := by simpa using h1
    rw [List.cons_append]
    constructor
    · simp [List.takeWhile_cons, h1, i1]
    · simp [List.dropWhile_cons, h1, i2]
theorem tw_all {ds : List Nat} (h : 47 ∉ ds) : ds.takeWhile (· != 47) = ds ∧ ds.dropWhile (· != 47) = [] := by
  induction ds with
  | nil => simp
  | cons d ds ih =>
    have h1 : d ≠ 47 := fun e => h (by simp [e])
    obtain ⟨i1, i2⟩ := ih fun z => h (List.mem_cons_of_mem _ z)
    have hb : (d != 47) = true := by simpa using h1
    constructor
    · simp [List.takeWhile_cons, h1, i1]
    · simp [List.dropWhile_cons, h1, i2]
theorem NTok.numQ {w : List Nat} {n d : Nat} (h : NTok w n d) : DL.numQ w = nrm (n : Int) (d : Int) := by
  unfold DL.numQ
  cases h with
  | whole a b c =>
    obtain ⟨e1, e2⟩ := tw_all (ad_no a)
    rw [e1, e2]
  | frac a b c a' z c' =>
    obtain ⟨e1, e2⟩ := tw_no (ad_no a) (_ :: _)
    rw [e1, e2]
theorem NTok.qsz {w : List Nat} {n d : Nat} (h : NTok w n d) : Sz 20 (DL.numQ w) := by
  obtain ⟨s1, s2, s3⟩ := h.sz
  rw [h.numQ]
  exact .nrm (by omega) (nat_bt (by omega)) (nat_bt (by omega))
structure TOkW (w : List Nat) : Prop where
  ok : WOk w
  num : kdM w = .num → ∃ n d, NTok w n d
def nxK : List (List Nat) → Bool
  | w :: _ => decide (kdM w = .unk)
  | [] => false
def stepK (w : List Nat) (nx : Bool) (s : St8) : St8 := match kdM w with
  | .sgn => { s with sign := wS w, side := (-1, 1), factor := (-1, 1) }
  | .unk => { s with pairs := s.pairs ++ [(wS w, s.factor)] }
  | .num => { s with factor := qmul s.factor (numQ w), bound := if nx = true then s.bound else qsub s.bound (qmul s.factor (numQ w)) }
  | .plus => { s with factor := s.side }
  | .minus => { s with factor := qmul s.side (-1, 1) }
def runK : List (List Nat) → St8 → St8
  | [], s => s
  | w :: ws, s => runK ws (stepK w (nxK ws) s)
def itemsK : List (List Nat) → Nat
  | [] => 0
  | w :: ws => (if kdM w = .unk ∨ (kdM w = .num ∧ nxK ws = false) then 1 else 0) + itemsK ws
def chnK : Kd → List (List Nat) → Prop
  | _, [] => True
  | v, w :: ws => v.beh (kdM w) = true ∧ chnK (kdM w) ws
structure SzK (v : Kd) (t : Nat) (s : St8) : Prop where
  side : Sz 1 s.side
  factor : Sz 22 s.factor
  one : v ≠ .num → v ≠ .unk → Sz 2 s.factor
  pairs : ∀ p ∈ s.pairs, Sz 22 p.2
  bound : ∃ b, Sz (24 * b + 1) s.bound ∧ s.pairs.length + b ≤ t
  low : Low s.bound
theorem st0_szK : SzK .sgn 0 st0 := ⟨sz11, sz11.mono (by decide), fun _ _ => sz11.mono (by decide), (fun p hp => by cases hp), ⟨0, sz01, Nat.le_refl _⟩, low01⟩
theorem SzK.step {v : Kd} {t : Nat} {s : St8} (h : SzK v t s) {w : List Nat} {ws : List (List Nat)} (hw : TOkW w) (hb : v.beh (kdM w) = true) : SzK (kdM w) ((if kdM w = .unk ∨ (kdM w = .num ∧ nxK ws = false) then 1 else 0) + t) (stepK w (nxK ws) s) := by
  obtain ⟨h1, h2, h3, h4, ⟨b, h5, h6⟩, h7⟩ := h
  unfold stepK
  cases hk : kdM w with
  | sgn => exact ⟨szm1, szm1.mono (by decide), fun _ _ => szm1.mono (by decide), h4, ⟨b, h5, by simp; omega⟩, h7⟩
  | plus => exact ⟨h1, h1.mono (by decide), fun _ _ => h1.mono (by decide), h4, ⟨b, h5, by simp; omega⟩, h7⟩
  | minus => exact ⟨h1, (h1.mul szm1).mono (by decide), fun _ _ => (h1.mul szm1).mono (by decide), h4, ⟨b, h5, by simp; omega⟩, h7⟩
  | unk =>
    refine ⟨h1, h2, fun _ z => absurd rfl z, fun p hp => ?_, ⟨b, h5, ?_⟩, h7⟩
    · rcases List.mem_append.mp hp with hp | hp
      · exact h4 p hp
      · rw [List.mem_singleton.mp hp]; exact h2
    · show (s.pairs ++ _).length + b ≤ _
      simp
      omega
  | num =>
    rw [hk] at hb
    have hv : v ≠ .num ∧ v ≠ .unk := by cases v <;> simp [Kd.beh] at hb <;> simp
    obtain ⟨n, d, T⟩ := hw.num hk
    have f2 := (h3 hv.1 hv.2).mul T.qsz
    refine ⟨h1, f2, fun z => absurd rfl z, h4, ?_, ?_⟩
    · cases hn : nxK ws with
      | true => exact ⟨b, h5, by simp; omega⟩
      | false =>
        refine ⟨b + 1, ?_, by simp; omega⟩
        simp only [Bool.false_eq_true, if_false]
        exact (h5.sub f2).mono (by omega)
    · show Low (if _ then _ else _)
      split
      · exact h7
      · have p1 := h5.ne
        have p2 := f2.ne
        exact low_nrm (Int.mul_ne_zero p1 p2)
theorem eq_plusG {w : List Nat} (h : WOk w) : dEq (.str (wS w)) (.str "+") = some (.bool (decide (w = [43]))) := by
  show dEq (.str (⟨w.toArray⟩ : Str)) (.str "+") = _
  rw [dEq_s h.tok.strOk (by decide +kernel)]
  congr 2
  rw [← plus_is]
  exact Bool.eq_iff_iff.mpr ⟨fun h => beq_iff_eq.mpr (beq_iff_eq.mp h).symm, fun h => beq_iff_eq.mpr (beq_iff_eq.mp h).symm⟩
theorem kd_plus {w : List Nat} (h : kdM w = .plus) : w = [43] := by
  unfold kdM at h
  split at h
  · cases h
  · split at h
    · cases h
    · split at h
      · cases h
      · split at h
        · assumption
        · split at h <;> cases h
theorem kd_minus {w : List Nat} (h : kdM w = .minus) : w = [45] := by
  unfold kdM at h
  split at h
  · cases h
  · split at h
    · cases h
    · split at h
      · cases h
      · split at h
        · cases h
        · split at h
          · assumption
          · cases h
theorem row_loopK {all : List (List Nat)} (hg : ∀ w ∈ all, TOkW w) (ha : all.length ≤ 1000) {T : Nat} (hT : T ≤ 100) : ∀ (ws : List (List Nat)) (p : Nat) (v : Kd) (t : Nat) (s : St8) (e6 e7 e8 : Ent), (∃ pre, all = pre ++ ws ∧ pre.length = p) → chnK v ws → SzK v t s → t + itemsK ws ≤ T →
    ∃ e6' e7' e8', loopP roT PG.L__row_of_1 (zipK8 p (ws.map fun w => .str (wS w))) (envS (.d (.list (all.map fun w => .str (wS w)))) s e6 e7 e8) = .nx (envS (.d (.list (all.map fun w => .str (wS w)))) (runK ws s) e6' e7' e8')
  | [], p, v, t, s, e6, e7, e8, _, _, _, _ => ⟨e6, e7, e8, rfl⟩
  | w :: ws, p, v, t, s, e6, e7, e8, ⟨pre, e, hp⟩, hc, hs, ht => by
    have hw : TOkW w := hg w (by rw [e]; simp)
    have hlen : all.length = p + (ws.length + 1) := by rw [e, List.length_append, List.length_cons, hp]
    obtain ⟨hb, hc2⟩ := hc
    have hs2 := hs.step (ws := ws) hw hb
    unfold itemsK at ht
    have hz : ∃ e8', PG.L__row_of_1 [.d (.list (all.map fun w => .str (wS w))), .own (s.pairs.map pD), .d (.str s.sign), .d (N s.bound), .d (N s.side), .d (N s.factor), .d (.int (p : Int)), .d (.str (wS w)), e8] = .nx (envS (.d (.list (all.map fun w => .str (wS w)))) (stepK w (nxK ws) s) (.d (.int (p : Int))) (.d (.str (wS w))) e8') := by
      refine ⟨.d (.str (kdM w).tx), ?_⟩
      have k1 : PG.m__kind [.str (wS w)] = .ok (.str (kdM w).tx) := pg_kindG hw.ok
      have s1 := tx_sign (kdM w)
      have s2 := tx_unknown (kdM w)
      have s3 := tx_number (kdM w)
      have hl : bLen (.list (all.map fun w => PyData.str (wS w))) = some (.int (all.length : Int)) := by simp
      obtain ⟨b, hb5, hb6⟩ := hs.bound
      unfold stepK
      cases hk : kdM w with
      | sgn =>
        rw [hk] at k1 s1 s2 s3
        simp [PG.L__row_of_1, k1, s1, envS]
      | unk =>
        rw [hk] at k1 s1 s2 s3
        have hq : s.pairs.length < 16777216 := by omega
        simp [PG.L__row_of_1, k1, s1, s2, envS, hq, pD]
      | plus =>
        rw [hk] at k1 s1 s2 s3
        have q := eq_plusG hw.ok
        rw [decide_eq_true (kd_plus hk)] at q
        simp [PG.L__row_of_1, k1, s1, s2, s3, envS, q]
      | minus =>
        rw [hk] at k1 s1 s2 s3
        have q := eq_plusG hw.ok
        rw [decide_eq_false (by rw [kd_minus hk]; decide)] at q
        have t1 : PG.m_times [N s.side, N (-1, 1)] = .ok (N (qmul s.side (-1, 1))) := pg_times (hs.side.mono (by decide)) (szm1.mono (by decide))
        simp only [N] at t1
        simp [PG.L__row_of_1, k1, s1, s2, s3, envS, q, t1]
      | num =>
        rw [hk] at k1 s1 s2 s3
        obtain ⟨n, d, T'⟩ := hw.num hk
        have n1 : PG.m__number_of [.str (wS w)] = .ok (N (numQ w)) := by rw [T'.numQ]; exact pg_number_ofG T'
        have t1 : PG.m_times [N s.factor, N (numQ w)] = .ok (N (qmul s.factor (numQ w))) := pg_times (hs.factor.mono (by omega)) (T'.qsz.mono (by decide))
        have m1 : PG.m_minus [N s.bound, N (qmul s.factor (numQ w))] = .ok (N (qsub s.bound (qmul s.factor (numQ w)))) := pg_minus (hb5.mono (by omega)) ((hs.factor.mul T'.qsz).mono (by omega))
        simp only [N] at n1 t1 m1
        cases ws with
        | nil =>
          have hq : (p : Int) + 1 = (all.length : Int) := by simp at hlen; omega
          simp [PG.L__row_of_1, k1, s1, s2, s3, envS, n1, t1, m1, hl, hq, nxK]
        | cons w2 ws =>
          have hq : ¬ ((p : Int) + 1 = (all.length : Int)) := by simp at hlen; omega
          have hw2 : TOkW w2 := hg w2 (by rw [e]; simp)
          have k2 : PG.m__kind [.str (wS w2)] = .ok (.str (kdM w2).tx) := pg_kindG hw2.ok
          have s4 := tx_nunknown (kdM w2)
          have ix : dIx (.list (all.map fun w => PyData.str (wS w))) (.int ((p : Int) + 1)) = some (.str (wS w2)) := by
            have : (all.map fun w => PyData.str (wS w))[p + 1]? = some (.str (wS w2)) := by
              rw [List.getElem?_map, e, List.getElem?_append_right (by omega), hp]
              simp
            have z := atI_nat this
            exact z
          by_cases hu : kdM w2 = .unk
          · rw [decide_eq_true hu, hu] at s4
            rw [hu] at k2
            simp [PG.L__row_of_1, k1, s1, s2, s3, envS, n1, t1, m1, hl, hq, nxK, ix, k2, s4, hu]
          · rw [decide_eq_false hu] at s4
            simp [PG.L__row_of_1, k1, s1, s2, s3, envS, n1, t1, m1, hl, hq, nxK, ix, k2, s4, hu]
    obtain ⟨e8', hz⟩ := hz
    obtain ⟨a, b, c, z⟩ := row_loopK hg ha hT ws (p + 1) (kdM w) _ (stepK w (nxK ws) s) (.d (.int (p : Int))) (.d (.str (wS w))) e8' ⟨pre ++ [w], by rw [e]; simp, by simp [hp]⟩ hc2 hs2 (by omega)
    refine ⟨a, b, c, ?_⟩
    show (match roT [.int (p : Int), .str (wS w)] (envS _ s e6 e7 e8) with
      | none => Out.bad
      | some ρ1 => match PG.L__row_of_1 ρ1 with
        | .nx ρ2 => loopP roT PG.L__row_of_1 (zipK8 (p + 1) (ws.map fun w => .str (wS w))) ρ2
        | .ct ρ2 => loopP roT PG.L__row_of_1 (zipK8 (p + 1) (ws.map fun w => .str (wS w))) ρ2
        | .bk ρ2 => .nx ρ2
        | o => o) = _
    have ht : roT [.int (p : Int), .str (wS w)] (envS (.d (.list (all.map fun w => .str (wS w)))) s e6 e7 e8) = some [.d (.list (all.map fun w => .str (wS w))), .own (s.pairs.map pD), .d (.str s.sign), .d (N s.bound), .d (N s.side), .d (N s.factor), .d (.int (p : Int)), .d (.str (wS w)), e8] := by
      simp [envS]
    rw [ht]
    dsimp only
    rw [hz]
    exact z
theorem runK_sz : ∀ (ws : List (List Nat)) (v : Kd) (t : Nat) (s : St8), (∀ w ∈ ws, TOkW w) → chnK v ws → SzK v t s → ∃ v', SzK v' (t + itemsK ws) (runK ws s)
  | [], v, t, s, _, _, h => ⟨v, h⟩
  | w :: ws, v, t, s, hg, ⟨hb, hc⟩, h => by
    obtain ⟨v', z⟩ := runK_sz ws (kdM w) _ _ (fun x hx => hg x (List.mem_cons_of_mem _ hx)) hc (h.step (ws := ws) (hg w List.mem_cons_self) hb)
    refine ⟨v', ?_⟩
    show SzK v' _ (runK ws (stepK w (nxK ws) s))
    unfold itemsK
    rw [show t + ((if kdM w = .unk ∨ (kdM w = .num ∧ nxK ws = false) then 1 else 0) + itemsK ws) = (if kdM w = .unk ∨ (kdM w = .num ∧ nxK ws = false) then 1 else 0) + t + itemsK ws by omega]
    exact z
theorem pg_row_ofK {ws : List (List Nat)} (hg : ∀ w ∈ ws, TOkW w) (hl : ws.length ≤ 1000) (hc : chnK .sgn ws) (hi : itemsK ws ≤ 100) {r : PyData} (hr : PG.B_row (.list ((runK ws st0).pairs.map pD)) (.str (runK ws st0).sign) (N (runK ws st0).bound) = .ok r) :
    PG.B__row_of (.list (ws.map fun w => .str (wS w))) = .ok r := by
  obtain ⟨a, b, c, z⟩ := row_loopK hg hl (T := 100) (by decide) ws 0 .sgn 0 st0 .un .un .un ⟨[], rfl, rfl⟩ hc st0_szK (by omega)
  have z' : loopP roT PG.L__row_of_1 (enumD (ws.map fun w => .str (wS w))) [.d (.list (ws.map fun w => .str (wS w))), .own [], .d (.str ""), .d (.tuple [.int 0, .int 1]), .d (.tuple [.int 1, .int 1]), .d (.tuple [.int 1, .int 1]), .un, .un, .un] = .nx (envS (.d (.list (ws.map fun w => .str (wS w)))) (runK ws st0) a b c) := by
    rw [enum_zip]
    exact z
  have hr' : PG.m_row [.list ((runK ws st0).pairs.map pD), .str (runK ws st0).sign, N (runK ws st0).bound] = .ok r := hr
  simp only [PG.B__row_of, PG.S__row_of]
  simp only [N] at hr' z'
  simp [z', envS, hr']
end DL
namespace DL
open PySem PySem.Spec PyProof.Rows L2 RT PySem.NumText
def SgT (s : Str) : Prop := Sgn s ∨ s = ">=" ∨ s = ">"
theorem row_any {ps : List Pt} {sg : Str} {b : Qn} (h : ∀ p ∈ ps, Sz 22 p.2) (hl : ps.length ≤ 10) (hb : Sz 241 b) (lb : Low b) (hs : SgT sg) : ∃ r : Rw, PG.B_row (.list (ps.map pD)) (.str sg) (N b) = .ok (rD r) := by
  have pl := partsM_len ps
  have e1 : PG.m_added_up [.list (ps.map pD)] = .ok (psD (partsM ps)) := pg_added_up PyData.list (.inl rfl) h (by omega) (by omega) (by omega)
  have nrmP : ∀ (qs : List Pt) (sg : Str) (b : Qn), (∀ p ∈ qs, Sz 22 p.2) → qs.length ≤ 10 → Sz 241 b → Low b → Sgn sg → PG.B_normal (rD (partsM qs, sg, b)) = .ok (rD (rowM qs sg b)) := fun qs sg b hq hql hbb hlb hsg => by
    have pl := partsM_len qs
    refine pg_normal (n := 241) ⟨fun p hp => (Sz.parts hq p hp).mono (by omega), hbb⟩ ⟨fun p hp => ⟨low_parts (fun p hp => (hq p hp).pos) p hp, partsM_nz p hp⟩, hlb⟩ hsg.ok (fun p hp => partsM_nz p hp) (by show (partsM qs).length ≤ _; omega) ?_
    have : 241 * ((partsM qs).length + 2) ≤ 241 * 12 := Nat.mul_le_mul_left _ (by omega)
    show 241 * ((partsM qs).length + 2) + 4 ≤ 3900
    omega
  rcases hs with hs | hs
  · have e2 : PG.m_normal [.tuple [psD (partsM ps), .str sg, .tuple [.int b.1, .int b.2]]] = .ok (rD (rowM ps sg b)) := nrmP ps sg b h hl hb lb hs
    refine ⟨rowM ps sg b, ?_⟩
    have i1 : sg ∉ ([">=", ">"] : List Str) := by rcases hs with rfl | rfl | rfl <;> decide
    have i2 : sg ∈ (["<=", "<", "="] : List Str) := by rcases hs with rfl | rfl | rfl <;> decide
    simp [PG.B_row, PG.S_row, e1]
    simp only [List.mem_cons, List.not_mem_nil, or_false] at i1 i2
    simp [i1, i2, e2]
  · obtain ⟨sg2, s2, hs2⟩ : ∃ sg2, Sgn sg2 ∧ ((sg = ">=" ∧ sg2 = "<=") ∨ (sg = ">" ∧ sg2 = "<")) := by
      rcases hs with rfl | rfl
      · exact ⟨"<=", .inl rfl, .inl ⟨rfl, rfl⟩⟩
      · exact ⟨"<", .inr (.inl rfl), .inr ⟨rfl, rfl⟩⟩
    have hf : ∀ p ∈ flipM ps, Sz 22 p.2 := fun p hp => by
      obtain ⟨q, hq, rfl⟩ := List.mem_map.mp hp
      exact (h q hq).neg0
    have fl : (flipM ps).length = ps.length := by simp [flipM]
    have e2 : PG.m_multiplied [psD (partsM ps), .tuple [.int (-1), .int 1]] = .ok (psD (partsM (flipM ps))) := by
      rw [parts_flip fun p hp => (h p hp).pos]
      exact pg_multiplied (fun p hp => (Sz.parts h p hp).mono (by omega)) (szm1.mono (by decide)) (by omega)
    have e3 : PG.m_minus [.tuple [.int 0, .int 1], .tuple [.int b.1, .int b.2]] = .ok (N (qsub (0, 1) b)) := pg_minus (sz01.mono (by decide)) (hb.mono (by omega))
    have e4 : PG.m_normal [.tuple [psD (partsM (flipM ps)), .str sg2, .tuple [.int (qsub (0, 1) b).1, .int (qsub (0, 1) b).2]]] = .ok (rD (rowM (flipM ps) sg2 (qsub (0, 1) b))) :=
      nrmP (flipM ps) sg2 (qsub (0, 1) b) hf (by omega) hb.neg0 (low_nrm (by have := lb.pos; simp; omega)) s2
    refine ⟨rowM (flipM ps) sg2 (qsub (0, 1) b), ?_⟩
    rcases hs2 with ⟨rfl, rfl⟩ | ⟨rfl, rfl⟩
    · have d1 : (">" : Str) = ">=" ↔ False := by decide
      simp [PG.B_row, PG.S_row, e1, e2, e3, e4]
    · have d1 : (">=" : Str) = ">" ↔ False := by decide
      simp [PG.B_row, PG.S_row, e1, e2, e3, e4, d1]
def sgC : List (List Nat) → Nat
  | [] => 0
  | w :: ws => (if kdM w = .sgn then 1 else 0) + sgC ws
def pmC : List (List Nat) → Nat
  | [] => 0
  | w :: ws => (if kdM w = .plus ∨ kdM w = .minus then 1 else 0) + pmC ws
def lastK : Kd → List (List Nat) → Kd
  | v, [] => v
  | _, w :: ws => lastK (kdM w) ws
theorem ck_inr : ∀ (ts : List (Nat × List Nat)) (v v' : Kd) (sg sg' : Nat), ckM v sg ts = .inr (v', sg') → chnK v (ts.map (·.2)) ∧ sg' = sg + sgC (ts.map (·.2)) ∧ v' = lastK v (ts.map (·.2))
  | [], v, v', sg, sg', h => by
    simp only [ckM, Sum.inr.injEq, Prod.mk.injEq] at h
    exact ⟨trivial, by simp [sgC, h.2], by simp [lastK, h.1]⟩
  | q :: ts, v, v', sg, sg', h => by
    simp only [ckM] at h
    split at h
    · rename_i hb
      obtain ⟨a, b, c⟩ := ck_inr ts _ v' _ sg' h
      refine ⟨⟨hb.1, a⟩, ?_, c⟩
      rw [b, List.map_cons]
      show _ = sg + ((if kdM q.2 = .sgn then 1 else 0) + sgC (ts.map (·.2)))
      split <;> omega
    · cases h
theorem ck_sg : ∀ (ts : List (Nat × List Nat)) (v v' : Kd) (sg sg' : Nat), sg ≤ 1 → ckM v sg ts = .inr (v', sg') → sg' ≤ 1
  | [], v, v', sg, sg', h0, h => by
    simp only [ckM, Sum.inr.injEq, Prod.mk.injEq] at h
    omega
  | q :: ts, v, v', sg, sg', h0, h => by
    simp only [ckM] at h
    split at h
    · rename_i hb
      refine ck_sg ts _ v' _ sg' ?_ h
      split
      · rename_i hk
        have : ¬ sg = 1 := fun z => hb.2 ⟨hk, z⟩
        omega
      · exact h0
    · cases h
theorem items_le : ∀ (ws : List (List Nat)) (v : Kd), chnK v ws → itemsK ws ≤ pmC ws + sgC ws + (if v = .num then (if nxK ws = true then 1 else 0) else if v = .unk then 0 else 1)
  | [], v, _ => by simp [itemsK]
  | w :: ws, v, ⟨hb, hc⟩ => by
    have ih := items_le ws (kdM w) hc
    unfold itemsK pmC sgC
    cases hk : kdM w with
    | unk =>
      rw [hk] at hb ih
      simp [nxK, hk] at ih ⊢
      cases v <;> simp [Kd.beh] at hb <;> simp <;> omega
    | num =>
      rw [hk] at hb ih
      cases hn : nxK ws with
      | true =>
        rw [hn] at ih
        simp [nxK, hk] at ih ⊢
        cases v <;> simp [Kd.beh] at hb <;> simp <;> omega
      | false =>
        rw [hn] at ih
        simp [nxK, hk] at ih ⊢
        cases v <;> simp [Kd.beh] at hb <;> simp <;> omega
    | plus =>
      rw [hk] at hb ih
      simp [nxK, hk] at ih ⊢
      cases v <;> simp [Kd.beh] at hb <;> simp <;> omega
    | minus =>
      rw [hk] at hb ih
      simp [nxK, hk] at ih ⊢
      cases v <;> simp [Kd.beh] at hb <;> simp <;> omega
    | sgn =>
      rw [hk] at hb ih
      simp [nxK, hk] at ih ⊢
      cases v <;> simp [Kd.beh] at hb <;> simp <;> omega
def pmT : List Nat → Nat
  | [] => 0
  | c :: cs => (if c = 43 ∨ c = 45 then 1 else 0) + pmT cs
theorem pm_app : ∀ a b : List Nat, pmT (a ++ b) = pmT a + pmT b
  | [], b => by simp [pmT]
  | c :: a, b => by
    rw [List.cons_append, pmT, pmT, pm_app a b]
    omega
theorem pm_take_drop (k : Nat) (cs : List Nat) : pmT (cs.take k) + pmT (cs.drop k) = pmT cs := by rw [← pm_app, List.take_append_drop]
theorem pm_word (w : List Nat) : (if kdM w = .plus ∨ kdM w = .minus then 1 else 0) ≤ pmT w := by
  split
  · rename_i h
    rcases h with h | h
    · rw [kd_plus h]; decide
    · rw [kd_minus h]; decide
  · exact Nat.zero_le _
theorem pm_lex : ∀ (f p : Nat) (cs : List Nat), pmC ((lexM f p cs).1.map (·.2)) ≤ pmT cs
  | 0, p, cs => by simp [lexM, pmC]
  | f + 1, p, [] => by simp [lexM, pmC]
  | f + 1, p, c :: r => by
    simp only [lexM]
    split
    · have := pm_lex f (p + 1) r
      unfold pmT
      omega
    · split
      · simp [pmC]
      · split
        · have h1 := pm_word ((c :: r).take (tokE (c :: r)))
          have h2 := pm_take_drop (tokE (c :: r)) (c :: r)
          simp only [List.map_cons, List.map_nil, pmC]
          omega
        · have h1 := pm_word ((c :: r).take (tokE (c :: r)))
          have h2 := pm_take_drop (tokE (c :: r)) (c :: r)
          have h3 := pm_lex f (p + tokE (c :: r)) ((c :: r).drop (tokE (c :: r)))
          simp only [List.map_cons, pmC]
          omega
theorem kd_sgn_take {c : Nat} {r : List Nat} (h0 : tokE (c :: r) ≠ 0) (hk : kdM ((c :: r).take (tokE (c :: r))) = .sgn) : SgT (wS ((c :: r).take (tokE (c :: r)))) := by
  obtain ⟨k, hk'⟩ : ∃ k, tokE (c :: r) = k + 1 := ⟨tokE (c :: r) - 1, by omega⟩
  by_cases a1 : inC DIGS c = true
  · rw [hk', List.take_succ_cons] at hk
    simp [kdM, a1] at hk
  · by_cases a2 : inC LETS c = true
    · rw [hk', List.take_succ_cons] at hk
      simp [kdM, a1, a2] at hk
    · by_cases a3 : is2 c r = true
      · have e : tokE (c :: r) = 2 := by simp [tokE, a1, a2, a3]
        rw [e]
        unfold is2 at a3
        cases r with
        | nil => cases a3
        | cons d r =>
          simp at a3
          obtain ⟨h1, rfl⟩ := a3
          rcases h1 with rfl | rfl
          · left; left
            show (⟨#[60, 61]⟩ : Str) = "<="
            decide
          · right; left
            show (⟨#[62, 61]⟩ : Str) = ">="
            decide
      · by_cases a4 : inC OPSC c = true
        · have e : tokE (c :: r) = 1 := by simp [tokE, a1, a2, a3, a4]
          rw [e] at hk ⊢
          rw [inC_iff, decide_eq_true_eq, show OPSC.cps.toList = [43, 45, 60, 61, 62] by decide +kernel] at a4
          simp only [List.mem_cons, List.not_mem_nil, or_false] at a4
          rcases a4 with rfl | rfl | rfl | rfl | rfl
          · simp [kdM, a1, a2] at hk
          · simp [kdM, a1, a2] at hk
          · left; right; left
            show (⟨#[60]⟩ : Str) = "<"
            decide
          · left; right; right
            show (⟨#[61]⟩ : Str) = "="
            decide
          · right; right
            show (⟨#[62]⟩ : Str) = ">"
            decide
        · exact absurd (by simp [tokE, a1, a2, a3, a4]) h0
theorem lex_tok : ∀ (f p : Nat) (cs : List Nat), (∀ x ∈ cs, x < 0x110000) → cs.length ≤ 10000 → ∀ w ∈ (lexM f p cs).1.map (·.2), TOkW w ∧ (kdM w = .sgn → SgT (wS w))
  | 0, p, cs, _, _, w, hq => by simp [lexM] at hq
  | f + 1, p, [], _, _, w, hq => by simp [lexM] at hq
  | f + 1, p, c :: r, h, hl, w, hq => by
    have one : tokE (c :: r) ≠ 0 → TOkW ((c :: r).take (tokE (c :: r))) ∧ (kdM ((c :: r).take (tokE (c :: r))) = .sgn → SgT (wS ((c :: r).take (tokE (c :: r))))) := fun h0 => by
      refine ⟨⟨tokE_pos_w (t := "") h hl h0, fun hn => ?_⟩, kd_sgn_take h0⟩
      by_cases hc : inC DIGS c = true
      · exact num_take hc
      · exfalso
        obtain ⟨k, hk'⟩ : ∃ k, tokE (c :: r) = k + 1 := ⟨tokE (c :: r) - 1, by omega⟩
        rw [hk', List.take_succ_cons] at hn
        simp only [kdM, if_neg hc] at hn
        split at hn
        · cases hn
        · split at hn
          · cases hn
          · split at hn <;> cases hn
    simp only [lexM] at hq
    split at hq
    · exact lex_tok f (p + 1) r (fun x hx => h x (List.mem_cons_of_mem _ hx)) (by rw [List.length_cons] at hl; omega) w hq
    · split at hq
      · cases hq
      · rename_i _ h0
        split at hq
        · rw [List.map_cons, List.map_nil] at hq
          rw [List.mem_singleton.mp hq]
          exact one h0
        · rw [List.map_cons] at hq
          rcases List.mem_cons.mp hq with hq | hq
          · rw [hq]
            exact one h0
          · exact lex_tok f _ _ (fun x hx => h x (List.mem_of_mem_drop hx)) (by rw [List.length_drop]; omega) w hq
theorem sign_of : ∀ (ws : List (List Nat)) (s : St8), (∀ w ∈ ws, kdM w = .sgn → SgT (wS w)) → SgT s.sign ∨ 0 < sgC ws → SgT (runK ws s).sign
  | [], s, _, h => by
    rcases h with h | h
    · exact h
    · cases h
  | w :: ws, s, hw, h => by
    show SgT (runK ws (stepK w (nxK ws) s)).sign
    refine sign_of ws _ (fun x hx => hw x (List.mem_cons_of_mem _ hx)) ?_
    by_cases hk : kdM w = .sgn
    · left
      unfold stepK
      rw [hk]
      exact hw w List.mem_cons_self hk
    · unfold sgC at h
      rw [if_neg hk, Nat.zero_add] at h
      rcases h with h | h
      · left
        unfold stepK
        cases hk2 : kdM w <;> first | exact absurd hk2 hk | exact h
      · exact .inr h
theorem lex_len : ∀ (f p : Nat) (cs : List Nat), (lexM f p cs).1.length ≤ cs.length
  | 0, p, cs => by simp [lexM]
  | f + 1, p, [] => by simp [lexM]
  | f + 1, p, c :: r => by
    simp only [lexM]
    split
    · have := lex_len f (p + 1) r
      rw [List.length_cons]; omega
    · split
      · simp
      · rename_i _ h0
        split
        · simp
        · have := lex_len f (p + tokE (c :: r)) ((c :: r).drop (tokE (c :: r)))
          rw [List.length_drop] at this
          have kle := tokE_le (c :: r)
          rw [List.length_cons (a := (p, _))]
          omega
theorem pg_read_rowG {t : Str} (h : TOk t) (hl : t.cps.toList.length ≤ 900) (hpm : pmT t.cps.toList ≤ 8) : match faultM t.cps.toList.length (lexT t) with
    | some (p, s) => PG.B_read_row (.str t) = .ex (tErr p s)
    | none => ∃ r : Rw, PG.B_read_row (.str t) = .ok (rD r) := by
  have hw : ∀ q ∈ (lexT t).1, WOk q.2 := lex_words _ _ _ h.cps h.len
  have t1 : PG.m__tokens [.str t] = _ := pg_tokensG h
  have c1 : PG.m__check [.str t, .list ((lexT t).1.map tokD), wrongD (lexT t).2] = _ := pg_checkG h hw
  cases hf : faultM t.cps.toList.length (lexT t) with
  | some ps =>
    obtain ⟨p, s⟩ := ps
    rw [hf] at c1
    dsimp only at c1 ⊢
    generalize (lexT t).1.map tokD = TS at *
    generalize wrongD (lexT t).2 = WR at *
    simp [PG.B_read_row, PG.S_read_row, t1, c1]
  | none =>
    rw [hf] at c1
    dsimp only at c1 ⊢
    have hlt := lex_tok (t.cps.toList.length + 1) 0 t.cps.toList h.cps h.len
    have hpl := pm_lex (t.cps.toList.length + 1) 0 t.cps.toList
    have hll := lex_len (t.cps.toList.length + 1) 0 t.cps.toList
    change ∀ w ∈ (lexT t).1.map (·.2), _ at hlt
    change pmC ((lexT t).1.map (·.2)) ≤ _ at hpl
    change (lexT t).1.length ≤ _ at hll
    unfold faultM at hf
    cases hck : ckM .sgn 0 (lexT t).1 with
    | inl p => rw [hck] at hf; cases hf
    | inr q =>
      obtain ⟨v, sg⟩ := q
      rw [hck] at hf
      dsimp only at hf
      cases hwr : (lexT t).2 with
      | some q => rw [hwr] at hf; cases hf
      | none =>
        rw [hwr] at hf
        dsimp only at hf
        have hz : ¬ (sg = 0 ∨ v.isEnd = false) := fun z => by rw [if_pos z] at hf; cases hf
        obtain ⟨k1, k2, k3⟩ := ck_inr _ _ _ _ _ hck
        have hsg1 : sg ≤ 1 := ck_sg _ _ _ _ _ (by decide) hck
        have hit := items_le _ _ k1
        simp at hit
        have hit10 : itemsK ((lexT t).1.map (·.2)) ≤ 10 := by omega
        obtain ⟨v', SZ⟩ := runK_sz _ _ _ _ (fun w hx => (hlt w hx).1) k1 st0_szK
        obtain ⟨b, hb1, hb2⟩ := SZ.bound
        have sgT := sign_of ((lexT t).1.map (·.2)) st0 (fun w hx => (hlt w hx).2) (.inr (by omega))
        obtain ⟨r, hr⟩ := row_any SZ.pairs (by omega) (hb1.mono (by omega)) SZ.low sgT
        have r1 : PG.m__row_of [.list (((lexT t).1.map (·.2)).map fun w => .str (wS w))] = .ok (rD r) := pg_row_ofK (fun w hx => (hlt w hx).1) (by rw [List.length_map]; omega) k1 (by omega) hr
        rw [List.map_map] at r1
        have cm : ∀ a0 a1 a2 : Ent, compL (tupT 2 (consTs (nameT 3) (consTs (nameT 4) nilTs))) yesT (varF 4) [a0, a1, a2, .un, .un] ((lexT t).1.map tokD) [] = some ((lexT t).1.map ((fun w => PyData.str (wS w)) ∘ fun x => x.2)) := by
          intro a0 a1 a2
          refine compL_map tokD (fun q => PyData.str (wS q.2)) (lexT t).1 (fun q _ => ?_) (by omega)
          simp [tokD, wS]
        refine ⟨r, ?_⟩
        rw [hwr] at t1 c1
        generalize (lexT t).1.map tokD = TS at *
        generalize (lexT t).1.map ((fun w => PyData.str (wS w)) ∘ fun x => x.2) = WS at *
        simp [PG.B_read_row, PG.S_read_row, t1, c1, cm, r1, wrongD]
        simp [wrongD] at t1 c1
        simp [t1, c1, cm, r1]
end DL
namespace DL
open PySem PySem.Spec PyProof.Rows L2 RT PySem.NumText
noncomputable abbrev c1L : Rho → Res Bool := andT (testF (binF dLt (varF 3) (appF (app1 bLen) (consA (varF 0) nilA)))) (andT (testF (binF dIn3 (binF dIx (varF 0) (varF 3)) (cF (.str "0123456789")))) (andT (testF (binF dNe (binF dIx (varF 0) (varF 1)) (cF (.str "0")))) (testF (binF dLt (varF 3) (binF dAdd (varF 1) (cF (.int 6)))))))
noncomputable abbrev c2L : Rho → Res Bool := andT (testF (binF dLt (varF 4) (appF (app1 bLen) (consA (varF 0) nilA)))) (andT (testF (binF dIn3 (binF dIx (varF 0) (varF 4)) (cF (.str "0123456789")))) (testF (binF dLt (varF 4) (binF dAdd (varF 3) (cF (.int 7))))))
noncomputable abbrev c3L : Rho → Res Bool := andT (testF (binF dLt (varF 3) (appF (app1 bLen) (consA (varF 0) nilA)))) (andT (testF (binF dIn3 (binF dIx (varF 0) (varF 3)) (binF dAdd (varF 2) (cF (.str "0123456789"))))) (testF (binF dLt (varF 3) (binF dAdd (varF 1) (cF (.int 8))))))
theorem inD {c : Nat} : dIn3 (.str (ch c)) (.str "0123456789") = some (.bool (inC DIGS c)) := in_ch
theorem inA {c : Nat} : dIn3 (.str (ch c)) (.str ALNUM) = some (.bool (inC ALNUM c)) := in_ch
section
variable {t : Str} (h : TOk t)
include h
theorem wh1 {p c0 : Nat} (h0 : t.cps.toList[p]? = some c0) (n0 : c0 ≠ 48) {x2 : PyData} {z : Ent} : ∀ (k e : Nat), k + e = t.cps.toList.length → p ≤ e →
    whileS c1L LH.L_token_1 [.d (.str t), .d (.int (p : Int)), .d x2, .d (.int (e : Int)), z] = .nx [.d (.str t), .d (.int (p : Int)), .d x2, .d (.int ((e + runL DIGS (t.cps.toList.drop e) (6 - (e - p)) : Nat) : Int)), z] := by
  have hm0 := h.cps _ (List.mem_of_getElem? h0)
  have ne := ne_ch hm0 (show 48 < 0x110000 by decide)
  rw [← s48, decide_eq_false n0] at ne
  intro k
  induction k with
  | zero =>
    intro e he hp
    rw [whileS_eq]
    have hd : t.cps.toList.drop e = [] := List.drop_eq_nil_of_le (by omega)
    have hn : ¬ ((e : Int) < (t.cps.toList.length : Int)) := by omega
    simp only [hd, runL, Nat.add_zero]
    simp [-Array.length_toList, bLen_s h, hn]
  | succ k ih =>
    intro e he hp
    have hl : e < t.cps.toList.length := by omega
    have hc : t.cps.toList[e]? = some t.cps.toList[e] := List.getElem?_eq_getElem hl
    have hd := List.drop_eq_getElem_cons hl
    have hlt : (e : Int) < (t.cps.toList.length : Int) := by omega
    rw [whileS_eq, hd]
    generalize t.cps.toList[e] = c at hc hd
    by_cases hm : e - p < 6
    · have hm1 : (e : Int) < (p : Int) + 6 := by omega
      obtain ⟨m', hm'⟩ : ∃ m', 6 - (e - p) = m' + 1 := ⟨6 - (e - p) - 1, by omega⟩
      have hm2 : 6 - (e + 1 - p) = m' := by omega
      rw [hm']
      unfold runL
      cases hi : inC DIGS c with
      | true =>
        have z := ih (e + 1) (by omega) (by omega)
        rw [hm2] at z
        have cast : ((e + 1 : Nat) : Int) = (e : Int) + 1 := by omega
        rw [cast] at z
        have hin := inD (c := c)
        rw [hi] at hin
        simp [-Array.length_toList, bLen_s h, hlt, hm1, ix_ch h hc, hin, ix_ch h h0, ne, LH.L_token_1]
        simp only [LH.L_token_1] at z
        rw [z]
        simp only [Out.nx.injEq, List.cons.injEq, Ent.d.injEq, PyData.int.injEq, and_true, true_and]
        omega
      | false =>
        have hin := inD (c := c)
        rw [hi] at hin
        simp [-Array.length_toList, bLen_s h, hlt, hm1, ix_ch h hc, hin]
    · have hm1 : ¬ ((e : Int) < (p : Int) + 6) := by omega
      have hm2 : 6 - (e - p) = 0 := by omega
      rw [hm2]
      have hin := inD (c := c)
      unfold runL
      cases hi : inC DIGS c with
      | true =>
        rw [hi] at hin
        simp [-Array.length_toList, bLen_s h, hlt, hm1, ix_ch h hc, hin, ix_ch h h0, ne]
      | false =>
        rw [hi] at hin
        simp [-Array.length_toList, bLen_s h, hlt, hm1, ix_ch h hc, hin]
theorem wh2 {q : Nat} {x1 x2 : PyData} : ∀ (k e : Nat), k + e = t.cps.toList.length → q ≤ e →
    whileS c2L LH.L_token_2 [.d (.str t), .d x1, .d x2, .d (.int (q : Int)), .d (.int (e : Int))] = .nx [.d (.str t), .d x1, .d x2, .d (.int (q : Int)), .d (.int ((e + runL DIGS (t.cps.toList.drop e) (7 - (e - q)) : Nat) : Int))] := by
  intro k
  induction k with
  | zero =>
    intro e he hp
    rw [whileS_eq]
    have hd : t.cps.toList.drop e = [] := List.drop_eq_nil_of_le (by omega)
    have hn : ¬ ((e : Int) < (t.cps.toList.length : Int)) := by omega
    simp only [hd, runL, Nat.add_zero]
    simp [-Array.length_toList, bLen_s h, hn]
  | succ k ih =>
    intro e he hp
    have hl : e < t.cps.toList.length := by omega
    have hc : t.cps.toList[e]? = some t.cps.toList[e] := List.getElem?_eq_getElem hl
    have hd := List.drop_eq_getElem_cons hl
    have hlt : (e : Int) < (t.cps.toList.length : Int) := by omega
    rw [whileS_eq, hd]
    generalize t.cps.toList[e] = c at hc hd
    have hin := inD (c := c)
    by_cases hm : e - q < 7
    · have hm1 : (e : Int) < (q : Int) + 7 := by omega
      obtain ⟨m', hm'⟩ : ∃ m', 7 - (e - q) = m' + 1 := ⟨7 - (e - q) - 1, by omega⟩
      have hm2 : 7 - (e + 1 - q) = m' := by omega
      rw [hm']
      unfold runL
      cases hi : inC DIGS c with
      | true =>
        have z := ih (e + 1) (by omega) (by omega)
        rw [hm2] at z
        have cast : ((e + 1 : Nat) : Int) = (e : Int) + 1 := by omega
        rw [cast] at z
        rw [hi] at hin
        simp [-Array.length_toList, bLen_s h, hlt, hm1, ix_ch h hc, hin, LH.L_token_2]
        simp only [LH.L_token_2] at z
        rw [z]
        simp only [Out.nx.injEq, List.cons.injEq, Ent.d.injEq, PyData.int.injEq, and_true, true_and]
        omega
      | false =>
        rw [hi] at hin
        simp [-Array.length_toList, bLen_s h, hlt, hm1, ix_ch h hc, hin]
    · have hm1 : ¬ ((e : Int) < (q : Int) + 7) := by omega
      have hm2 : 7 - (e - q) = 0 := by omega
      rw [hm2]
      unfold runL
      cases hi : inC DIGS c with
      | true =>
        rw [hi] at hin
        simp [-Array.length_toList, bLen_s h, hlt, hm1, ix_ch h hc, hin]
      | false =>
        rw [hi] at hin
        simp [-Array.length_toList, bLen_s h, hlt, hm1, ix_ch h hc, hin]
theorem wh3 {p : Nat} {z : Ent} : ∀ (k e : Nat), k + e = t.cps.toList.length → p ≤ e →
    whileS c3L LH.L_token_3 [.d (.str t), .d (.int (p : Int)), .d (.str "abcdefghijklmnopqrstuvwxyz"), .d (.int (e : Int)), z] = .nx [.d (.str t), .d (.int (p : Int)), .d (.str "abcdefghijklmnopqrstuvwxyz"), .d (.int ((e + runL ALNUM (t.cps.toList.drop e) (8 - (e - p)) : Nat) : Int)), z] := by
  intro k
  induction k with
  | zero =>
    intro e he hp
    rw [whileS_eq]
    have hd : t.cps.toList.drop e = [] := List.drop_eq_nil_of_le (by omega)
    have hn : ¬ ((e : Int) < (t.cps.toList.length : Int)) := by omega
    simp only [hd, runL, Nat.add_zero]
    simp [-Array.length_toList, bLen_s h, hn]
  | succ k ih =>
    intro e he hp
    have hl : e < t.cps.toList.length := by omega
    have hc : t.cps.toList[e]? = some t.cps.toList[e] := List.getElem?_eq_getElem hl
    have hd := List.drop_eq_getElem_cons hl
    have hlt : (e : Int) < (t.cps.toList.length : Int) := by omega
    rw [whileS_eq, hd]
    generalize t.cps.toList[e] = c at hc hd
    have hin := inA (c := c)
    by_cases hm : e - p < 8
    · have hm1 : (e : Int) < (p : Int) + 8 := by omega
      obtain ⟨m', hm'⟩ : ∃ m', 8 - (e - p) = m' + 1 := ⟨8 - (e - p) - 1, by omega⟩
      have hm2 : 8 - (e + 1 - p) = m' := by omega
      rw [hm']
      unfold runL
      cases hi : inC ALNUM c with
      | true =>
        have z := ih (e + 1) (by omega) (by omega)
        rw [hm2] at z
        have cast : ((e + 1 : Nat) : Int) = (e : Int) + 1 := by omega
        rw [cast] at z
        rw [hi] at hin
        simp [-Array.length_toList, bLen_s h, hlt, hm1, ix_ch h hc, hin, alnum_add, LH.L_token_3]
        simp only [LH.L_token_3] at z
        rw [z]
        simp only [Out.nx.injEq, List.cons.injEq, Ent.d.injEq, PyData.int.injEq, and_true, true_and]
        omega
      | false =>
        rw [hi] at hin
        simp [-Array.length_toList, bLen_s h, hlt, hm1, ix_ch h hc, hin, alnum_add]
    · have hm1 : ¬ ((e : Int) < (p : Int) + 8) := by omega
      have hm2 : 8 - (e - p) = 0 := by omega
      rw [hm2]
      unfold runL
      cases hi : inC ALNUM c with
      | true =>
        rw [hi] at hin
        simp [-Array.length_toList, bLen_s h, hlt, hm1, ix_ch h hc, hin, alnum_add]
      | false =>
        rw [hi] at hin
        simp [-Array.length_toList, bLen_s h, hlt, hm1, ix_ch h hc, hin, alnum_add]
end
end DL
namespace DL
open PySem PySem.Spec PyProof.Rows L2 RT PySem.NumText
def lkT : Kd → Str
  | .num => "number"
  | .unk => "name"
  | .plus => "+"
  | .minus => "-"
  | .sgn => "sign"
def nextB (f : Nat → Bool) : List Nat → Bool
  | [] => false
  | d :: _ => f d
def brK (cs : List Nat) : Bool := cutE cs (tokE cs) || (match cs with | [] => false | c :: _ => inC DIGS c && nextB (fun d => decide (d = 47)) (cs.drop (tokE cs)))
theorem in19 {c : Nat} : inC "123456789" c = (inC DIGS c && !decide (c = 48)) := by
  rw [Bool.eq_iff_iff]
  simp only [Bool.and_eq_true, Bool.not_eq_true', decide_eq_false_iff_not]
  rw [dig_iff, inC_iff, decide_eq_true_eq, show ("123456789" : Str).cps.toList = [49, 50, 51, 52, 53, 54, 55, 56, 57] by decide +kernel]
  simp only [List.mem_cons, List.not_mem_nil, or_false]
  omega
theorem alnum_or {c : Nat} : inC ALNUM c = (inC LETS c || inC DIGS c) := by
  rw [Bool.eq_iff_iff, Bool.or_eq_true, inC_iff, inC_iff, inC_iff, decide_eq_true_eq, decide_eq_true_eq, decide_eq_true_eq, ← List.mem_append]
  rw [show ALNUM.cps.toList = LETS.cps.toList ++ DIGS.cps.toList by decide +kernel]
section
variable {t : Str} (h : TOk t)
include h
theorem wh1z {p : Nat} (h0 : t.cps.toList[p]? = some 48) {x2 : PyData} {z : Ent} : whileS c1L LH.L_token_1 [.d (.str t), .d (.int (p : Int)), .d x2, .d (.int ((p : Int) + 1)), z] = .nx [.d (.str t), .d (.int (p : Int)), .d x2, .d (.int ((p : Int) + 1)), z] := by
  have ne := ne_ch (show 48 < 0x110000 by decide) (show 48 < 0x110000 by decide)
  rw [← s48] at ne
  have ne' : dNe (.str (ch 48)) (.str "0") = some (.bool false) := ne
  rw [whileS_eq]
  by_cases hl : p + 1 < t.cps.toList.length
  · have hc : t.cps.toList[p + 1]? = some t.cps.toList[p + 1] := List.getElem?_eq_getElem hl
    have hlt : ((p : Int) + 1) < (t.cps.toList.length : Int) := by omega
    generalize t.cps.toList[p + 1] = c at hc
    have hx := ix_ch h hc
    rw [show ((p + 1 : Nat) : Int) = (p : Int) + 1 by omega] at hx
    have hin := inD (c := c)
    cases hi : inC DIGS c with
    | true =>
      rw [hi] at hin
      have hx0 := ix_ch h h0
      rw [s48] at ne'
      simp [-Array.length_toList, bLen_s h, hlt, hx, hin, hx0, s48, ne']
    | false =>
      rw [hi] at hin
      simp [-Array.length_toList, bLen_s h, hlt, hx, hin]
  · have hlt : ¬ ((p : Int) + 1) < (t.cps.toList.length : Int) := by omega
    simp [-Array.length_toList, bLen_s h, hlt]
noncomputable abbrev numRet : Rho → Out := (retS (tupF (consA (cF (.str "number")) (consA (varF 3) (consA (andV (binF dLt (varF 3) (appF (app1 bLen) (consA (varF 0) nilA))) (orV (binF dIn3 (binF dIx (varF 0) (varF 3)) (cF (.str "0123456789"))) (binF dEq (binF dIx (varF 0) (varF 3)) (cF (.str "/"))))) nilA)))))
theorem num_ret {x1 x2 : PyData} {e : Nat} {z : Ent} : numRet [.d (.str t), .d x1, .d x2, .d (.int (e : Int)), z] = .rt (.tuple [.str "number", .int (e : Int), .bool (nextB (fun d => inC DIGS d || decide (d = 47)) (t.cps.toList.drop e))]) := by
  by_cases hl : e < t.cps.toList.length
  · have hc : t.cps.toList[e]? = some t.cps.toList[e] := List.getElem?_eq_getElem hl
    have hd := List.drop_eq_getElem_cons hl
    have hlt : (e : Int) < (t.cps.toList.length : Int) := by omega
    have hm := h.cps _ (List.getElem_mem hl)
    rw [hd]
    generalize t.cps.toList[e] = c at hc hd hm
    have hin := inD (c := c)
    have eq := eq_ch hm (show 47 < 0x110000 by decide)
    rw [← s47] at eq
    cases hi : inC DIGS c with
    | true =>
      rw [hi] at hin
      simp [-Array.length_toList, bLen_s h, hlt, ix_ch h hc, hin, nextB, hi]
    | false =>
      rw [hi] at hin
      simp [-Array.length_toList, bLen_s h, hlt, ix_ch h hc, hin, nextB, hi, eq]
  · have hlt : ¬ (e : Int) < (t.cps.toList.length : Int) := by omega
    have hd : t.cps.toList.drop e = [] := List.drop_eq_nil_of_le (by omega)
    simp [-Array.length_toList, bLen_s h, hlt, hd, nextB]
noncomputable abbrev nameRet : Rho → Out := (retS (tupF (consA (cF (.str "name")) (consA (varF 3) (consA (andV (binF dLt (varF 3) (appF (app1 bLen) (consA (varF 0) nilA))) (binF dIn3 (binF dIx (varF 0) (varF 3)) (binF dAdd (varF 2) (cF (.str "0123456789"))))) nilA)))))
theorem name_ret {x1 : PyData} {e : Nat} {z : Ent} : nameRet [.d (.str t), .d x1, .d (.str "abcdefghijklmnopqrstuvwxyz"), .d (.int (e : Int)), z] = .rt (.tuple [.str "name", .int (e : Int), .bool (nextB (inC ALNUM) (t.cps.toList.drop e))]) := by
  by_cases hl : e < t.cps.toList.length
  · have hc : t.cps.toList[e]? = some t.cps.toList[e] := List.getElem?_eq_getElem hl
    have hd := List.drop_eq_getElem_cons hl
    have hlt : (e : Int) < (t.cps.toList.length : Int) := by omega
    rw [hd]
    generalize t.cps.toList[e] = c at hc hd
    have hin := inA (c := c)
    simp [-Array.length_toList, bLen_s h, hlt, ix_ch h hc, hin, nextB, alnum_add]
  · have hlt : ¬ (e : Int) < (t.cps.toList.length : Int) := by omega
    have hd : t.cps.toList.drop e = [] := List.drop_eq_nil_of_le (by omega)
    simp [-Array.length_toList, bLen_s h, hlt, hd, nextB]
noncomputable abbrev slashS : Rho → Out := (ifS (andT (testF (binF dLt (binF dAdd (varF 3) (cF (.int 1))) (appF (app1 bLen) (consA (varF 0) nilA)))) (andT (testF (binF dEq (binF dIx (varF 0) (varF 3)) (cF (.str "/")))) (testF (binF dIn3 (binF dIx (varF 0) (binF dAdd (varF 3) (cF (.int 1)))) (cF (.str "123456789")))))) (seqS (asgS (binF dAdd (varF 3) (cF (.int 2))) (nameT 4)) (seqS (whileS c2L LH.L_token_2) (asgS (varF 4) (nameT 3)))) nxS)
theorem slash_run {x1 x2 : PyData} {e : Nat} {z : Ent} (he : e ≤ t.cps.toList.length) : ∃ z', slashS [.d (.str t), .d x1, .d x2, .d (.int (e : Int)), z] = .nx [.d (.str t), .d x1, .d x2, .d (.int ((match t.cps.toList.drop e with
    | c :: d :: _ => if c = 47 ∧ inC DIGS d = true ∧ d ≠ 48 then e + 1 + digE (t.cps.toList.drop (e + 1)) else e
    | _ => e : Nat) : Int)), z'] := by
  cases hr : t.cps.toList.drop e with
  | nil =>
    have hl := congrArg List.length hr
    rw [List.length_drop, List.length_nil] at hl
    have hn : ¬ ((e : Int) + 1 < (t.cps.toList.length : Int)) := by omega
    exact ⟨z, by simp [-Array.length_toList, bLen_s h, hn]⟩
  | cons c r =>
    have hl := congrArg List.length hr
    rw [List.length_drop, List.length_cons] at hl
    cases r with
    | nil =>
      rw [List.length_nil] at hl
      have hn : ¬ ((e : Int) + 1 < (t.cps.toList.length : Int)) := by omega
      exact ⟨z, by simp [-Array.length_toList, bLen_s h, hn]⟩
    | cons d r =>
      rw [List.length_cons] at hl
      have hlt : (e : Int) + 1 < (t.cps.toList.length : Int) := by omega
      have hc : t.cps.toList[e]? = some c := by
        have := congrArg List.head? hr
        rwa [List.head?_drop] at this
      have hr1 : t.cps.toList.drop (e + 1) = d :: r := by rw [← List.drop_drop, hr]; rfl
      have hr2 : t.cps.toList.drop (e + 2) = r := by rw [← List.drop_drop, hr]; rfl
      have hd : t.cps.toList[e + 1]? = some d := by
        have := congrArg List.head? hr1
        rwa [List.head?_drop] at this
      have hm := h.cps _ (List.mem_of_getElem? hc)
      have eq := eq_ch hm (show 47 < 0x110000 by decide)
      rw [← s47] at eq
      have ix1 := ix_ch h hd
      rw [show ((e + 1 : Nat) : Int) = (e : Int) + 1 by omega] at ix1
      have hin : dIn3 (.str (ch d)) (.str "123456789") = some (.bool (inC "123456789" d)) := in_ch
      rw [in19] at hin
      have w2 := wh2 h (q := e) (x1 := x1) (x2 := x2) (t.cps.toList.length - (e + 2)) (e + 2) (by omega) (by omega)
      rw [hr2, show 7 - (e + 2 - e) = 5 by omega, show ((e + 2 : Nat) : Int) = (e : Int) + 2 by omega] at w2
      by_cases h47 : c = 47
      · subst h47
        have eq' : dEq (.str (ch 47)) (.str "/") = some (.bool true) := eq
        by_cases hg : inC DIGS d = true ∧ d ≠ 48
        · have hin' : dIn3 (.str (ch d)) (.str "123456789") = some (.bool true) := by rw [hin, hg.1, decide_eq_false hg.2]; rfl
          have dg : digE (d :: r) = runL DIGS r 5 + 1 := by
            simp only [digE, if_neg hg.2]
            rw [runL, if_pos hg.1]
          refine ⟨.d (.int ((e + 2 + runL DIGS r 5 : Nat) : Int)), ?_⟩
          simp only [hg.1, hr1, dg]
          simp [-Array.length_toList, bLen_s h, hlt, ix_ch h hc, ix1, eq', hin', hg.2, w2]
          omega
        · have hin' : dIn3 (.str (ch d)) (.str "123456789") = some (.bool false) := by
            rw [hin]
            congr 2
            rw [Bool.and_eq_false_iff]
            by_cases a : inC DIGS d = true
            · right
              have : d = 48 := by
                by_cases z : d = 48
                · exact z
                · exact absurd ⟨a, z⟩ hg
              simp [this]
            · left; simpa using a
          refine ⟨z, ?_⟩
          have hg2 : ¬ (47 = 47 ∧ inC DIGS d = true ∧ d ≠ 48) := fun z => hg z.2
          simp only [if_neg hg2]
          simp [-Array.length_toList, bLen_s h, hlt, ix_ch h hc, ix1, eq', hin']
          rw [if_neg hg]
      · have eq' : dEq (.str (ch c)) (.str "/") = some (.bool false) := by rw [eq, decide_eq_false h47]
        refine ⟨z, ?_⟩
        have hg2 : ¬ (c = 47 ∧ inC DIGS d = true ∧ d ≠ 48) := fun z => h47 z.1
        simp only [if_neg hg2]
        simp [-Array.length_toList, bLen_s h, hlt, ix_ch h hc, ix1, eq']
end
end DL
namespace DL
open PySem PySem.Spec PyProof.Rows L2 RT PySem.NumText
theorem let_iff {c : Nat} : inC LETS c = true ↔ 97 ≤ c ∧ c ≤ 122 := by
  rw [inC_iff, decide_eq_true_eq, show LETS.cps.toList = [97, 98, 99, 100, 101, 102, 103, 104, 105, 106, 107, 108, 109, 110, 111, 112, 113, 114, 115, 116, 117, 118, 119, 120, 121, 122] by decide +kernel]
  simp only [List.mem_cons, List.not_mem_nil, or_false]
  omega
theorem dig_not_let {c : Nat} (h : inC DIGS c = true) : inC LETS c = false := by
  rw [Bool.eq_false_iff]
  intro z
  have := dig_iff.mp h
  have := let_iff.mp z
  omega
def tokR (p : Nat) (cs : List Nat) : PyData := if tokE cs = 0 then .tuple [.str "bad", .int (p : Int), .bool true] else .tuple [.str (lkT (kdM (cs.take (tokE cs)))), .int ((p + tokE cs : Nat) : Int), .bool (brK cs)]
theorem kd_take {c : Nat} {r : List Nat} (h0 : tokE (c :: r) ≠ 0) : kdM ((c :: r).take (tokE (c :: r))) = if inC DIGS c = true then .num else if inC LETS c = true then .unk else if is2 c r = true then .sgn else if c = 43 then .plus else if c = 45 then .minus else .sgn := by
  obtain ⟨k, hk⟩ : ∃ k, tokE (c :: r) = k + 1 := ⟨tokE (c :: r) - 1, by omega⟩
  rw [hk, List.take_succ_cons]
  simp only [kdM]
  by_cases a1 : inC DIGS c = true
  · rw [if_pos a1, if_pos a1]
  · rw [if_neg a1, if_neg a1]
    by_cases a2 : inC LETS c = true
    · rw [if_pos a2, if_pos a2]
    · rw [if_neg a2, if_neg a2]
      by_cases a3 : is2 c r = true
      · rw [if_pos a3]
        have hc : c = 60 ∨ c = 62 := by
          unfold is2 at a3
          cases r with
          | nil => cases a3
          | cons d r => simp at a3; exact a3.1
        rw [if_neg (by intro z; have := (List.cons.inj z).1; omega), if_neg (by intro z; have := (List.cons.inj z).1; omega)]
      · rw [if_neg a3]
        have e : tokE (c :: r) = 1 := by
          by_cases a4 : inC OPSC c = true
          · simp [tokE, a1, a2, a3, a4]
          · exact absurd (by simp [tokE, a1, a2, a3, a4]) h0
        have k0 : k = 0 := by omega
        subst k0
        simp
noncomputable def rest2T : Rho → Out := (seqS (ifS (testF (binF dIn3 (cutF (varF 0) (someP (varF 1)) (someP (binF dAdd (varF 1) (cF (.int 2))))) (lstF (consA (cF (.str "<=")) (consA (cF (.str ">=")) nilA))))) (retS (tupF (consA (cF (.str "sign")) (consA (binF dAdd (varF 1) (cF (.int 2))) (consA (cF (.bool false)) nilA))))) nxS) (seqS (ifS (testF (binF dIn3 (binF dIx (varF 0) (varF 1)) (cF (.str "<>=")))) (retS (tupF (consA (cF (.str "sign")) (consA (binF dAdd (varF 1) (cF (.int 1))) (consA (cF (.bool false)) nilA))))) nxS) (seqS (ifS (testF (binF dIn3 (binF dIx (varF 0) (varF 1)) (cF (.str "+-")))) (retS (tupF (consA (binF dIx (varF 0) (varF 1)) (consA (binF dAdd (varF 1) (cF (.int 1))) (consA (cF (.bool false)) nilA))))) nxS) (retS (tupF (consA (cF (.str "bad")) (consA (varF 1) (consA (cF (.bool true)) nilA))))))))
noncomputable def restT : Rho → Out := (seqS (ifS (testF (binF dIn3 (binF dIx (varF 0) (varF 1)) (varF 2))) (seqS (asgS (binF dAdd (varF 1) (cF (.int 1))) (nameT 3)) (seqS (whileS c3L LH.L_token_3) nameRet)) nxS) rest2T)
section
variable {t : Str} (h : TOk t)
include h
theorem lh_tokenG {p c : Nat} {r : List Nat} (hd : t.cps.toList.drop p = c :: r) : LH.B_token (.str t) (.int (p : Int)) = .ok (tokR p (c :: r)) := by
  have hl := congrArg List.length hd
  rw [List.length_drop, List.length_cons] at hl
  have hp : p < t.cps.toList.length := by omega
  have hc : t.cps.toList[p]? = some c := by
    have := congrArg List.head? hd
    rwa [List.head?_drop] at this
  have hm := h.cps _ (List.mem_of_getElem? hc)
  have hx := ix_ch h hc
  have hr1 : t.cps.toList.drop (p + 1) = r := by rw [← List.drop_drop, hd]; rfl
  have cast1 : ((p + 1 : Nat) : Int) = (p : Int) + 1 := by omega
  have q1 := inD (c := c)
  have q2 : dIn3 (.str (ch c)) (.str "abcdefghijklmnopqrstuvwxyz") = some (.bool (inC LETS c)) := in_ch
  by_cases a1 : inC DIGS c = true
  · rw [a1] at q1
    have e0 : tokE (c :: r) = numE (c :: r) := by simp [tokE, a1]
    have dle := digE_le (c :: r)
    rw [List.length_cons] at dle
    have wl : ∀ z : Ent, whileS c1L LH.L_token_1 [.d (.str t), .d (.int (p : Int)), .d (.str "abcdefghijklmnopqrstuvwxyz"), .d (.int ((p : Int) + 1)), z] = .nx [.d (.str t), .d (.int (p : Int)), .d (.str "abcdefghijklmnopqrstuvwxyz"), .d (.int ((p + digE (c :: r) : Nat) : Int)), z] := fun z => by
      by_cases h48 : c = 48
      · subst h48
        have := wh1z h hc (x2 := .str "abcdefghijklmnopqrstuvwxyz") (z := z)
        rw [this]
        have e1 : digE (48 :: r) = 1 := by simp [digE]
        rw [e1, cast1]
      · have w := wh1 h hc h48 (x2 := .str "abcdefghijklmnopqrstuvwxyz") (z := z) (t.cps.toList.length - (p + 1)) (p + 1) (by omega) (by omega)
        rw [hr1, show 6 - (p + 1 - p) = 5 by omega, cast1] at w
        have e1 : digE (c :: r) = runL DIGS r 5 + 1 := by
          simp only [digE, if_neg h48]
          rw [runL, if_pos a1]
        rw [e1, w, show p + 1 + runL DIGS r 5 = p + (runL DIGS r 5 + 1) by omega]
    have nle := numE_le (c :: r)
    rw [List.length_cons] at nle
    have dd : t.cps.toList.drop (p + digE (c :: r)) = (c :: r).drop (digE (c :: r)) := by rw [← List.drop_drop, hd]
    have dd1 : t.cps.toList.drop (p + digE (c :: r) + 1) = (c :: r).drop (digE (c :: r) + 1) := by rw [Nat.add_assoc, ← List.drop_drop, hd]
    obtain ⟨z', sl⟩ := slash_run h (x1 := .int (p : Int)) (x2 := .str "abcdefghijklmnopqrstuvwxyz") (e := p + digE (c :: r)) (z := .un) (by omega)
    have en : (match t.cps.toList.drop (p + digE (c :: r)) with
    | c' :: d :: _ => if c' = 47 ∧ inC DIGS d = true ∧ d ≠ 48 then p + digE (c :: r) + 1 + digE (t.cps.toList.drop (p + digE (c :: r) + 1)) else p + digE (c :: r)
    | _ => p + digE (c :: r) : Nat) = p + numE (c :: r) := by
      rw [dd, dd1]
      unfold numE
      generalize List.drop (digE (c :: r)) (c :: r) = L
      rcases L with _ | ⟨x, _ | ⟨y, r2⟩⟩
      · rfl
      · rfl
      · dsimp only
        split <;> omega
    have sl : slashS [.d (.str t), .d (.int (p : Int)), .d (.str "abcdefghijklmnopqrstuvwxyz"), .d (.int ((p + digE (c :: r) : Nat) : Int)), .un] = .nx [.d (.str t), .d (.int (p : Int)), .d (.str "abcdefghijklmnopqrstuvwxyz"), .d (.int ((p + numE (c :: r) : Nat) : Int)), z'] := by
      rw [← en]
      exact sl
    have nr := num_ret h (x1 := .int (p : Int)) (x2 := .str "abcdefghijklmnopqrstuvwxyz") (e := p + numE (c :: r)) (z := z')
    have dn : t.cps.toList.drop (p + numE (c :: r)) = (c :: r).drop (numE (c :: r)) := by rw [← List.drop_drop, hd]
    rw [dn] at nr
    have n0 : numE (c :: r) ≠ 0 := by
      obtain ⟨_, _, d3⟩ := dig_take (cs := c :: r) (fun c' r' e => by cases e; exact a1)
      have := d3 (by simp)
      unfold numE
      split
      · split <;> omega
      · omega
    have res : tokR p (c :: r) = .tuple [.str "number", .int ((p + numE (c :: r) : Nat) : Int), .bool (nextB (fun d => inC DIGS d || decide (d = 47)) ((c :: r).drop (numE (c :: r))))] := by
      unfold tokR
      rw [if_neg (by rw [e0]; exact n0), kd_take (by rw [e0]; exact n0), if_pos a1, e0]
      unfold brK cutE
      rw [e0]
      dsimp only
      cases (c :: r).drop (numE (c :: r)) with
      | nil => simp [nextB, lkT, a1]
      | cons d r2 => simp [nextB, lkT, a1, dig_not_let a1]
    rw [res]
    have wl' := wl .un
    unfold LH.B_token
    have fold : ∀ ρ, LH.S_token ρ = seqS (asgS (cF (.str "abcdefghijklmnopqrstuvwxyz")) (nameT 2)) (seqS (ifS (testF (binF dIn3 (binF dIx (varF 0) (varF 1)) (cF (.str "0123456789")))) (seqS (asgS (binF dAdd (varF 1) (cF (.int 1))) (nameT 3)) (seqS (whileS c1L LH.L_token_1) (seqS slashS numRet))) nxS) restT) ρ := fun ρ => rfl
    rw [fold]
    generalize hsl : slashS = SL at *
    generalize hnr : numRet = NR at *
    simp only [Int.natCast_add] at wl' sl nr ⊢
    simp [-Array.length_toList, hx, q1, wl', sl, nr]
  · have a1' : inC DIGS c = false := by simpa using a1
    rw [a1'] at q1
    have fold : ∀ ρ, LH.S_token ρ = seqS (asgS (cF (.str "abcdefghijklmnopqrstuvwxyz")) (nameT 2)) (seqS (ifS (testF (binF dIn3 (binF dIx (varF 0) (varF 1)) (cF (.str "0123456789")))) (seqS (asgS (binF dAdd (varF 1) (cF (.int 1))) (nameT 3)) (seqS (whileS c1L LH.L_token_1) (seqS slashS numRet))) nxS) restT) ρ := fun ρ => rfl
    have step : LH.B_token (.str t) (.int (p : Int)) = outFR (restT [.d (.str t), .d (.int (p : Int)), .d (.str "abcdefghijklmnopqrstuvwxyz"), .un, .un]) := by
      unfold LH.B_token
      rw [fold]
      generalize slashS = SL at *
      generalize numRet = NR at *
      generalize restT = RT at *
      simp [-Array.length_toList, hx, q1]
    rw [step]
    by_cases a2 : inC LETS c = true
    · rw [a2] at q2
      have e0 : tokE (c :: r) = runL ALNUM (c :: r) 8 := by simp [tokE, a1, a2]
      have aC : inC ALNUM c = true := by rw [alnum_or, a2]; rfl
      have e1 : runL ALNUM (c :: r) 8 = runL ALNUM r 7 + 1 := by rw [runL, if_pos aC]
      have rle := runL_le ALNUM r 7
      have w := wh3 h (p := p) (z := .un) (t.cps.toList.length - (p + 1)) (p + 1) (by omega) (by omega)
      rw [hr1, show 8 - (p + 1 - p) = 7 by omega, cast1] at w
      have nr := name_ret h (x1 := .int (p : Int)) (e := p + 1 + runL ALNUM r 7) (z := .un)
      have dn : t.cps.toList.drop (p + 1 + runL ALNUM r 7) = (c :: r).drop (runL ALNUM r 7 + 1) := by rw [show p + 1 + runL ALNUM r 7 = p + (runL ALNUM r 7 + 1) by omega, ← List.drop_drop, hd]
      rw [dn] at nr
      have n0 : tokE (c :: r) ≠ 0 := by rw [e0, e1]; omega
      have res : tokR p (c :: r) = .tuple [.str "name", .int ((p + 1 + runL ALNUM r 7 : Nat) : Int), .bool (nextB (inC ALNUM) ((c :: r).drop (runL ALNUM r 7 + 1)))] := by
        unfold tokR
        rw [if_neg n0, kd_take n0, if_neg a1, if_pos a2, e0, e1, show p + (runL ALNUM r 7 + 1) = p + 1 + runL ALNUM r 7 by omega]
        unfold brK cutE
        rw [e0, e1]
        dsimp only
        cases (c :: r).drop (runL ALNUM r 7 + 1) with
        | nil => simp [nextB, lkT]
        | cons d r2 => simp [nextB, lkT, a1', a2, alnum_or]
      rw [res]
      generalize hnr : nameRet = NR at *
      rw [List.drop_succ_cons] at nr ⊢
      push_cast at w nr ⊢
      simp [-Array.length_toList, restT, hx, q2, w, hnr, nr]
    · have a2' : inC LETS c = false := by simpa using a2
      rw [a2'] at q2
      have step2 : restT [.d (.str t), .d (.int (p : Int)), .d (.str "abcdefghijklmnopqrstuvwxyz"), .un, .un] = rest2T [.d (.str t), .d (.int (p : Int)), .d (.str "abcdefghijklmnopqrstuvwxyz"), .un, .un] := by
        unfold restT
        generalize nameRet = NR at *
        generalize rest2T = RT at *
        simp [-Array.length_toList, hx, q2]
      rw [step2]
      have c2 := cut_s h (a := p) (k := 2) (by omega)
      rw [hd, show ((p : Int) + ((2 : Nat) : Int)) = (p : Int) + 2 from rfl] at c2
      have okt : PySem.PyData.strOk ⟨((c :: r).take 2).toArray⟩ = true := ok_take (fun x hx => h.cps x (by
        have : x ∈ t.cps.toList.drop p := by rw [hd]; exact hx
        exact List.mem_of_mem_drop this)) 2
      have i2 : dIn3 (.str ⟨((c :: r).take 2).toArray⟩) (.list [.str "<=", .str ">="]) = some (.bool (is2 c r)) := by
        show (if SeqAt.shaped (.str _) = true ∧ SeqAt.shaped (.list [.str "<=", .str ">="]) = true then some (PyData.bool ([PyData.str "<=", .str ">="].any fun z => PyData.eqv z (.str ⟨((c :: r).take 2).toArray⟩))) else none) = _
        rw [if_pos ⟨str_shaped okt, by decide +kernel⟩, ← two_is]
        simp [PyData.eqv]
      have i3 : dIn3 (.str (ch c)) (.str "<>=") = some (.bool (inC "<>=" c)) := in_ch
      have i4 : dIn3 (.str (ch c)) (.str "+-") = some (.bool (inC "+-" c)) := in_ch
      have m3 : inC "<>=" c = true ↔ c = 60 ∨ c = 61 ∨ c = 62 := by
        rw [inC_iff, decide_eq_true_eq, show ("<>=" : Str).cps.toList = [60, 62, 61] by decide +kernel]
        simp only [List.mem_cons, List.not_mem_nil, or_false]
        omega
      have m4 : inC "+-" c = true ↔ c = 43 ∨ c = 45 := by
        rw [inC_iff, decide_eq_true_eq, show ("+-" : Str).cps.toList = [43, 45] by decide +kernel]
        simp only [List.mem_cons, List.not_mem_nil, or_false]
      have mo : inC OPSC c = true ↔ c = 43 ∨ c = 45 ∨ c = 60 ∨ c = 61 ∨ c = 62 := by
        rw [inC_iff, decide_eq_true_eq, show OPSC.cps.toList = [43, 45, 60, 61, 62] by decide +kernel]
        simp only [List.mem_cons, List.not_mem_nil, or_false]
      have br0 : ∀ k, tokE (c :: r) = k → brK (c :: r) = false := fun k hk => by
        unfold brK cutE
        dsimp only
        cases (c :: r).drop (tokE (c :: r)) with
        | nil => simp [a1']
        | cons d r2 => simp [a1', a2']
      generalize hT2 : (⟨((c :: r).take 2).toArray⟩ : Str) = T2 at *
      by_cases a3 : is2 c r = true
      · rw [a3] at i2
        have e0 : tokE (c :: r) = 2 := by simp [tokE, a1, a2, a3]
        have res : tokR p (c :: r) = .tuple [.str "sign", .int ((p : Int) + 2), .bool false] := by
          unfold tokR
          rw [br0 2 e0, if_neg (by rw [e0]; decide), kd_take (by rw [e0]; decide), if_neg a1, if_neg a2, if_pos a3, e0]
          rfl
        rw [res]
        simp [-Array.length_toList, rest2T, cutF_apc, someP_apc, c2, i2]
      · have a3' : is2 c r = false := by simpa using a3
        rw [a3'] at i2
        by_cases b3 : inC "<>=" c = true
        · rw [b3] at i3
          have cc := m3.mp b3
          have e0 : tokE (c :: r) = 1 := by simp [tokE, a1, a2, a3, mo.mpr (by omega)]
          have res : tokR p (c :: r) = .tuple [.str "sign", .int ((p : Int) + 1), .bool false] := by
            unfold tokR
            rw [br0 1 e0, if_neg (by rw [e0]; decide), kd_take (by rw [e0]; decide), if_neg a1, if_neg a2, if_neg a3, if_neg (by omega), if_neg (by omega), e0]
            rfl
          rw [res]
          simp [-Array.length_toList, rest2T, cutF_apc, someP_apc, c2, i2, hx, i3]
        · have b3' : inC "<>=" c = false := by simpa using b3
          rw [b3'] at i3
          by_cases b4 : inC "+-" c = true
          · rw [b4] at i4
            have cc := m4.mp b4
            have e0 : tokE (c :: r) = 1 := by simp [tokE, a1, a2, a3, mo.mpr (by omega)]
            have res : tokR p (c :: r) = .tuple [.str (ch c), .int ((p : Int) + 1), .bool false] := by
              unfold tokR
              rw [br0 1 e0, if_neg (by rw [e0]; decide), kd_take (by rw [e0]; decide), if_neg a1, if_neg a2, if_neg a3, e0]
              rcases cc with rfl | rfl
              · rw [if_pos rfl]
                rfl
              · rw [if_neg (by decide), if_pos rfl]
                rfl
            rw [res]
            simp [-Array.length_toList, rest2T, cutF_apc, someP_apc, c2, i2, hx, i3, i4]
          · have b4' : inC "+-" c = false := by simpa using b4
            rw [b4'] at i4
            have ho : ¬ inC OPSC c = true := fun z => by
              have := mo.mp z
              by_cases q : c = 43 ∨ c = 45
              · exact b4 (m4.mpr q)
              · exact b3 (m3.mpr (by omega))
            have e0 : tokE (c :: r) = 0 := by simp [tokE, a1, a2, a3, ho]
            have res : tokR p (c :: r) = .tuple [.str "bad", .int (p : Int), .bool true] := by
              unfold tokR
              rw [if_pos e0]
            rw [res]
            simp [-Array.length_toList, rest2T, cutF_apc, someP_apc, c2, i2, hx, i3, i4]
end
end DL
namespace DL
open PySem PySem.Spec PyProof.Rows L2 RT PySem.NumText
def stT : Kd → Str
  | .sgn => "side"
  | .plus => "item"
  | .minus => "item"
  | .num => "coefficient"
  | .unk => "done"
theorem st_ok (v : Kd) : PySem.PyData.strOk (stT v) = true := by cases v <;> (simp only [stT]; decide +kernel)
theorem lk_ok (k : Kd) : PySem.PyData.strOk (lkT k) = true := by cases k <;> (simp only [lkT]; decide +kernel)
theorem in_ss (ss : List Str) {a : Str} (ha : PySem.PyData.strOk a = true) (h : ∀ x ∈ ss, PySem.PyData.strOk x = true) {b : Bool} (e : decide (a ∈ ss) = b) : dIn3 (.str a) (.list (ss.map PyData.str)) = some (.bool b) := by rw [in_strs ha h, e]
theorem st_s3 (v : Kd) : dIn3 (.str (stT v)) (.list [.str "side", .str "item", .str "coefficient"]) = some (.bool (!decide (v = .unk))) := in_ss ["side", "item", "coefficient"] (st_ok v) (by decide +kernel) (by cases v <;> decide +kernel)
theorem st_s2 (v : Kd) : dIn3 (.str (stT v)) (.list [.str "side", .str "item"]) = some (.bool (!v.isEnd)) := in_ss ["side", "item"] (st_ok v) (by decide +kernel) (by cases v <;> decide +kernel)
theorem st_s1 (v : Kd) : dEq (.str (stT v)) (.str "side") = some (.bool (decide (v = .sgn))) := by rw [dEq_s (st_ok v) (by decide +kernel)]; cases v <;> (congr 2)
theorem st_sd (v : Kd) : dIn3 (.str (stT v)) (.list [.str "done", .str "coefficient"]) = some (.bool v.isEnd) := in_ss ["done", "coefficient"] (st_ok v) (by decide +kernel) (by cases v <;> decide +kernel)
theorem lk_name (k : Kd) : dEq (.str (lkT k)) (.str "name") = some (.bool (decide (k = .unk))) := by rw [dEq_s (lk_ok k) (by decide +kernel)]; cases k <;> (congr 2)
theorem lk_number (k : Kd) : dEq (.str (lkT k)) (.str "number") = some (.bool (decide (k = .num))) := by rw [dEq_s (lk_ok k) (by decide +kernel)]; cases k <;> (congr 2)
theorem lk_minus (k : Kd) : dEq (.str (lkT k)) (.str "-") = some (.bool (decide (k = .minus))) := by rw [dEq_s (lk_ok k) (by decide +kernel)]; cases k <;> (congr 2)
theorem lk_sign (k : Kd) : dEq (.str (lkT k)) (.str "sign") = some (.bool (decide (k = .sgn))) := by rw [dEq_s (lk_ok k) (by decide +kernel)]; cases k <;> (congr 2)
theorem lk_bad (k : Kd) : dEq (.str (lkT k)) (.str "bad") = some (.bool false) := by rw [dEq_s (lk_ok k) (by decide +kernel)]; cases k <;> (congr 2)
theorem lk_pm (k : Kd) : dIn3 (.str (lkT k)) (.list [.str "+", .str "-"]) = some (.bool (decide (k = .plus) || decide (k = .minus))) := in_ss ["+", "-"] (lk_ok k) (by decide +kernel) (by cases k <;> decide +kernel)
theorem bad_bad : dEq (.str "bad") (.str "bad") = some (.bool true) := by rw [dEq_s (by decide +kernel) (by decide +kernel)]; congr 2
def fM (v : Kd) (sg len : Nat) (lx : List (Nat × List Nat) × Option Nat) : Option (Nat × Str) := match ckM v sg lx.1 with
  | .inl p => some (p, "not expected")
  | .inr (v, sg) => match lx.2 with
    | some q => some (q, "not a token")
    | none => if sg = 0 ∨ v.isEnd = false then some (len, "not finished") else none
theorem faultM_fM (len : Nat) (lx : List (Nat × List Nat) × Option Nat) : faultM len lx = fM .sgn 0 len lx := by
  unfold faultM fM
  cases ckM .sgn 0 lx.1 with
  | inl p => rfl
  | inr q => cases q; cases lx.2 <;> rfl
theorem lex_fuel : ∀ (f g p : Nat) (cs : List Nat), cs.length < f → cs.length < g → lexM f p cs = lexM g p cs
  | 0, _, _, _, h, _ => by omega
  | _ + 1, 0, _, _, _, h => by omega
  | f + 1, g + 1, p, [], _, _ => rfl
  | f + 1, g + 1, p, c :: r, h1, h2 => by
    rw [List.length_cons] at h1 h2
    simp only [lexM]
    rw [lex_fuel f g (p + 1) r (by omega) (by omega)]
    by_cases h0 : tokE (c :: r) = 0
    · simp only [if_pos h0]
    · rw [lex_fuel f g (p + tokE (c :: r)) ((c :: r).drop (tokE (c :: r))) (by rw [List.length_drop, List.length_cons]; omega) (by rw [List.length_drop, List.length_cons]; omega)]
noncomputable abbrev spC : Rho → Res Bool := andT (testF (binF dLt (varF 3) (appF (app1 bLen) (consA (varF 0) nilA)))) (testF (binF dEq (binF dIx (varF 0) (varF 3)) (cF (.str " "))))
section
variable {t : Str} (h : TOk t)
include h
theorem skip_run {e1 e2 e4 e5 e6 e7 e8 : Ent} : ∀ (n p : Nat), t.cps.toList.length - p = n → p ≤ t.cps.toList.length → ∃ j, whileS spC LH.L_fault_1 [.d (.str t), e1, e2, .d (.int (p : Int)), e4, e5, e6, e7, e8] = .nx [.d (.str t), e1, e2, .d (.int ((p + j : Nat) : Int)), e4, e5, e6, e7, e8] ∧
    lexM (t.cps.toList.length + 1) p (t.cps.toList.drop p) = lexM (t.cps.toList.length + 1) (p + j) (t.cps.toList.drop (p + j)) ∧ p + j ≤ t.cps.toList.length ∧ (t.cps.toList.drop (p + j)).head? ≠ some 32 := by
  intro n
  induction n with
  | zero =>
    intro p hn hp
    have hd : t.cps.toList.drop p = [] := List.drop_eq_nil_of_le (by omega)
    have hlt : ¬ ((p : Int) < (t.cps.toList.length : Int)) := by omega
    refine ⟨0, ?_, rfl, by omega, by rw [Nat.add_zero, hd]; simp⟩
    rw [whileS_eq]
    simp [-Array.length_toList, bLen_s h, hlt]
  | succ n ih =>
    intro p hn hp
    have hl : p < t.cps.toList.length := by omega
    have hc : t.cps.toList[p]? = some t.cps.toList[p] := List.getElem?_eq_getElem hl
    have hd := List.drop_eq_getElem_cons hl
    have hlt : (p : Int) < (t.cps.toList.length : Int) := by omega
    have hm := h.cps _ (List.getElem_mem hl)
    generalize t.cps.toList[p] = c at hc hd hm
    have eq := eq_ch hm (show 32 < 0x110000 by decide)
    rw [← s32] at eq
    by_cases h32 : c = 32
    · rw [decide_eq_true h32] at eq
      obtain ⟨j, i1, i2, i3, i4⟩ := ih (p + 1) (by omega) (by omega)
      have e : p + 1 + j = p + (j + 1) := by omega
      rw [e] at i1 i2 i3 i4
      refine ⟨j + 1, ?_, ?_, i3, i4⟩
      · rw [whileS_eq]
        rw [show ((p + 1 : Nat) : Int) = (p : Int) + 1 by omega] at i1
        simp [-Array.length_toList, bLen_s h, hlt, ix_ch h hc, eq, LH.L_fault_1]
        simp only [LH.L_fault_1] at i1
        rw [i1]
        simp only [Out.nx.injEq, List.cons.injEq, Ent.d.injEq, PyData.int.injEq, and_true, true_and]
        omega
      · rw [← i2]
        have hl2 : (t.cps.toList.drop (p + 1)).length < t.cps.toList.length := by rw [List.length_drop]; omega
        rw [lex_fuel (t.cps.toList.length + 1) t.cps.toList.length (p + 1) _ (by omega) hl2, hd, h32]
        simp [lexM]
    · rw [decide_eq_false h32] at eq
      refine ⟨0, ?_, rfl, by omega, by rw [Nat.add_zero, hd]; simpa using h32⟩
      rw [whileS_eq]
      simp [-Array.length_toList, bLen_s h, hlt, ix_ch h hc, eq]
theorem step_run {p c : Nat} {r : List Nat} (hd : t.cps.toList.drop p = c :: r) (h32 : c ≠ 32) {v : Kd} {sg : Nat} (hs : sg ≤ 1) {d : Int} {e5 e6 e7 e8 : Ent} {p0 : Nat}
    (sk : whileS spC LH.L_fault_1 [.d (.str t), .d (.str (stT v)), .d (.int (sg : Int)), .d (.int (p0 : Int)), .d (.int d), e5, e6, e7, e8] = .nx [.d (.str t), .d (.str (stT v)), .d (.int (sg : Int)), .d (.int (p : Int)), .d (.int d), e5, e6, e7, e8]) :
    LH.L_fault_2 [.d (.str t), .d (.str (stT v)), .d (.int (sg : Int)), .d (.int (p0 : Int)), .d (.int d), e5, e6, e7, e8] =
      if tokE (c :: r) = 0 then .rt (.tuple [.int (p : Int), .str "not a token"]) else
      if v.beh (kdM ((c :: r).take (tokE (c :: r)))) = true ∧ ¬ (kdM ((c :: r).take (tokE (c :: r))) = .sgn ∧ sg = 1) then
        if brK (c :: r) = true then .rt (.tuple [.int ((p + tokE (c :: r) : Nat) : Int), .str "not a token"]) else
          .nx [.d (.str t), .d (.str (stT (kdM ((c :: r).take (tokE (c :: r)))))), .d (.int ((if kdM ((c :: r).take (tokE (c :: r))) = .sgn then sg + 1 else sg : Nat) : Int)), .d (.int ((p + tokE (c :: r) : Nat) : Int)), .d (.int d), .d (.str (stT (kdM ((c :: r).take (tokE (c :: r)))))), .d (.str (lkT (kdM ((c :: r).take (tokE (c :: r)))))), .d (.int ((p + tokE (c :: r) : Nat) : Int)), .d (.bool false)]
      else .rt (.tuple [.int (p : Int), .str "not expected"]) := by
  have hl := congrArg List.length hd
  rw [List.length_drop, List.length_cons] at hl
  have hlt : (p : Int) < (t.cps.toList.length : Int) := by omega
  have tk : LH.m_token [.str t, .int (p : Int)] = .ok (tokR p (c :: r)) := lh_tokenG h hd
  unfold tokR at tk
  by_cases h0 : tokE (c :: r) = 0
  · rw [if_pos h0] at tk ⊢
    simp [-Array.length_toList, LH.L_fault_2, sk, bLen_s h, hlt, tk, bad_bad]
  · rw [if_neg h0] at tk ⊢
    generalize kdM ((c :: r).take (tokE (c :: r))) = k at *
    generalize brK (c :: r) = br at *
    generalize hP : ((p + tokE (c :: r) : Nat) : Int) = P at *
    have x1 := st_s3 v
    have x2 := st_s2 v
    have x3 := st_s1 v
    have x4 := st_sd v
    have y1 := lk_name k
    have y2 := lk_number k
    have y3 := lk_minus k
    have y4 := lk_sign k
    have y5 := lk_bad k
    have y6 := lk_pm k
    have z0 : dEq (.int (sg : Int)) (.int 0) = some (.bool ((sg : Int) == 0)) := dEq_ii _ _
    by_cases hsg : sg = 1
    · have z1 : ((sg : Int) == 0) = false := by simp; omega
      have p1 : (sg = 1) = True := eq_true hsg
      rw [z1] at z0
      clear hsg hs
      cases v <;> cases k <;> (simp only [stT, lkT] at sk tk x1 x2 x3 x4 y1 y2 y3 y4 y5 y6 ⊢; simp [Kd.isEnd] at x1 x2 x3 x4 y1 y2 y3 y4 y5 y6; cases br <;> simp [-Array.length_toList, LH.L_fault_2, sk, bLen_s h, hlt, tk, x1, x2, x3, x4, y1, y2, y3, y4, y5, y6, z0, Kd.beh, isNone, p1])
    · have z1 : ((sg : Int) == 0) = true := by simp; omega
      have p1 : (sg = 1) = False := eq_false hsg
      have q : (sg : Int) + 1 = 1 := by omega
      rw [z1] at z0
      clear hsg hs
      cases v <;> cases k <;> (simp only [stT, lkT] at sk tk x1 x2 x3 x4 y1 y2 y3 y4 y5 y6 ⊢; simp [Kd.isEnd] at x1 x2 x3 x4 y1 y2 y3 y4 y5 y6; cases br <;> simp [-Array.length_toList, LH.L_fault_2, sk, bLen_s h, hlt, tk, x1, x2, x3, x4, y1, y2, y3, y4, y5, y6, z0, Kd.beh, isNone, p1, q])
end
end DL
namespace DL
open PySem PySem.Spec PyProof.Rows L2 RT PySem.NumText
section
variable {t : Str} (h : TOk t)
include h
theorem fault_loop : ∀ (ds : List Int) (p : Nat) (v : Kd) (sg : Nat) (e4 e5 e6 e7 e8 : Ent), p ≤ t.cps.toList.length → (t.cps.toList.drop p).length ≤ ds.length → sg ≤ 1 →
    (∃ q s, fM v sg t.cps.toList.length (lexM (t.cps.toList.length + 1) p (t.cps.toList.drop p)) = some (q, s) ∧ loopS (nameT 4) LH.L_fault_2 (ds.map PyData.int) [.d (.str t), .d (.str (stT v)), .d (.int (sg : Int)), .d (.int (p : Int)), e4, e5, e6, e7, e8] = .rt (.tuple [.int (q : Int), .str s])) ∨
    (∃ (v' : Kd) (sg' : Nat) (f4 f5 f6 f7 f8 : Ent), fM v sg t.cps.toList.length (lexM (t.cps.toList.length + 1) p (t.cps.toList.drop p)) = (if sg' = 0 ∨ v'.isEnd = false then some (t.cps.toList.length, ("not finished" : Str)) else none) ∧
      loopS (nameT 4) LH.L_fault_2 (ds.map PyData.int) [.d (.str t), .d (.str (stT v)), .d (.int (sg : Int)), .d (.int (p : Int)), e4, e5, e6, e7, e8] = .nx [.d (.str t), .d (.str (stT v')), .d (.int (sg' : Int)), .d (.int (t.cps.toList.length : Int)), f4, f5, f6, f7, f8])
  | [], p, v, sg, e4, e5, e6, e7, e8, hp, hd, hs => by
    right
    rw [List.length_drop, List.length_nil] at hd
    have e : p = t.cps.toList.length := by omega
    have hd0 : t.cps.toList.drop p = [] := List.drop_eq_nil_of_le (by omega)
    refine ⟨v, sg, e4, e5, e6, e7, e8, ?_, by rw [← e]; rfl⟩
    rw [hd0]
    rfl
  | d :: ds, p, v, sg, e4, e5, e6, e7, e8, hp, hd, hs => by
    obtain ⟨j, s1, s2, s3, s4⟩ := skip_run h (e1 := .d (.str (stT v))) (e2 := .d (.int (sg : Int))) (e4 := .d (.int d)) (e5 := e5) (e6 := e6) (e7 := e7) (e8 := e8) _ p rfl hp
    rw [s2]
    rw [List.length_cons] at hd
    rw [List.length_drop] at hd
    have tgt : nameT 4 (.int d) [.d (.str t), .d (.str (stT v)), .d (.int (sg : Int)), .d (.int (p : Int)), e4, e5, e6, e7, e8] = some [.d (.str t), .d (.str (stT v)), .d (.int (sg : Int)), .d (.int (p : Int)), .d (.int d), e5, e6, e7, e8] := by simp
    cases hc : t.cps.toList.drop (p + j) with
    | nil =>
      have hl := congrArg List.length hc
      rw [List.length_drop, List.length_nil] at hl
      have e : p + j = t.cps.toList.length := by omega
      have hlt : ¬ (((p + j : Nat) : Int) < (t.cps.toList.length : Int)) := by omega
      have st : LH.L_fault_2 [.d (.str t), .d (.str (stT v)), .d (.int (sg : Int)), .d (.int (p : Int)), .d (.int d), e5, e6, e7, e8] = .nx [.d (.str t), .d (.str (stT v)), .d (.int (sg : Int)), .d (.int ((p + j : Nat) : Int)), .d (.int d), e5, e6, e7, e8] := by
        generalize ((p + j : Nat) : Int) = P at *
        simp [-Array.length_toList, LH.L_fault_2, s1, bLen_s h, hlt]
      have L := fault_loop ds (p + j) v sg (.d (.int d)) e5 e6 e7 e8 (by omega) (by rw [hc]; exact Nat.zero_le _) hs
      rw [hc] at L
      rw [List.map_cons, loopS_cons_nx tgt st]
      exact L
    | cons c r =>
      have h32 : c ≠ 32 := by
        rw [hc] at s4
        simpa using s4
      have hl := congrArg List.length hc
      rw [List.length_drop, List.length_cons] at hl
      have st := step_run h hc h32 (v := v) hs (d := d) (e5 := e5) (e6 := e6) (e7 := e7) (e8 := e8) (p0 := p) s1
      have kle := tokE_le (c :: r)
      rw [List.length_cons] at kle
      have lex : lexM (t.cps.toList.length + 1) (p + j) (c :: r) = if tokE (c :: r) = 0 then ([], some (p + j)) else if cutE (c :: r) (tokE (c :: r)) = true then ([(p + j, (c :: r).take (tokE (c :: r)))], some (p + j + tokE (c :: r))) else
          ((p + j, (c :: r).take (tokE (c :: r))) :: (lexM (t.cps.toList.length + 1) (p + j + tokE (c :: r)) ((c :: r).drop (tokE (c :: r)))).1, (lexM (t.cps.toList.length + 1) (p + j + tokE (c :: r)) ((c :: r).drop (tokE (c :: r)))).2) := by
        conv => lhs; rw [lexM, if_neg h32]
        by_cases h0 : tokE (c :: r) = 0
        · rw [if_pos h0, if_pos h0]
        · rw [if_neg h0, if_neg h0, lex_fuel t.cps.toList.length (t.cps.toList.length + 1) (p + j + tokE (c :: r)) ((c :: r).drop (tokE (c :: r))) (by rw [List.length_drop, List.length_cons]; omega) (by rw [List.length_drop, List.length_cons]; omega)]
      rw [lex]
      by_cases h0 : tokE (c :: r) = 0
      · left
        rw [if_pos h0] at st ⊢
        refine ⟨p + j, "not a token", rfl, ?_⟩
        rw [List.map_cons, loopS_cons tgt, st]
      · rw [if_neg h0] at st ⊢
        have ckc : ∀ rest, ckM v sg ((p + j, (c :: r).take (tokE (c :: r))) :: rest) = if v.beh (kdM ((c :: r).take (tokE (c :: r)))) = true ∧ ¬ (kdM ((c :: r).take (tokE (c :: r))) = .sgn ∧ sg = 1) then ckM (kdM ((c :: r).take (tokE (c :: r)))) (if kdM ((c :: r).take (tokE (c :: r))) = .sgn then sg + 1 else sg) rest else .inl (p + j) := fun rest => rfl
        by_cases hb : v.beh (kdM ((c :: r).take (tokE (c :: r)))) = true ∧ ¬ (kdM ((c :: r).take (tokE (c :: r))) = .sgn ∧ sg = 1)
        · rw [if_pos hb] at st
          by_cases hcut : cutE (c :: r) (tokE (c :: r)) = true
          · left
            have hbr : brK (c :: r) = true := by unfold brK; rw [hcut]; rfl
            rw [if_pos hbr] at st
            rw [if_pos hcut]
            refine ⟨p + j + tokE (c :: r), "not a token", ?_, ?_⟩
            · simp only [fM, ckc, if_pos hb, ckM]
            · rw [List.map_cons, loopS_cons tgt, st]
          · rw [if_neg hcut]
            have dk : t.cps.toList.drop (p + j + tokE (c :: r)) = (c :: r).drop (tokE (c :: r)) := by rw [← List.drop_drop, hc]
            have fe : fM v sg t.cps.toList.length ((p + j, (c :: r).take (tokE (c :: r))) :: (lexM (t.cps.toList.length + 1) (p + j + tokE (c :: r)) ((c :: r).drop (tokE (c :: r)))).1, (lexM (t.cps.toList.length + 1) (p + j + tokE (c :: r)) ((c :: r).drop (tokE (c :: r)))).2) = fM (kdM ((c :: r).take (tokE (c :: r)))) (if kdM ((c :: r).take (tokE (c :: r))) = .sgn then sg + 1 else sg) t.cps.toList.length (lexM (t.cps.toList.length + 1) (p + j + tokE (c :: r)) (t.cps.toList.drop (p + j + tokE (c :: r)))) := by
              rw [dk]
              simp only [fM, ckc, if_pos hb]
            rw [fe]
            by_cases hbr : brK (c :: r) = true
            · left
              rw [if_pos hbr] at st
              refine ⟨p + j + tokE (c :: r), "not a token", ?_, ?_⟩
              · rw [dk]
                unfold brK at hbr
                have hcut' : cutE (c :: r) (tokE (c :: r)) = false := by simpa using hcut
                rw [hcut', Bool.false_or] at hbr
                dsimp only at hbr
                cases hr2 : (c :: r).drop (tokE (c :: r)) with
                | nil => rw [hr2] at hbr; simp [nextB] at hbr
                | cons x r2 =>
                  rw [hr2] at hbr
                  simp [nextB] at hbr
                  obtain ⟨_, rfl⟩ := hbr
                  have t0 : tokE (47 :: r2) = 0 := by
                    have a1 : inC DIGS 47 = false := by decide +kernel
                    have a2 : inC LETS 47 = false := by decide +kernel
                    have a4 : inC OPSC 47 = false := by decide +kernel
                    have a3 : is2 47 r2 = false := by cases r2 <;> rfl
                    simp [tokE, a1, a2, a3, a4]
                  have : lexM (t.cps.toList.length + 1) (p + j + tokE (c :: r)) (47 :: r2) = ([], some (p + j + tokE (c :: r))) := by
                    rw [lexM, if_neg (by decide), if_pos t0]
                  rw [this]
                  rfl
              · rw [List.map_cons, loopS_cons tgt, st]
            · rw [if_neg hbr] at st
              have hs2 : (if kdM ((c :: r).take (tokE (c :: r))) = .sgn then sg + 1 else sg) ≤ 1 := by
                split
                · rename_i z
                  have : ¬ sg = 1 := fun q => hb.2 ⟨z, q⟩
                  omega
                · exact hs
              have L := fault_loop ds (p + j + tokE (c :: r)) (kdM ((c :: r).take (tokE (c :: r)))) _ (.d (.int d)) (.d (.str (stT (kdM ((c :: r).take (tokE (c :: r))))))) (.d (.str (lkT (kdM ((c :: r).take (tokE (c :: r))))))) (.d (.int ((p + j + tokE (c :: r) : Nat) : Int))) (.d (.bool false)) (by omega) (by rw [List.length_drop]; omega) hs2
              rw [List.map_cons, loopS_cons_nx tgt st]
              exact L
        · rw [if_neg hb] at st
          left
          refine ⟨p + j, "not expected", ?_, ?_⟩
          · by_cases hcut : cutE (c :: r) (tokE (c :: r)) = true
            · rw [if_pos hcut]
              simp only [fM, ckc, if_neg hb]
            · rw [if_neg hcut]
              simp only [fM, ckc, if_neg hb]
          · rw [List.map_cons, loopS_cons tgt, st]
theorem lh_faultG : LH.B_fault (.str t) = .ok (match faultM t.cps.toList.length (lexT t) with
    | some (p, s) => .tuple [.int (p : Int), .str s]
    | none => .none) := by
  have hlen := h.len
  have rg : range1F (consA (binF dAdd (appF (app1 bLen) (consA (varF 0) nilA)) (cF (.int 1))) nilA) [.d (.str t), .d (.str "side"), .d (.int 0), .d (.int 0), .un, .un, .un, .un, .un] = .ok (rangeL 0 (t.cps.toList.length + 1)) [.d (.str t), .d (.str "side"), .d (.int 0), .d (.int 0), .un, .un, .un, .un, .un] := by
    have := rng1_nat (n := t.cps.toList.length + 1) (ρ := [.d (.str t), .d (.str "side"), .d (.int 0), .d (.int 0), .un, .un, .un, .un, .un]) (by omega)
    simp [-Array.length_toList, bLen_s h]
    exact this
  have er : rangeL 0 (t.cps.toList.length + 1) = ((List.range (t.cps.toList.length + 1)).map fun i : Nat => (i : Int)).map PyData.int := by
    rw [List.map_map]
    unfold rangeL
    simp [Function.comp_def]
  have L := fault_loop h ((List.range (t.cps.toList.length + 1)).map fun i : Nat => (i : Int)) 0 .sgn 0 .un .un .un .un .un (Nat.zero_le _) (by rw [List.drop_zero, List.length_map, List.length_range]; omega) (by decide)
  rw [List.drop_zero, ← er, ← faultM_fM] at L
  have f0 : faultM t.cps.toList.length (lexM (t.cps.toList.length + 1) 0 t.cps.toList) = faultM t.cps.toList.length (lexT t) := rfl
  rw [f0] at L
  have s0 : stT .sgn = "side" := rfl
  rw [s0] at L
  rcases L with ⟨q, s, l1, l2⟩ | ⟨v', sg', f4, f5, f6, f7, f8, l1, l2⟩
  · rw [l1]
    have l2' : loopS (nameT 4) LH.L_fault_2 (rangeL 0 (t.cps.toList.length + 1)) [.d (.str t), .d (.str "side"), .d (.int 0), .d (.int 0), .un, .un, .un, .un, .un] = _ := l2
    unfold LH.B_fault LH.S_fault
    generalize rangeL 0 (t.cps.toList.length + 1) = RL at *
    generalize hRG : range1F (consA (binF dAdd (appF (app1 bLen) (consA (varF 0) nilA)) (cF (.int 1))) nilA) = RG at *
    simp [-Array.length_toList, forS_apc, rg, l2']
  · rw [l1]
    have l2' : loopS (nameT 4) LH.L_fault_2 (rangeL 0 (t.cps.toList.length + 1)) [.d (.str t), .d (.str "side"), .d (.int 0), .d (.int 0), .un, .un, .un, .un, .un] = _ := l2
    have z0 : dEq (.int (sg' : Int)) (.int 0) = some (.bool ((sg' : Int) == 0)) := dEq_ii _ _
    have x2 := st_s2 v'
    unfold LH.B_fault LH.S_fault
    generalize rangeL 0 (t.cps.toList.length + 1) = RL at *
    generalize hRG : range1F (consA (binF dAdd (appF (app1 bLen) (consA (varF 0) nilA)) (cF (.int 1))) nilA) = RG at *
    by_cases hs : sg' = 0
    · subst hs
      rw [if_pos (.inl rfl)]
      simp [-Array.length_toList, forS_apc, rg, l2', bLen_s h]
    · have z1 : ((sg' : Int) == 0) = false := by simp; omega
      rw [z1] at z0
      cases he : v'.isEnd with
      | false =>
        rw [he] at x2
        rw [if_pos (.inr rfl)]
        simp [-Array.length_toList, forS_apc, rg, l2', bLen_s h, z0, x2]
      | true =>
        rw [he] at x2
        rw [if_neg (by simp [hs])]
        simp [-Array.length_toList, forS_apc, rg, l2', bLen_s h, z0, x2]
theorem lh_told (hl : t.cps.toList.length ≤ 900) (hpm : pmT t.cps.toList ≤ 8) : LH.B_told (.str t) = .ok (match faultM t.cps.toList.length (lexT t) with
    | some (p, s) => .tuple [.int (p : Int), .str s]
    | none => .none) := by
  have R := pg_read_rowG h hl hpm
  cases hf : faultM t.cps.toList.length (lexT t) with
  | none =>
    rw [hf] at R
    obtain ⟨r, e⟩ := R
    have e' : PG.m_read_row [.str t] = .ok (rD r) := e
    simp [LH.B_told, LH.S_told, e']
  | some q =>
    obtain ⟨p, s⟩ := q
    rw [hf] at R
    have e' : PG.m_read_row [.str t] = .ex (tErr p s) := R
    have c1 : ct1 "TextError" "TextError" = some true := by unfold ct1; rw [if_pos rfl]
    have l1 : List.lookup ("place" : Str) (tErr p s).fs = some (PyData.int (p : Int)) := rfl
    have l2 : List.lookup ("what" : Str) (tErr p s).fs = some (PyData.str s) := rfl
    have nm : (tErr p s).nm = "TextError" := rfl
    generalize tErr p s = E at *
    simp [LH.B_told, LH.S_told, e', nm, c1, l1, l2]
end
end DL
namespace DL
open PySem PySem.Spec PyProof.Rows L2 RT PySem.NumText
structure TxB (t : Str) (n m : Nat) : Prop where
  len : t.cps.toList.length ≤ n
  cps : ∀ c ∈ t.cps.toList, c < 128
  pm : pmT t.cps.toList ≤ m
theorem TxB.mono {t : Str} {n m n' m' : Nat} (h : TxB t n m) (h1 : n ≤ n') (h2 : m ≤ m') : TxB t n' m' := ⟨Nat.le_trans h.len h1, h.cps, Nat.le_trans h.pm h2⟩
theorem TxB.tok {t : Str} {n m : Nat} (h : TxB t n m) (hn : n ≤ 10000) : TOk t := ⟨Nat.le_trans h.len hn, fun c hc => Nat.lt_trans (h.cps c hc) (by decide)⟩
theorem tl_add (x y : Str) : (x ++ y).cps.toList = x.cps.toList ++ y.cps.toList := TL.tl_append x y
theorem TxB.add {x y : Str} {n m n' m' : Nat} (h : TxB x n m) (k : TxB y n' m') : TxB (x ++ y) (n + n') (m + m') := by
  refine ⟨?_, fun c hc => ?_, ?_⟩
  · rw [tl_add, List.length_append]
    have := h.len; have := k.len; omega
  · rw [tl_add] at hc
    rcases List.mem_append.mp hc with hc | hc
    · exact h.cps c hc
    · exact k.cps c hc
  · rw [tl_add, pm_app]
    have := h.pm; have := k.pm; omega
theorem cat_s {x y : Str} {n m n' m' : Nat} (h : TxB x n m) (k : TxB y n' m') (hn : n + n' ≤ 20000) : dAdd (.str x) (.str y) = some (.str (x ++ y)) := by
  show (if x.length + y.length ≤ sizeLine then some (PyData.str (x ++ y)) else none) = _
  have := h.len; have := k.len
  rw [if_pos (by rw [sizeLine_eq, strLen, strLen]; omega)]
def TxsB (ws : List Str) (n m : Nat) : Prop := (∀ w ∈ ws, TxB w n 200) ∧ (ws.map fun w => pmT w.cps.toList).sum ≤ m
theorem join_sp (ws : List Str) {n m : Nat} (h : TxsB ws n m) : TxB (Txt.join " " ws) ((n + 1) * ws.length) m := by
  have e : (Txt.join " " ws).cps.toList = TL.joinL (TL.tl " ") (ws.map TL.tl) := by
    show TL.tl (Builtin.Str.glued " " ws) = _
    rw [StrLaws.glued_eq_join, TL.tl_join]
  have s1 : TL.tl " " = [32] := by decide +kernel
  rw [s1] at e
  have main : ∀ ws : List Str, (∀ w ∈ ws, TxB w n 200) → (TL.joinL [32] (ws.map TL.tl)).length ≤ (n + 1) * ws.length ∧ (∀ c ∈ TL.joinL [32] (ws.map TL.tl), c < 128) ∧ pmT (TL.joinL [32] (ws.map TL.tl)) = (ws.map fun w => pmT w.cps.toList).sum := by
    intro ws
    induction ws with
    | nil => intro _; exact ⟨by simp [TL.joinL], by simp [TL.joinL], by simp [TL.joinL, pmT]⟩
    | cons w ws ih =>
      intro hw
      obtain ⟨i1, i2, i3⟩ := ih fun x hx => hw x (List.mem_cons_of_mem _ hx)
      have h1 := hw w List.mem_cons_self
      have hl := h1.len
      cases ws with
      | nil =>
        refine ⟨?_, ?_, ?_⟩
        · show (TL.tl w).length ≤ _
          have : (TL.tl w).length ≤ n := hl
          rw [List.length_singleton, Nat.mul_one]; omega
        · exact h1.cps
        · show pmT (TL.tl w) = _
          rw [List.map_cons, List.map_nil, List.sum_cons, List.sum_nil, Nat.add_zero]
      | cons w2 ws =>
        have ej : TL.joinL [32] ((w :: w2 :: ws).map TL.tl) = TL.tl w ++ [32] ++ TL.joinL [32] ((w2 :: ws).map TL.tl) := by
          simp [TL.joinL]
        rw [ej]
        refine ⟨?_, fun c hc => ?_, ?_⟩
        · rw [List.length_append, List.length_append, List.length_cons (a := w), Nat.mul_succ]
          have : (TL.tl w).length ≤ n := hl
          simp only [List.length_singleton]
          omega
        · rcases List.mem_append.mp hc with hc | hc
          · rcases List.mem_append.mp hc with hc | hc
            · exact h1.cps c hc
            · rw [List.mem_singleton.mp hc]; decide
          · exact i2 c hc
        · rw [pm_app, pm_app, i3, List.map_cons, List.sum_cons]
          rfl
  obtain ⟨m1, m2, m3⟩ := main ws h.1
  refine ⟨by rw [e]; exact m1, by rw [e]; exact m2, ?_⟩
  rw [e, m3]
  exact h.2
theorem strsOf_all : ∀ acc : List Str, strsOf (acc.map PyData.str) = some acc
  | [] => rfl
  | x :: r => by
    rw [List.map_cons]
    show (strsOf (r.map PyData.str)).map (x :: ·) = _
    rw [strsOf_all r]
    rfl
theorem djoin_sp {ws : List Str} {n m : Nat} (h : TxsB ws n m) (hn : n ≤ 1000) (hl : ws.length ≤ 1000) : dJoin (.str " ") (.list (ws.map PyData.str)) = some (.str (Txt.join " " ws)) := by
  simp only [dJoin, strsOf_all]
  have : (ws.map (·.length)).sum ≤ n * ws.length := by
    have h1 := h.1
    clear h hl
    induction ws with
    | nil => simp
    | cons w ws ih =>
      have := ih fun x hx => h1 x (List.mem_cons_of_mem _ hx)
      have hw := (h1 w List.mem_cons_self).len
      rw [List.map_cons, List.sum_cons, List.length_cons, Nat.mul_succ, strLen]
      omega
  have l1 : (" " : Str).length = 1 := by decide +kernel
  have : n * ws.length ≤ 1000 * 1000 := Nat.mul_le_mul hn hl
  rw [if_pos (by rw [l1]; omega)]
theorem str_small : ∀ k : Nat, k ≤ 20 → TxB (toString ((k : Nat) : Int) : String) 3 0 ∧ TxB (toString (-((k : Nat) : Int)) : String) 3 1 := by
  have main : ∀ k < 21, ((Str.ofString (toString ((k : Nat) : Int))).cps.toList.length ≤ 3 ∧ (∀ c ∈ (Str.ofString (toString ((k : Nat) : Int))).cps.toList, c < 128) ∧ pmT (Str.ofString (toString ((k : Nat) : Int))).cps.toList ≤ 0) ∧
      ((Str.ofString (toString (-((k : Nat) : Int)))).cps.toList.length ≤ 3 ∧ (∀ c ∈ (Str.ofString (toString (-((k : Nat) : Int)))).cps.toList, c < 128) ∧ pmT (Str.ofString (toString (-((k : Nat) : Int)))).cps.toList ≤ 1) := by decide +kernel
  intro k hk
  obtain ⟨⟨a, b, c⟩, d, e, f⟩ := main k (by omega)
  exact ⟨⟨a, b, c⟩, d, e, f⟩
theorem str_int {i : Int} (h : i.natAbs ≤ 20) : ∃ s : Str, bStr (.int i) = some (.str s) ∧ TxB s 3 (if i < 0 then 1 else 0) := by
  refine ⟨(toString i : String), ?_, ?_⟩
  · show (if i.natAbs.log2 < 1920 then some (PyData.str (toString i : String)) else none) = _
    rw [if_pos]
    exact Nat.lt_of_le_of_lt (Nat.log2_le_self _) (by omega)
  · obtain ⟨a, b⟩ := str_small i.natAbs h
    by_cases hi : i < 0
    · rw [if_pos hi]
      have : i = -((i.natAbs : Nat) : Int) := by omega
      rw [this]
      exact b
    · rw [if_neg hi]
      have : i = ((i.natAbs : Nat) : Int) := by omega
      rw [this]
      exact a
theorem lh_word {q : Qn} (h1 : q.1.natAbs ≤ 20) (h2 : q.2.natAbs ≤ 20) (h0 : 0 < q.2) : ∃ s : Str, LH.B_word (N q) = .ok (.str s) ∧ TxB s 8 (if q.1 < 0 then 1 else 0) := by
  obtain ⟨s1, e1, b1⟩ := str_int h1
  obtain ⟨s2, e2, b2⟩ := str_int h2
  rw [if_neg (by omega)] at b2
  have sl : TxB ("/" : Str) 1 0 := ⟨by decide +kernel, by decide +kernel, by decide +kernel⟩
  have c1 := cat_s b1 sl (by omega)
  have c2 := cat_s (b1.add sl) b2 (by omega)
  have n1 : dEq (.int q.2) (.int 1) = some (.bool (q.2 == 1)) := dEq_ii _ _
  by_cases hq : q.2 = 1
  · have z : (q.2 == 1) = true := by simp [hq]
    rw [z] at n1
    refine ⟨s1, ?_, b1.mono (by omega) (Nat.le_refl _)⟩
    simp [LH.B_word, LH.S_word, N, n1, e1]
  · have z : (q.2 == 1) = false := by simp [hq]
    rw [z] at n1
    refine ⟨s1 ++ "/" ++ s2, ?_, ((b1.add sl).add b2).mono (by omega) (by omega)⟩
    simp [LH.B_word, LH.S_word, N, n1, e1, e2, c1, c2]
end DL
namespace DL
open PySem PySem.Spec PyProof.Rows L2 RT
noncomputable def PG.S_over : Rho → Out := (retS (callF PG.m_number (consA (binF dMul (binF dIx (varF 0) (cF (.int 0))) (binF dIx (varF 1) (cF (.int 1)))) (consA (binF dMul (binF dIx (varF 0) (cF (.int 1))) (binF dIx (varF 1) (cF (.int 0)))) nilA))))
noncomputable def PG.B_over (a0 a1 : PyData) : FR := outFR (PG.S_over [.d a0, .d a1])
noncomputable def PG.m_over : Fn := fn2 PG.B_over
noncomputable def PG.S_amount_of : Rho → Out := (retS (dgetT (varF 0) 1 (.tuple [.int 0, .int 1])))
noncomputable def PG.B_amount_of (a0 a1 : PyData) : FR := outFR (PG.S_amount_of [.d a0, .d a1])
noncomputable def PG.m_amount_of : Fn := fn2 PG.B_amount_of
noncomputable def PG.S_derived : Rho → Out := (retS (lcF [1, 2] (pairsF (enumF (varF 0))) (tupT 2 (consTs (nameT 1) (consTs (nameT 2) nilTs))) yesT (tupF (consA (varF 2) (consA (tupF (consA (tupF (consA (varF 1) (consA (cF (.tuple [.int 1, .int 1])) nilA))) nilA)) nilA)))))
noncomputable def PG.B_derived (a0 : PyData) : FR := outFR (PG.S_derived [.d a0, .un, .un])
noncomputable def PG.m_derived : Fn := fn1 PG.B_derived
noncomputable def PG.S__is_stronger : Rho → Out := (seqS (asgS (callF PG.m_compare (consA (binF dIx (varF 0) (cF (.int 2))) (consA (binF dIx (varF 1) (cF (.int 2))) nilA))) (nameT 2)) (retS (orV (binF dLt (varF 2) (cF (.int 0))) (andV (binF dEq (varF 2) (cF (.int 0))) (andV (binF dEq (binF dIx (varF 0) (cF (.int 1))) (cF (.str "<"))) (binF dEq (binF dIx (varF 1) (cF (.int 1))) (cF (.str "<="))))))))
noncomputable def PG.B__is_stronger (a0 a1 : PyData) : FR := outFR (PG.S__is_stronger [.d a0, .d a1, .un])
noncomputable def PG.m__is_stronger : Fn := fn2 PG.B__is_stronger
noncomputable def PG.L_cleaned_1 : Rho → Out := (seqS (asgS (varF 4) (tupT 3 (consTs (nameT 6) (consTs (nameT 7) (consTs (nameT 8) nilTs))))) (seqS (ifS (andT (notT (truF (varF 6))) (truF (callF PG.m_holds (consA (varF 4) (consA (tupF nilA) nilA))))) .ct nxS) (seqS (asgS (ifF (testF (binF dEq (varF 7) (cF (.str "=")))) (tupF (consA (varF 6) (consA (varF 8) nilA))) (tupF (consA (varF 6) (consA (cF (.none)) nilA)))) (nameT 3)) (ifS (orT (testF (inNF true 1 (varF 3))) (truF (callF PG.m__is_stronger (consA (varF 4) (consA (binF dIx (binF dIx (varF 0) (ixNF 1 (varF 3))) (cF (.int 0))) nilA))))) (putNS 1 (varF 3) (varF 2)) nxS))))
noncomputable def PG.S_cleaned : Rho → Out := (seqS (newNS 1) (seqS (forP (enumF (varF 0)) (consTs (nameT 2) (consTs (tupT 2 (consTs (nameT 4) (consTs (nameT 5) nilTs))) nilTs)) PG.L_cleaned_1) (retS (lcF [2] (itemsQ (sortNF 1)) (nameT 2) yesT (binF dIx (varF 0) (varF 2))))))
noncomputable def PG.B_cleaned (a0 : PyData) : FR := outFR (PG.S_cleaned [.d a0, .un, .un, .un, .un, .un, .un, .un, .un])
noncomputable def PG.m_cleaned : Fn := fn1 PG.B_cleaned
noncomputable def PG.S__amount : Rho → Out := (retS (callF PG.m_amount_of (consA (binF dIx (binF dIx (varF 0) (cF (.int 0))) (cF (.int 0))) (consA (varF 1) nilA))))
noncomputable def PG.B__amount (a0 a1 : PyData) : FR := outFR (PG.S__amount [.d a0, .d a1])
noncomputable def PG.m__amount : Fn := fn2 PG.B__amount
noncomputable def PG.S__combined : Rho → Out := (seqS (asgS (callF PG.m_sum_of (consA (lstF (consA (binF dIx (varF 0) (cF (.int 0))) (consA (binF dIx (varF 2) (cF (.int 0))) nilA))) (consA (tupF (consA (tupF (consA (cF (.int 0)) (consA (varF 1) nilA))) (consA (tupF (consA (cF (.int 1)) (consA (varF 3) nilA))) nilA))) nilA))) (nameT 4)) (seqS (asgS (callF PG.m_normal_factor (consA (varF 4) nilA)) (nameT 5)) (seqS (asgS (binF dAdd (callF PG.m_multiplied (consA (binF dIx (varF 0) (cF (.int 1))) (consA (callF PG.m_times (consA (varF 1) (consA (varF 5) nilA))) nilA))) (callF PG.m_multiplied (consA (binF dIx (varF 2) (cF (.int 1))) (consA (callF PG.m_times (consA (varF 3) (consA (varF 5) nilA))) nilA)))) (nameT 6)) (retS (tupF (consA (callF PG.m_normal (consA (varF 4) nilA)) (consA (callF PG.m_added_up (consA (varF 6) nilA)) nilA)))))))
noncomputable def PG.B__combined (a0 a1 a2 a3 : PyData) : FR := outFR (PG.S__combined [.d a0, .d a1, .d a2, .d a3, .un, .un, .un])
noncomputable def PG.m__combined : Fn := fn4 PG.B__combined
noncomputable def PG.L__with_substitution_1 : Rho → Out := (seqS (asgS (callF PG.m__amount (consA (varF 6) (consA (varF 2) nilA))) (nameT 7)) (ifS (testF (binF dEq (varF 7) (cF (.tuple [.int 0, .int 1])))) (appendS 5 (varF 6)) (appendS 5 (callF PG.m__combined (consA (varF 6) (consA (cF (.tuple [.int 1, .int 1])) (consA (varF 3) (consA (callF PG.m_over (consA (callF PG.m_times (consA (varF 7) (consA (cF (.tuple [.int (-1), .int 1])) nilA))) (consA (varF 4) nilA))) nilA))))))))
noncomputable def PG.S__with_substitution : Rho → Out := (seqS (asgS (binF dIx (varF 0) (varF 1)) (nameT 3)) (seqS (asgS (callF PG.m__amount (consA (varF 3) (consA (varF 2) nilA))) (nameT 4)) (seqS (ownS nilA 5) (seqS (forS (itemsQ (binF dAdd (cutF (varF 0) noP (someP (varF 1))) (cutF (varF 0) (someP (binF dAdd (varF 1) (cF (.int 1)))) noP))) (nameT 6) PG.L__with_substitution_1) (retS (varF 5))))))
noncomputable def PG.B__with_substitution (a0 a1 a2 : PyData) : FR := outFR (PG.S__with_substitution [.d a0, .d a1, .d a2, .un, .un, .un, .un, .un])
noncomputable def PG.m__with_substitution : Fn := fn3 PG.B__with_substitution
noncomputable def PG.L__with_pairs_1 : Rho → Out := (ifS (testF (binF dLt (callF PG.m_compare (consA (varF 9) (consA (cF (.tuple [.int 0, .int 1])) nilA))) (cF (.int 0)))) (appendS 4 (callF PG.m__combined (consA (varF 6) (consA (callF PG.m_over (consA (cF (.tuple [.int 1, .int 1])) (consA (varF 7) nilA))) (consA (varF 8) (consA (callF PG.m_over (consA (cF (.tuple [.int (-1), .int 1])) (consA (varF 9) nilA))) nilA)))))) nxS)
noncomputable def PG.L__with_pairs_2 : Rho → Out := (seqS (ifS (testF (binF dLe (callF PG.m_compare (consA (varF 7) (consA (cF (.tuple [.int 0, .int 1])) nilA))) (cF (.int 0)))) .ct nxS) (forP (zipF (varF 0) (varF 2)) (consTs (nameT 8) (consTs (nameT 9) nilTs)) PG.L__with_pairs_1))
noncomputable def PG.S__with_pairs : Rho → Out := (seqS (lcS 2 [3] (itemsQ (varF 0)) (nameT 3) yesT (callF PG.m__amount (consA (varF 3) (consA (varF 1) nilA)))) (seqS (lcS 4 [3, 5] (pairsF (zipF (varF 0) (varF 2))) (tupT 2 (consTs (nameT 3) (consTs (nameT 5) nilTs))) (testF (binF dEq (varF 5) (cF (.tuple [.int 0, .int 1])))) (varF 3)) (seqS (forP (zipF (varF 0) (varF 2)) (consTs (nameT 6) (consTs (nameT 7) nilTs)) PG.L__with_pairs_2) (retS (varF 4)))))
noncomputable def PG.B__with_pairs (a0 a1 : PyData) : FR := outFR (PG.S__with_pairs [.d a0, .d a1, .un, .un, .un, .un, .un, .un, .un, .un])
noncomputable def PG.m__with_pairs : Fn := fn2 PG.B__with_pairs
noncomputable def PG.L_eliminated_1 : Rho → Out := (ifS (andT (testF (binF dEq (binF dIx (binF dIx (varF 3) (cF (.int 0))) (cF (.int 1))) (cF (.str "=")))) (testF (binF dNe (callF PG.m__amount (consA (varF 3) (consA (varF 1) nilA))) (cF (.tuple [.int 0, .int 1]))))) (retS (callF PG.m__with_substitution (consA (varF 0) (consA (varF 2) (consA (varF 1) nilA))))) nxS)
noncomputable def PG.S_eliminated : Rho → Out := (seqS (forP (enumF (varF 0)) (consTs (nameT 2) (consTs (nameT 3) nilTs)) PG.L_eliminated_1) (retS (callF PG.m__with_pairs (consA (varF 0) (consA (varF 1) nilA)))))
noncomputable def PG.B_eliminated (a0 a1 : PyData) : FR := outFR (PG.S_eliminated [.d a0, .d a1, .un, .un])
noncomputable def PG.m_eliminated : Fn := fn2 PG.B_eliminated
noncomputable def LH.L_added_1 : Rho → Out := (asgS (binF dAdd (varF 4) (lcF [7, 8] (itemsQ (binF dIx (varF 5) (cF (.int 1)))) (tupT 2 (consTs (nameT 7) (consTs (nameT 8) nilTs))) yesT (tupF (consA (varF 7) (consA (callF LH.m_mul (consA (varF 8) (consA (varF 6) nilA))) nilA))))) (nameT 4))
noncomputable def LH.S_added : Rho → Out := (seqS (ownS nilA 4) (seqS (forS (itemsQ (lstF (consA (tupF (consA (varF 0) (consA (varF 1) nilA))) (consA (tupF (consA (varF 2) (consA (varF 3) nilA))) nilA)))) (tupT 2 (consTs (nameT 5) (consTs (nameT 6) nilTs))) LH.L_added_1) (retS (callF LH.m_parts (consA (varF 4) nilA)))))
noncomputable def LH.B_added (a0 a1 a2 a3 : PyData) : FR := outFR (LH.S_added [.d a0, .d a1, .d a2, .d a3, .un, .un, .un, .un, .un])
noncomputable def LH.m_added : Fn := fn4 LH.B_added
noncomputable def LH.S_derive : Rho → Out := (seqS (asgS (callF LH.m_total (consA (varF 0) (consA (varF 1) nilA))) (nameT 2)) (seqS (asgS (callF LH.m_factor (consA (varF 2) nilA)) (nameT 3)) (retS (tupF (consA (callF LH.m_scaled (consA (varF 2) (consA (varF 3) nilA))) (consA (appF (app1 bTuple) (consA (lcF [4, 5] (itemsQ (varF 1)) (tupT 2 (consTs (nameT 4) (consTs (nameT 5) nilTs))) yesT (tupF (consA (varF 4) (consA (callF LH.m_mul (consA (varF 5) (consA (varF 3) nilA))) nilA)))) nilA)) nilA))))))
noncomputable def LH.B_derive (a0 a1 : PyData) : FR := outFR (LH.S_derive [.d a0, .d a1, .un, .un, .un, .un])
noncomputable def LH.m_derive : Fn := fn2 LH.B_derive
noncomputable def LH.L_in_1 : Rho → Out := (ifS (testF (binF dEq (varF 2) (varF 1))) (retS (varF 3)) nxS)
noncomputable def LH.S_in : Rho → Out := (seqS (forS (itemsQ (binF dIx (varF 0) (cF (.int 0)))) (tupT 2 (consTs (nameT 2) (consTs (nameT 3) nilTs))) LH.L_in_1) (retS (tupF (consA (cF (.int 0)) (consA (cF (.int 1)) nilA)))))
noncomputable def LH.B_in (a0 a1 : PyData) : FR := outFR (LH.S_in [.d a0, .d a1, .un, .un])
noncomputable def LH.m_in : Fn := fn2 LH.B_in
noncomputable def LH.L_clean_1 : Rho → Out := (seqS (asgS (binF dIx (binF dIx (varF 0) (varF 5)) (cF (.int 0))) (nameT 6)) (seqS (ifS (andT (testF (binF dEq (binF dIx (varF 3) (cF (.int 1))) (cF (.str "=")))) (andT (testF (binF dEq (varF 6) (varF 3))) (testF (binF dLt (varF 5) (varF 2))))) (asgS (cF (.bool false)) (nameT 4)) nxS) (ifS (andT (testF (binF dNe (binF dIx (varF 3) (cF (.int 1))) (cF (.str "=")))) (andT (testF (binF dNe (binF dIx (varF 6) (cF (.int 1))) (cF (.str "=")))) (andT (testF (binF dEq (binF dIx (varF 6) (cF (.int 0))) (binF dIx (varF 3) (cF (.int 0))))) (testF (binF dNe (varF 5) (varF 2)))))) (ifS (truF (callF LH.m_less (consA (binF dIx (varF 6) (cF (.int 2))) (consA (binF dIx (varF 3) (cF (.int 2))) nilA)))) (asgS (cF (.bool false)) (nameT 4)) (ifS (andT (testF (binF dEq (binF dIx (varF 6) (cF (.int 2))) (binF dIx (varF 3) (cF (.int 2))))) (andT (testF (binF dEq (binF dIx (varF 6) (cF (.int 1))) (cF (.str "<")))) (testF (binF dEq (binF dIx (varF 3) (cF (.int 1))) (cF (.str "<=")))))) (asgS (cF (.bool false)) (nameT 4)) (ifS (andT (testF (binF dEq (binF dIx (varF 6) (cF (.int 2))) (binF dIx (varF 3) (cF (.int 2))))) (andT (testF (binF dEq (binF dIx (varF 6) (cF (.int 1))) (binF dIx (varF 3) (cF (.int 1))))) (testF (binF dLt (varF 5) (varF 2))))) (asgS (cF (.bool false)) (nameT 4)) nxS))) nxS)))
noncomputable def LH.L_clean_2 : Rho → Out := (seqS (asgS (binF dIx (binF dIx (varF 0) (varF 2)) (cF (.int 0))) (nameT 3)) (seqS (asgS (orV (binF dGt (appF (app1 bLen) (consA (binF dIx (varF 3) (cF (.int 0))) nilA)) (cF (.int 0))) (notV (callF LH.m_true (consA (varF 3) (consA (tupF nilA) nilA))))) (nameT 4)) (seqS (forS (range1F (consA (appF (app1 bLen) (consA (varF 0) nilA)) nilA)) (nameT 5) LH.L_clean_1) (ifS (truF (varF 4)) (appendS 1 (binF dIx (varF 0) (varF 2))) nxS))))
noncomputable def LH.S_clean : Rho → Out := (seqS (ownS nilA 1) (seqS (forS (range1F (consA (appF (app1 bLen) (consA (varF 0) nilA)) nilA)) (nameT 2) LH.L_clean_2) (retS (varF 1))))
noncomputable def LH.B_clean (a0 : PyData) : FR := outFR (LH.S_clean [.d a0, .un, .un, .un, .un, .un, .un])
noncomputable def LH.m_clean : Fn := fn1 LH.B_clean
noncomputable def LH.L_without_1 : Rho → Out := (ifS (andT (testF (binF dIsN2 (varF 3) (cF (.none)))) (andT (testF (binF dEq (binF dIx (binF dIx (binF dIx (varF 1) (varF 4)) (cF (.int 0))) (cF (.int 1))) (cF (.str "=")))) (testF (binF dNe (binF dIx (callF LH.m_in (consA (binF dIx (binF dIx (varF 1) (varF 4)) (cF (.int 0))) (consA (varF 2) nilA))) (cF (.int 0))) (cF (.int 0)))))) (asgS (varF 4) (nameT 3)) nxS)
noncomputable def LH.L_without_2 : Rho → Out := (ifS (testF (binF dNe (varF 4) (varF 3))) (seqS (asgS (callF LH.m_in (consA (binF dIx (binF dIx (varF 1) (varF 4)) (cF (.int 0))) (consA (varF 2) nilA))) (nameT 7)) (seqS (asgS (callF LH.m_added (consA (binF dIx (varF 1) (varF 4)) (consA (tupF (consA (cF (.int 1)) (consA (cF (.int 1)) nilA))) (consA (binF dIx (varF 1) (varF 3)) (consA (callF LH.m_sub (consA (tupF (consA (cF (.int 0)) (consA (cF (.int 1)) nilA))) (consA (callF LH.m_div (consA (varF 7) (consA (varF 6) nilA))) nilA))) nilA))))) (nameT 8)) (appendS 5 (callF LH.m_derive (consA (varF 0) (consA (varF 8) nilA)))))) nxS)
noncomputable def LH.L_without_3 : Rho → Out := (seqS (asgS (callF LH.m_div (consA (tupF (consA (cF (.int 1)) (consA (cF (.int 1)) nilA))) (consA (callF LH.m_in (consA (binF dIx (varF 10) (cF (.int 0))) (consA (varF 2) nilA))) nilA))) (nameT 7)) (seqS (asgS (callF LH.m_div (consA (tupF (consA (unF dNeg (cF (.int 1))) (consA (cF (.int 1)) nilA))) (consA (callF LH.m_in (consA (binF dIx (varF 11) (cF (.int 0))) (consA (varF 2) nilA))) nilA))) (nameT 12)) (appendS 5 (callF LH.m_derive (consA (varF 0) (consA (callF LH.m_added (consA (varF 10) (consA (varF 7) (consA (varF 11) (consA (varF 12) nilA))))) nilA))))))
noncomputable def LH.L_without_4 : Rho → Out := (forS (itemsQ (lcO [9] (itemsQ (varF 1)) (nameT 9) (testF (binF dLt (binF dIx (callF LH.m_in (consA (binF dIx (varF 9) (cF (.int 0))) (consA (varF 2) nilA))) (cF (.int 0))) (cF (.int 0)))) (varF 9))) (nameT 11) LH.L_without_3)
noncomputable def LH.S_without : Rho → Out := (seqS (asgS (cF (.none)) (nameT 3)) (seqS (forS (range1F (consA (appF (app1 bLen) (consA (varF 1) nilA)) nilA)) (nameT 4) LH.L_without_1) (seqS (ownS nilA 5) (seqS (ifS (testF (binF dNotN2 (varF 3) (cF (.none)))) (seqS (asgS (callF LH.m_in (consA (binF dIx (binF dIx (varF 1) (varF 3)) (cF (.int 0))) (consA (varF 2) nilA))) (nameT 6)) (seqS (forS (range1F (consA (appF (app1 bLen) (consA (varF 1) nilA)) nilA)) (nameT 4) LH.L_without_2) (retS (varF 5)))) nxS) (seqS (lcS 5 [9] (itemsQ (varF 1)) (nameT 9) (testF (binF dEq (binF dIx (callF LH.m_in (consA (binF dIx (varF 9) (cF (.int 0))) (consA (varF 2) nilA))) (cF (.int 0))) (cF (.int 0)))) (varF 9)) (seqS (forS (itemsQ (lcO [9] (itemsQ (varF 1)) (nameT 9) (testF (binF dGt (binF dIx (callF LH.m_in (consA (binF dIx (varF 9) (cF (.int 0))) (consA (varF 2) nilA))) (cF (.int 0))) (cF (.int 0)))) (varF 9))) (nameT 10) LH.L_without_4) (retS (varF 5))))))))
noncomputable def LH.B_without (a0 a1 a2 : PyData) : FR := outFR (LH.S_without [.d a0, .d a1, .d a2, .un, .un, .un, .un, .un, .un, .un, .un, .un, .un])
noncomputable def LH.m_without : Fn := fn3 LH.B_without
end DL
namespace DL
open PySem PySem.Spec PyProof.Rows L2 RT
section
variable {κ : Type} [DecidableEq κ]
def gget (kvs : List (κ × Qn)) (x : κ) : Qn := ((kvs.find? fun kv => decide (kv.1 = x)).map (·.2)).getD (0, 1)
def gput (kvs : List (κ × Qn)) (x : κ) (v : Qn) : List (κ × Qn) :=
  if (kvs.any fun kv => decide (kv.1 = x)) = true then kvs.map (fun kv => if kv.1 = x then (kv.1, v) else kv) else kvs ++ [(x, v)]
def gadd (kvs : List (κ × Qn)) (p : κ × Qn) : List (κ × Qn) := gput kvs p.1 (qadd (gget kvs p.1) p.2)
def gsum (ps kvs : List (κ × Qn)) : List (κ × Qn) := ps.foldl gadd kvs
def gparts (srt : List κ → List κ) (ps : List (κ × Qn)) : List (κ × Qn) := ((srt ((gsum ps []).map (·.1))).map fun x => (x, gget (gsum ps []) x)).filter fun p => decide (p.2.1 ≠ 0)
def vs (x : κ) : List (κ × Qn) → Rat
  | [] => 0
  | p :: r => (if p.1 = x then rv p.2 else 0) + vs x r
theorem vs_app (x : κ) : ∀ ps qs : List (κ × Qn), vs x (ps ++ qs) = vs x ps + vs x qs
  | [], qs => by simp only [List.nil_append, vs]; grind
  | p :: ps, qs => by simp only [List.cons_append, vs, vs_app x ps qs]; grind
theorem vs_perm (x : κ) {ps qs : List (κ × Qn)} (h : ps.Perm qs) : vs x ps = vs x qs := by
  induction h with
  | nil => rfl
  | cons p _ ih => simp only [vs, ih]
  | swap p q l => simp only [vs]; grind
  | trans _ _ i1 i2 => exact i1.trans i2
theorem vs_no (x : κ) : ∀ ps : List (κ × Qn), (∀ p ∈ ps, p.1 ≠ x) → vs x ps = 0
  | [], _ => rfl
  | p :: ps, h => by
    have z := vs_no x ps fun q hq => h q (List.mem_cons_of_mem _ hq)
    simp only [vs, if_neg (h p List.mem_cons_self), z]
    grind
def gND (ps : List (κ × Qn)) : Prop := (ps.map (·.1)).Nodup
theorem gND.tail {p : κ × Qn} {ps : List (κ × Qn)} (h : gND (p :: ps)) : gND ps ∧ ∀ q ∈ ps, q.1 ≠ p.1 := by
  unfold gND at h
  rw [List.map_cons, List.nodup_cons] at h
  exact ⟨h.2, fun q hq e => h.1 (by rw [← e]; exact List.mem_map.mpr ⟨q, hq, rfl⟩)⟩
theorem vs_mem {p : κ × Qn} : ∀ {ps : List (κ × Qn)}, gND ps → p ∈ ps → vs p.1 ps = rv p.2
  | q :: ps, h, hm => by
    obtain ⟨h1, h2⟩ := h.tail
    rcases List.mem_cons.mp hm with rfl | hm
    · simp only [vs, if_true, vs_no p.1 ps h2]; grind
    · have : ¬ q.1 = p.1 := fun e => h2 p hm e.symm
      simp only [vs, if_neg this, vs_mem h1 hm]; grind
theorem gget_mem {kvs : List (κ × Qn)} {x : κ} : (gget kvs x = (0, 1) ∧ ∀ p ∈ kvs, p.1 ≠ x) ∨ ∃ p ∈ kvs, p.1 = x ∧ gget kvs x = p.2 := by
  unfold gget
  cases e : kvs.find? fun kv => decide (kv.1 = x) with
  | none => left; exact ⟨rfl, fun p hp => by simpa using List.find?_eq_none.mp e p hp⟩
  | some p =>
    right
    exact ⟨p, List.mem_of_find?_eq_some e, by simpa using List.find?_some e, rfl⟩
theorem vs_get {kvs : List (κ × Qn)} (h : gND kvs) (x : κ) : vs x kvs = rv (gget kvs x) := by
  rcases gget_mem (kvs := kvs) (x := x) with ⟨e, n⟩ | ⟨p, hp, e, g⟩
  · rw [e, rv01, vs_no x kvs n]
  · rw [g, ← e, vs_mem h hp]
theorem mem_gput {kvs : List (κ × Qn)} {x : κ} {v : Qn} {p : κ × Qn} (h : p ∈ gput kvs x v) : p ∈ kvs ∨ p = (x, v) := by
  unfold gput at h
  split at h
  · obtain ⟨q, hq, e⟩ := List.mem_map.mp h
    by_cases z : q.1 = x
    · rw [if_pos z] at e
      right; rw [← e, z]
    · rw [if_neg z] at e
      left; rw [← e]; exact hq
  · rcases List.mem_append.mp h with h | h
    · exact .inl h
    · right; simpa using h
theorem gput_keys (kvs : List (κ × Qn)) (x : κ) (v : Qn) : (gput kvs x v).map (·.1) = if x ∈ kvs.map (·.1) then kvs.map (·.1) else kvs.map (·.1) ++ [x] := by
  unfold gput
  have e : (kvs.any fun kv => decide (kv.1 = x)) = decide (x ∈ kvs.map (·.1)) := by
    rw [Bool.eq_iff_iff]
    simp only [List.any_eq_true, decide_eq_true_eq, List.mem_map]
  rw [e]
  by_cases h : x ∈ kvs.map (·.1)
  · rw [if_pos h, if_pos (by simpa using h), List.map_map]
    apply List.map_congr_left
    intro p _
    simp only [Function.comp_apply]
    split <;> rfl
  · rw [if_neg h, if_neg (by simpa using h)]
    simp
theorem gput_nd {kvs : List (κ × Qn)} {x : κ} {v : Qn} (h : gND kvs) : gND (gput kvs x v) := by
  unfold gND at h ⊢
  rw [gput_keys]
  split
  · exact h
  · rename_i hn
    rw [List.nodup_append]
    refine ⟨h, by simp, fun a ha b hb e => ?_⟩
    simp at hb
    exact hn (by rw [← hb, ← e]; exact ha)
theorem gsum_nd : ∀ (ps : List (κ × Qn)) {kvs : List (κ × Qn)}, gND kvs → gND (gsum ps kvs)
  | [], _, h => h
  | p :: ps, kvs, h => gsum_nd ps (kvs := gadd kvs p) (gput_nd h)
theorem vs_put (y : κ) {x : κ} {v : Qn} : ∀ {kvs : List (κ × Qn)}, gND kvs → vs y (gput kvs x v) = if x = y then rv v else vs y kvs := by
  intro kvs h
  by_cases e : x = y
  · rw [if_pos e]
    have : (x, v) ∈ gput kvs x v := by
      unfold gput
      split
      · rename_i hm
        obtain ⟨q, hq, eq⟩ := List.any_eq_true.mp hm
        exact List.mem_map.mpr ⟨q, hq, by rw [if_pos (by simpa using eq), show q.1 = x by simpa using eq]⟩
      · simp
    have z := vs_mem (p := (x, v)) (gput_nd h) this
    rw [← e]; exact z
  · rw [if_neg e]
    unfold gput
    split
    · clear h
      induction kvs with
      | nil => rfl
      | cons p kvs ih =>
        by_cases hm : (kvs.any fun kv => decide (kv.1 = x)) = true
        · have z := ih hm
          rw [List.map_cons]
          by_cases q : p.1 = x
          · rw [if_pos q]
            have q2 : ¬ p.1 = y := fun w => e (q.symm.trans w)
            simp only [vs, z]
            rw [if_neg q2, if_neg q2]
          · rw [if_neg q]
            simp only [vs, z]
        · have no : kvs.map (fun kv => if kv.1 = x then (kv.1, v) else kv) = kvs := by
            conv => rhs; rw [← List.map_id kvs]
            apply List.map_congr_left
            intro r hr
            have : ¬ r.1 = x := fun w => hm (List.any_eq_true.mpr ⟨r, hr, by simpa using w⟩)
            simp [this]
          rw [List.map_cons, no]
          by_cases q : p.1 = x
          · rw [if_pos q]
            have q2 : ¬ p.1 = y := fun w => e (q.symm.trans w)
            simp only [vs]
            rw [if_neg q2, if_neg q2]
          · rw [if_neg q]
    · rw [vs_app]
      simp only [vs, if_neg e]
      grind
theorem gsum_low : ∀ (ps : List (κ × Qn)) {kvs : List (κ × Qn)}, (∀ p ∈ kvs, Low p.2) → (∀ p ∈ ps, 0 < p.2.2) → ∀ q ∈ gsum ps kvs, Low q.2
  | [], _, h, _ => h
  | p :: ps, kvs, h, hp => gsum_low ps (kvs := gadd kvs p) (fun q hq => by
      rcases mem_gput hq with hq | rfl
      · exact h q hq
      · have g : 0 < (gget kvs p.1).2 := by
          rcases gget_mem (kvs := kvs) (x := p.1) with ⟨e, _⟩ | ⟨r, hr, _, e⟩
          · rw [e]; decide
          · rw [e]; exact (h r hr).pos
        have := hp p List.mem_cons_self
        exact low_nrm (Int.mul_ne_zero (by omega) (by omega))) fun q hq => hp q (List.mem_cons_of_mem _ hq)
theorem gget_low {kvs : List (κ × Qn)} (h : ∀ p ∈ kvs, Low p.2) (x : κ) : Low (gget kvs x) := by
  rcases gget_mem (kvs := kvs) (x := x) with ⟨e, _⟩ | ⟨r, hr, _, e⟩
  · rw [e]; exact low01
  · rw [e]; exact h r hr
theorem vs_sum (x : κ) : ∀ (ps : List (κ × Qn)) {kvs : List (κ × Qn)}, gND kvs → (∀ p ∈ kvs, Low p.2) → (∀ p ∈ ps, 0 < p.2.2) → vs x (gsum ps kvs) = vs x kvs + vs x ps
  | [], kvs, _, _, _ => by show vs x kvs = _; simp only [vs]; grind
  | p :: ps, kvs, h, hl, hp => by
    have p0 := hp p List.mem_cons_self
    have g := gget_low hl p.1
    have gp := g.pos
    have z := vs_sum x ps (kvs := gadd kvs p) (gput_nd h) (gsum_low [p] hl fun q hq => by rw [List.mem_singleton.mp hq]; exact p0) fun q hq => hp q (List.mem_cons_of_mem _ hq)
    show vs x (gsum ps (gadd kvs p)) = _
    rw [z]
    unfold gadd
    rw [vs_put x h, rv_add (by omega) (by omega)]
    simp only [vs]
    by_cases e : p.1 = x
    · rw [if_pos e, if_pos e, ← vs_get h, e]; grind
    · rw [if_neg e, if_neg e]; grind
theorem vs_filter (x : κ) : ∀ ps : List (κ × Qn), vs x (ps.filter fun p => decide (p.2.1 ≠ 0)) = vs x ps
  | [] => rfl
  | p :: ps => by
    have z := vs_filter x ps
    rw [List.filter_cons]
    by_cases h : p.2.1 = 0
    · rw [if_neg (by simp [h]), z]
      have : rv p.2 = 0 := rv_zero.mpr (.inl h)
      simp only [vs, this]
      split <;> grind
    · rw [if_pos (by simp [h])]
      simp only [vs, z]
theorem gkeys_get (kvs : List (κ × Qn)) (h : gND kvs) : (kvs.map (·.1)).map (fun x => (x, gget kvs x)) = kvs := by
  rw [List.map_map]
  conv => rhs; rw [← List.map_id kvs]
  apply List.map_congr_left
  intro p hp
  have : gget kvs p.1 = p.2 := by
    rcases gget_mem (kvs := kvs) (x := p.1) with ⟨_, n⟩ | ⟨r, hr, e, g⟩
    · exact absurd rfl (n p hp)
    · rw [g]
      have : r = p := by
        clear g
        induction kvs with
        | nil => cases hp
        | cons q kvs ih =>
          obtain ⟨h1, h2⟩ := h.tail
          rcases List.mem_cons.mp hp with rfl | hp'
          · rcases List.mem_cons.mp hr with rfl | hr'
            · rfl
            · exact absurd e (h2 r hr')
          · rcases List.mem_cons.mp hr with rfl | hr'
            · exact absurd e.symm (h2 p hp')
            · exact ih h1 hp' hr'
      rw [this]
  simp [this]
structure Srt (srt : List κ → List κ) (le : κ → κ → Prop) : Prop where
  perm : ∀ l, (srt l).Perm l
  srtd : ∀ l, (srt l).Pairwise le
  anti : ∀ {a b}, le a b → le b a → a = b
  tot : ∀ a b, le a b ∨ le b a
structure Can (le : κ → κ → Prop) (ps : List (κ × Qn)) : Prop where
  asc : ps.Pairwise fun a b => le a.1 b.1 ∧ a.1 ≠ b.1
  low : ∀ p ∈ ps, Low p.2 ∧ p.2.1 ≠ 0
theorem Can.nd {le : κ → κ → Prop} {ps : List (κ × Qn)} (h : Can le ps) : gND ps := by
  unfold gND
  rw [List.nodup_iff_pairwise_ne, List.pairwise_map]
  exact h.asc.imp fun h => h.2
theorem gparts_vs {srt : List κ → List κ} {le : κ → κ → Prop} (S : Srt srt le) {ps : List (κ × Qn)} (hp : ∀ p ∈ ps, 0 < p.2.2) (x : κ) : vs x (gparts srt ps) = vs x ps := by
  have h1 : gND (gsum ps []) := gsum_nd ps (by simp [gND])
  unfold gparts
  rw [vs_filter]
  have e : ((srt ((gsum ps []).map (·.1))).map fun x => (x, gget (gsum ps []) x)).Perm (gsum ps []) := by
    have := (S.perm ((gsum ps []).map (·.1))).map (fun x => (x, gget (gsum ps []) x))
    rw [gkeys_get _ h1] at this
    exact this
  rw [vs_perm x e, vs_sum x ps (by simp [gND]) (fun _ h => by cases h) hp]
  simp only [vs]
  grind
theorem gparts_can {srt : List κ → List κ} {le : κ → κ → Prop} (S : Srt srt le) {ps : List (κ × Qn)} (hp : ∀ p ∈ ps, 0 < p.2.2) : Can le (gparts srt ps) := by
  have h1 : gND (gsum ps []) := gsum_nd ps (by simp [gND])
  have h2 : (srt ((gsum ps []).map (·.1))).Nodup := (S.perm _).nodup_iff.mpr h1
  constructor
  · unfold gparts
    refine List.Pairwise.filter _ ?_
    rw [List.pairwise_map]
    exact (S.srtd _).and (List.nodup_iff_pairwise_ne.mp h2)
  · intro p hp'
    unfold gparts at hp'
    obtain ⟨q1, q2⟩ := List.mem_filter.mp hp'
    obtain ⟨x, _, rfl⟩ := List.mem_map.mp q1
    exact ⟨gget_low (gsum_low ps (fun _ h => by cases h) hp) x, by simpa using q2⟩
theorem vs_scale (x : κ) {c : Qn} (hc : 0 < c.2) : ∀ ps : List (κ × Qn), (∀ p ∈ ps, 0 < p.2.2) → vs x (ps.map fun p => (p.1, qmul p.2 c)) = vs x ps * rv c
  | [], _ => by simp only [List.map_nil, vs]; grind
  | p :: ps, hp => by
    have p0 := hp p List.mem_cons_self
    have z := vs_scale x hc ps fun q hq => hp q (List.mem_cons_of_mem _ hq)
    simp only [List.map_cons, vs, z, rv_mul (show c.2 ≠ 0 by omega) (show p.2.2 ≠ 0 by omega)]
    split <;> grind
theorem can_scale {le : κ → κ → Prop} {c : Qn} (hc : 0 < c.2) (h0 : c.1 ≠ 0) {ps : List (κ × Qn)} (h : Can le ps) : Can le (ps.map fun p => (p.1, qmul p.2 c)) := by
  refine ⟨by rw [List.pairwise_map]; exact h.asc, fun p hp => ?_⟩
  obtain ⟨q, hq, rfl⟩ := List.mem_map.mp hp
  obtain ⟨l, n⟩ := h.low q hq
  exact ⟨low_nrm (Int.mul_ne_zero (by have := l.pos; omega) (by omega)), qmul_nz n l.pos h0 hc⟩
end
theorem srtS : Srt sortS leS := ⟨sortS_perm, sortS_sorted, fun a b => leS_anti a b, fun a b => leS_total a b⟩
abbrev papM (ps : List Pa) : List Pa := gparts sortI ps
end DL
namespace DL
open PySem PySem.Spec PyProof.Rows L2 RT
section
variable {e0 : Ent} (PS : Rho → Out)
end
section
variable {ps : List (Str × Qn)} (c : List PyData → PyData) (hc : c = PyData.list ∨ c = PyData.tuple) (hk : ∀ pre post, ps = pre ++ post → ∀ x, Sz 4000 (gget (gsum pre []) x)) (h : ∀ p ∈ ps, Sz 4000 p.2) (hl : ps.length < 60)
include hc hk h hl
end
section
variable {e0 : Ent} (PS : Rho → Out)
end
section
variable {ps : List (Int × Qn)} (c : List PyData → PyData) (hc : c = PyData.list ∨ c = PyData.tuple) (hk : ∀ pre post, ps = pre ++ post → ∀ x, Sz 4000 (gget (gsum pre []) x)) (h : ∀ p ∈ ps, Sz 4000 p.2) (hl : ps.length < 60)
include hc hk h hl
end
end DL
namespace DL
open PySem PySem.Spec PyProof.Rows L2 RT
section
variable {rows : List Rw} (R : ∀ r ∈ rows, SzR 1900 r ∧ Sgn r.2.1 ∧ r.1.length ≤ 4) {e1 : Ent}
include R
structure TotIn (rows : List Rw) (pa : List Pa) : Prop where
  ix : ∀ p ∈ pa, (0 ≤ p.1 ∧ p.1 < rows.length) ∧ Sz 2000 p.2
  hT : ∀ pre post, pa = pre ++ post → Sz 4000 (accT rows pre (0, 1))
  hP : ∀ pre post, accP rows pa = pre ++ post → ∀ x, Sz 4000 (gget (gsum pre []) x)
  len : pa.length ≤ 8
section
variable {pa : List Pa} (h : TotIn rows pa)
include h
end
end
end DL
namespace DL
open PySem PySem.Spec PyProof.Rows L2 RT
def Fd (D : Int) (B : Nat) (r : Rat) : Prop := ∃ n : Int, n.natAbs ≤ B ∧ r = (n : Rat) / (D : Rat)
theorem Fd.zero {D : Int} {B : Nat} : Fd D B 0 := ⟨0, by simp, by push_cast; grind⟩
theorem Fd.mono {D : Int} {B B' : Nat} {r : Rat} (h : Fd D B r) (hb : B ≤ B') : Fd D B' r := let ⟨n, a, b⟩ := h; ⟨n, Nat.le_trans a hb, b⟩
theorem Fd.add {D : Int} {B B' : Nat} {r r' : Rat} (h : Fd D B r) (h' : Fd D B' r') : Fd D (B + B') (r + r') := by
  obtain ⟨n, a, rfl⟩ := h
  obtain ⟨n', a', rfl⟩ := h'
  exact ⟨n + n', by omega, by push_cast; grind⟩
theorem Fd.neg {D : Int} {B : Nat} {r : Rat} (h : Fd D B r) : Fd D B (-r) := by
  obtain ⟨n, a, rfl⟩ := h
  exact ⟨-n, by omega, by push_cast; grind⟩
theorem Fd.mul {D D' : Int} {B B' : Nat} {r r' : Rat} (hD : D ≠ 0) (hD' : D' ≠ 0) (h : Fd D B r) (h' : Fd D' B' r') : Fd (D * D') (B * B') (r * r') := by
  obtain ⟨n, a, rfl⟩ := h
  obtain ⟨n', a', rfl⟩ := h'
  have d1 := rc hD
  have d2 := rc hD'
  exact ⟨n * n', by rw [Int.natAbs_mul]; exact Nat.mul_le_mul a a', by push_cast; grind⟩
theorem Fd.up {D : Int} {B : Nat} {r : Rat} {k : Int} (hD : D ≠ 0) (hk : k ≠ 0) (h : Fd D B r) : Fd (D * k) (B * k.natAbs) r := by
  obtain ⟨n, a, rfl⟩ := h
  have d1 := rc hD
  have d2 := rc hk
  exact ⟨n * k, by rw [Int.natAbs_mul]; exact Nat.mul_le_mul_right _ a, by push_cast; grind⟩
theorem Fd.of (q : Qn) : Fd q.2 q.1.natAbs (rv q) := ⟨q.1, Nat.le_refl _, rfl⟩
theorem Low.fd {q : Qn} (h : Low q) {D : Int} (hD : 0 < D) {B : Nat} (f : Fd D B (rv q)) : q.1.natAbs ≤ B ∧ q.2.natAbs ≤ D.natAbs := by
  obtain ⟨n, a, e⟩ := f
  have p := h.pos
  have e2 := (rv_eq (p := q) (q := (n, D)) p hD).mp (by rw [e]; rfl)
  simp only at e2
  have c : Nat.Coprime q.2.natAbs q.1.natAbs := by
    have := h.co
    rw [Nat.gcd_comm] at this
    exact this
  have dv : q.2.natAbs ∣ D.natAbs := by
    refine c.dvd_of_dvd_mul_left ?_
    rw [← Int.natAbs_mul, e2, Int.natAbs_mul]
    exact Nat.dvd_mul_left _ _
  have z2 : q.2.natAbs ≤ D.natAbs := Nat.le_of_dvd (by omega) dv
  refine ⟨?_, z2⟩
  have e3 : q.1.natAbs * D.natAbs = n.natAbs * q.2.natAbs := by rw [← Int.natAbs_mul, e2, Int.natAbs_mul]
  have : q.1.natAbs * D.natAbs ≤ n.natAbs * D.natAbs := by rw [e3]; exact Nat.mul_le_mul_left _ z2
  exact Nat.le_trans (Nat.le_of_mul_le_mul_right this (by omega)) a
theorem Low.sz {q : Qn} (h : Low q) {D : Int} (hD : 0 < D) {B n : Nat} (f : Fd D B (rv q)) (hB : B < 2 ^ n) (hn : D.natAbs < 2 ^ n) : Sz n q := by
  obtain ⟨a, b⟩ := h.fd hD f
  exact ⟨h.pos, Nat.lt_of_le_of_lt a hB, Nat.lt_of_le_of_lt b hn⟩
section
variable {κ : Type} [DecidableEq κ]
theorem vs_fd {D : Int} {B : Nat} (x : κ) : ∀ {ps : List (κ × Qn)}, (∀ p ∈ ps, Fd D B (rv p.2)) → Fd D (B * ps.length) (vs x ps)
  | [], _ => Fd.zero
  | p :: ps, h => by
    have z := vs_fd x (ps := ps) fun q hq => h q (List.mem_cons_of_mem _ hq)
    have a := h p List.mem_cons_self
    simp only [vs]
    rw [List.length_cons, Nat.mul_succ, Nat.add_comm]
    refine Fd.add ?_ z
    split
    · exact a
    · exact Fd.zero
end
def RwP (rows : List Rw) : Prop := ∀ i, (∀ p ∈ (rwAt rows i).1, 0 < p.2.2) ∧ 0 < (rwAt rows i).2.2.2
section
variable {rows : List Rw} (R : RwP rows)
include R
theorem accP_pos : ∀ {pa : List Pa}, (∀ p ∈ pa, 0 < p.2.2) → ∀ q ∈ accP rows pa, 0 < q.2.2
  | [], _, q, h => by simp [accP] at h
  | p :: pa, h, q, hq => by
    have f1 : accP rows (p :: pa) = (scaleM (rwAt rows p.1) p.2).1 ++ accP rows pa := by simp [accP]
    rw [f1] at hq
    rcases List.mem_append.mp hq with hq | hq
    · obtain ⟨r, hr, rfl⟩ := List.mem_map.mp hq
      exact qmul_pos ((R p.1).1 r hr) (h p List.mem_cons_self)
    · exact accP_pos (fun q hq => h q (List.mem_cons_of_mem _ hq)) q hq
theorem accT_low : ∀ {pa : List Pa} {t : Qn}, (∀ p ∈ pa, 0 < p.2.2) → Low t → Low (accT rows pa t)
  | [], t, _, h => h
  | p :: pa, t, hp, h => accT_low (pa := pa) (fun q hq => hp q (List.mem_cons_of_mem _ hq)) (low_nrm (Int.mul_ne_zero (by have := h.pos; omega) (by have := qmul_pos (R p.1).2 (hp p List.mem_cons_self); omega)))
end
end DL
namespace DL
open PySem PySem.Spec PyProof.Rows L2 RT
abbrev Dr := Rw × List Pa
abbrev drD (d : Dr) : PyData := .tuple [rD d.1, .tuple (d.2.map aD)]
structure Dv (rows : List Rw) (d : Dr) : Prop where
  can : Can (· ≤ · : Int → Int → Prop) d.2
  ix : ∀ p ∈ d.2, 0 ≤ p.1 ∧ p.1 < rows.length
  sg : ∀ p ∈ d.2, p.2.1 < 0 → (rwAt rows p.1).2.1 = "="
  tot : totM rows d.2 = d.1
  nrm : normM d.1 = d.1
theorem can_pos {κ : Type} {le : κ → κ → Prop} {ps : List (κ × Qn)} (h : Can le ps) : ∀ p ∈ ps, 0 < p.2.2 := fun p hp => (h.low p hp).1.pos
section
variable {κ : Type} [DecidableEq κ] {le : κ → κ → Prop} {ps : List (κ × Qn)}
end
section
variable {rows : List Rw} (R : RwP rows)
include R
theorem tot_can {pa : List Pa} (hp : ∀ p ∈ pa, 0 < p.2.2) : Can leS (totM rows pa).1 ∧ Low (totM rows pa).2.2 := ⟨gparts_can srtS (accP_pos R hp), accT_low R hp low01⟩
theorem Dv.row {d : Dr} (h : Dv rows d) : Can leS d.1.1 ∧ Low d.1.2.2 := by
  have z := tot_can R (can_pos h.can)
  rw [h.tot] at z
  exact z
theorem Dv.pos {d : Dr} (h : Dv rows d) : PosR d.1 := by
  obtain ⟨z1, z2⟩ := h.row R
  exact ⟨fun p hp => ⟨(z1.low p hp).1.pos, (z1.low p hp).2⟩, z2.pos⟩
end
theorem Dv.sgn {rows : List Rw} {d : Dr} (h : Dv rows d) : d.1.2.1 = sgnOf (sigs rows d.2) := by
  have := h.tot
  rw [← this]
  rfl
def May (f : Qn) (d : Dr) : Prop := 0 < f.2 ∧ (0 < rv f ∨ d.1.2.1 = "=")
section
variable {rows : List Rw} {d1 d2 : Dr} {f1 f2 : Qn} (h1 : Dv rows d1) (h2 : Dv rows d2) (m1 : May f1 d1) (m2 : May f2 d2)
include h1 h2 m1 m2
end
end DL
namespace DL
open PySem PySem.Spec PyProof.Rows L2 RT
def mulP (ps : List Pa) (f : Qn) : List Pa := ps.map fun p => (p.1, qmul p.2 f)
def rawM (d1 : Dr) (f1 : Qn) (d2 : Dr) (f2 : Qn) : Rw := totM [d1.1, d2.1] [(0, f1), (1, f2)]
def cmbM (d1 : Dr) (f1 : Qn) (d2 : Dr) (f2 : Qn) : Dr := (normM (rawM d1 f1 d2 f2), papM (mulP d1.2 (qmul f1 (factorM (rawM d1 f1 d2 f2))) ++ mulP d2.2 (qmul f2 (factorM (rawM d1 f1 d2 f2)))))
section
variable {rows : List Rw} {d1 d2 : Dr} {f1 f2 : Qn} (R : RwP rows) (RS : ∀ i, Sgn (rwAt rows i).2.1) (h1 : Dv rows d1) (h2 : Dv rows d2) (m1 : May f1 d1) (m2 : May f2 d2)
include R h1 h2 m1 m2
include RS
end
end DL
namespace DL
open PySem PySem.Spec PyProof.Rows L2 RT
theorem pwm (a b : Nat) : 2 ^ a * 2 ^ b = 2 ^ (a + b) := (Nat.pow_add 2 a b).symm
theorem pwd (a : Nat) : 2 ^ a + 2 ^ a = 2 ^ (a + 1) := by rw [Nat.pow_succ]; omega
theorem pwl {a b : Nat} (h : a ≤ b) : 2 ^ a ≤ 2 ^ b := Nat.pow_le_pow_right (by decide) h
theorem pw1 (a : Nat) : 2 ^ a < 2 ^ (a + 1) := by rw [← pwd]; have := Nat.two_pow_pos a; omega
theorem nmul {a b : Int} {m n : Nat} (h : a.natAbs ≤ 2 ^ m) (k : b.natAbs ≤ 2 ^ n) : (a * b).natAbs ≤ 2 ^ (m + n) := by
  rw [Int.natAbs_mul, ← pwm]
  exact Nat.mul_le_mul h k
theorem Low.dvd {q : Qn} (h : Low q) {D n : Int} (hD : 0 < D) (e : rv q = (n : Rat) / (D : Rat)) : q.2 ∣ D ∧ q.1 * (D / q.2) = n := by
  have p := h.pos
  have e2 := (rv_eq (p := q) (q := (n, D)) p hD).mp (by rw [e]; rfl)
  simp only at e2
  have c : Nat.Coprime q.2.natAbs q.1.natAbs := by
    have := h.co
    rw [Nat.gcd_comm] at this
    exact this
  have dv : q.2.natAbs ∣ D.natAbs := by
    refine c.dvd_of_dvd_mul_left ?_
    rw [← Int.natAbs_mul, e2, Int.natAbs_mul]
    exact Nat.dvd_mul_left _ _
  have dv2 : q.2 ∣ D := Int.natAbs_dvd_natAbs.mp dv
  refine ⟨dv2, ?_⟩
  obtain ⟨k, hk⟩ := dv2
  have q0 : q.2 ≠ 0 := by omega
  rw [hk, Int.mul_ediv_cancel_left _ q0]
  rw [hk] at e2
  have : q.2 * (q.1 * k) = q.2 * n := by rw [← Int.mul_assoc, Int.mul_comm q.2 q.1, Int.mul_assoc, e2, Int.mul_comm]
  exact Int.eq_of_mul_eq_mul_left q0 this
theorem fac_parts {r : Rw} (hP : PosR r) (hL : ∀ p ∈ r.1, Low p.2) (hne : r.1 ≠ []) {K : Int} (hK : 0 < K) {B : Nat} (hB : ∀ p ∈ r.1, Fd K B (rv p.2)) :
    ∃ S : Int, 0 < S ∧ S.natAbs ≤ B ∧ (rv (factorM r) = (K : Rat) / (S : Rat) ∨ rv (factorM r) = -((K : Rat) / (S : Rat))) ∧ ∀ p ∈ r.1, ∃ m : Int, rv p.2 * rv (factorM r) = (m : Rat) := by
  obtain ⟨q, qs, e⟩ := facQ_cons r
  have eF : facQ r = r.1.map (·.2) := by
    obtain ⟨ps, sg, bd⟩ := r
    cases ps with
    | nil => exact absurd rfl hne
    | cons p ps => rfl
  have hq : q ∈ r.1.map (·.2) := by rw [← eF, e]; exact List.mem_cons_self
  obtain ⟨p0, hp0, ep0⟩ := List.mem_map.mp hq
  have h0 : q.1 ≠ 0 := by rw [← ep0]; exact (hP.ps p0 hp0).2
  obtain ⟨f, P, Ef, Lf⟩ := fac_rv hP e h0
  have all : ∀ x ∈ q :: qs, Low x ∧ Fd K B (rv x) := fun x hx => by
    rw [← e, eF] at hx
    obtain ⟨p, hp, rfl⟩ := List.mem_map.mp hx
    exact ⟨hL p hp, hB p hp⟩
  have g0 : gcdL ((q :: qs).map fun q => q.1 * (K / q.2)) ∣ (q.1 * (K / q.2)).natAbs := Nat.gcd_dvd_left _ _
  obtain ⟨lq, nq, bq, eq⟩ := all q List.mem_cons_self
  obtain ⟨dq, iq⟩ := lq.dvd hK eq
  have n0 : nq ≠ 0 := by
    intro z
    rw [z] at eq
    have : rv q = 0 := by rw [eq]; push_cast; grind
    exact h0 ((rv_nz lq.pos).mpr this)
  rw [iq] at g0
  have Sp : 0 < gcdL ((q :: qs).map fun q => q.1 * (K / q.2)) := Nat.pos_of_dvd_of_pos g0 (by omega)
  have P2 := prim_of (qs := q :: qs) hK Sp (fun x hx => ⟨(all x hx).1.pos, by
    obtain ⟨l, n, b, ex⟩ := all x hx
    exact (l.dvd hK ex).1⟩) rfl
  have fe := P.unique P2
  refine ⟨(gcdL ((q :: qs).map fun q => q.1 * (K / q.2)) : Int), by omega, ?_, ?_, ?_⟩
  · rw [Int.natAbs_natCast]
    exact Nat.le_trans (Nat.le_of_dvd (by omega) g0) bq
  · rw [Ef, fe]
    split
    · exact .inr rfl
    · exact .inl rfl
  · intro p hp
    obtain ⟨ns, en, _⟩ := P.who
    have : f * rv p.2 ∈ ((q :: qs).map rv).map (f * ·) := List.mem_map.mpr ⟨rv p.2, List.mem_map.mpr ⟨p.2, by rw [← e, eF]; exact List.mem_map.mpr ⟨p, hp, rfl⟩, rfl⟩, rfl⟩
    rw [en] at this
    obtain ⟨m, _, em⟩ := List.mem_map.mp this
    rw [Ef]
    split
    · exact ⟨-m, by push_cast; rw [em]; grind⟩
    · exact ⟨m, by rw [em]; grind⟩
end DL
namespace DL
open PySem PySem.Spec PyProof.Rows L2 RT
def Pap (δ : Nat) (pa : List Pa) : Prop := ∃ D : Int, 0 < D ∧ D.natAbs ≤ 2 ^ δ ∧ ∀ p ∈ pa, Fd D (2 ^ δ) (rv p.2)
structure SzD (c b δ : Nat) (d : Dr) : Prop where
  int : ∀ p ∈ d.1.1, p.2.2 = 1 ∧ p.2.1.natAbs ≤ 2 ^ c
  bd : d.1.2.2.1.natAbs ≤ 2 ^ b ∧ d.1.2.2.2.natAbs ≤ 2 ^ b
  pap : d.1.1 ≠ [] → Pap δ d.2
  big : Pap 1900 d.2
structure Fac (c : Nat) (K : Int) (f1 f2 : Qn) : Prop where
  pos : 0 < K
  le : K.natAbs ≤ 2 ^ (2 * c)
  f1 : Fd K (2 ^ c) (rv f1)
  f2 : Fd K (2 ^ c) (rv f2)
section
variable {rows : List Rw} {d1 d2 : Dr} {f1 f2 : Qn} (R : RwP rows) (h1 : Dv rows d1) (h2 : Dv rows d2) (m1 : May f1 d1) (m2 : May f2 d2)
  {c b δ : Nat} (z1 : SzD c b δ d1) (z2 : SzD c b δ d2) {K : Int} (F : Fac c K f1 f2)
include R h1 h2 m1 m2 z1 z2 F
end
end DL
namespace DL
open PySem PySem.Spec PyProof.Rows L2 RT
theorem len_of_nd2 {α : Type} [BEq α] [LawfulBEq α] : ∀ (L xs : List α), xs.Nodup → (∀ x ∈ xs, x ∈ L) → xs.length ≤ L.length
  | [], xs, _, h => by
    cases xs with
    | nil => simp
    | cons x xs => exact absurd (h x List.mem_cons_self) (by simp)
  | a :: L, xs, hn, h => by
    by_cases ha : a ∈ xs
    · have z := len_of_nd2 L (xs.erase a) (hn.erase a) (fun x hx => by
        have h1 := (hn.mem_erase_iff).mp hx
        rcases List.mem_cons.mp (h x h1.2) with e | e
        · exact absurd e h1.1
        · exact e)
      rw [List.length_erase_of_mem ha] at z
      simp only [List.length_cons]
      omega
    · have z := len_of_nd2 L xs hn (fun x hx => by
        rcases List.mem_cons.mp (h x hx) with e | e
        · exact absurd (e ▸ hx) ha
        · exact e)
      simp only [List.length_cons]
      omega
structure Rz (rows : List Rw) : Prop where
  rwp : RwP rows
  sgn : ∀ i, Sgn (rwAt rows i).2.1
  sz : ∀ r ∈ rows, SzR 150 r ∧ Sgn r.2.1 ∧ r.1.length ≤ 4
  int : ∀ i, ∀ p ∈ (rwAt rows i).1, p.2.2 = 1 ∧ p.2.1.natAbs ≤ 2 ^ 30
  bds : ∃ E : Int, 0 < E ∧ E.natAbs ≤ 2 ^ 280 ∧ ∀ i, Fd E (2 ^ 320) (rv (rwAt rows i).2.2)
  len : rows.length ≤ 8
theorem Pap.sz {δ : Nat} {pa : List Pa} (h : Pap δ pa) (hl : ∀ p ∈ pa, Low p.2) : ∀ p ∈ pa, Sz (δ + 1) p.2 := fun p hp => by
  obtain ⟨D, a, b, c⟩ := h
  exact (hl p hp).sz a (c p hp) (pw1 _) (Nat.lt_of_le_of_lt b (pw1 _))
theorem Rz.big {rows : List Rw} (Z : Rz rows) : ∀ r ∈ rows, SzR 1900 r ∧ Sgn r.2.1 ∧ r.1.length ≤ 4 := fun r hr => ⟨(Z.sz r hr).1.mono (by decide), (Z.sz r hr).2⟩
end DL
set_option exponentiation.threshold 5000
namespace DL
open PySem PySem.Spec PyProof.Rows L2 RT
theorem merge_nd : ∀ (ps kvs : List Pt), gND (kvs ++ ps) → ps.foldl (fun k p => putQ k p.1 p.2) kvs = kvs ++ ps
  | [], kvs, _ => by simp
  | p :: ps, kvs, h => by
    have hn : ∀ q ∈ kvs, q.1 ≠ p.1 := by
      unfold gND at h
      rw [List.map_append, List.nodup_append] at h
      exact fun q hq e => h.2.2 q.1 (List.mem_map.mpr ⟨q, hq, rfl⟩) p.1 (by simp) e
    have e : putQ kvs p.1 p.2 = kvs ++ [p] := by
      unfold putQ
      rw [if_neg]
      intro z
      obtain ⟨q, hq, e⟩ := List.any_eq_true.mp z
      exact hn q hq (by simpa using e)
    rw [List.foldl_cons, e, merge_nd ps (kvs ++ [p]) (by simpa using h)]
    simp
def amt (d : Dr) (x : Str) : Qn := gget d.1.1 x
theorem look_nd {ps : List Pt} (h : gND ps) (x : Str) : look ps x = gget ps x := by
  unfold look mergeQ
  rw [merge_nd ps [] (by simpa using h)]
  rfl
section
variable {rows : List Rw} {d1 d2 : Dr} {f1 f2 : Qn} (Z : Rz rows) (h1 : Dv rows d1) (h2 : Dv rows d2) (m1 : May f1 d1) (m2 : May f2 d2) (l1 : Low f1) (l2 : Low f2)
  {c b δ : Nat} (z1 : SzD c b δ d1) (z2 : SzD c b δ d2) {K : Int} (F : Fac c K f1 f2) (n1 : d1.1.1 ≠ []) (n2 : d2.1.1 ≠ [])
include Z h1 h2 m1 m2 l1 l2 z1 z2 F n1 n2
end
end DL
set_option exponentiation.threshold 5000
namespace DL
open PySem PySem.Spec PyProof.Rows L2 RT
end DL
set_option exponentiation.threshold 5000
namespace DL
open PySem PySem.Spec PyProof.Rows L2 RT
structure Bnd (L : List Str) (c b δ : Nat) : Prop where
  l3 : L.length ≤ 4
  nd : L.Nodup
  ok : ∀ x ∈ L, PySem.PyData.strOk x = true
  hc : 2 * c + 2 * b ≤ 1100
  hδ : δ ≤ 400
  hn : (2 * c + 2 * b + 2) * (L.length + 1) + 4 ≤ 3900
  h1 : 2 * δ + 4 * c + 1 ≤ 1900
  h2 : 2 * δ + 3 * c + 2 * b + 1 ≤ 1900
structure Ctx (rows : List Rw) (L : List Str) (c b δ : Nat) (d : Dr) : Prop where
  dv : Dv rows d
  sz : SzD c b δ d
  nm : ∀ p ∈ d.1.1, p.1 ∈ L
structure CmbOk (x : Str) (c : Nat) (d1 : Dr) (f1 : Qn) (d2 : Dr) (f2 : Qn) : Prop where
  m1 : May f1 d1
  m2 : May f2 d2
  l1 : Low f1
  l2 : Low f2
  fac : ∃ K : Int, Fac c K f1 f2
  n1 : d1.1.1 ≠ []
  n2 : d2.1.1 ≠ []
  v0 : vs x d1.1.1 * rv f1 + vs x d2.1.1 * rv f2 = 0
section
variable {rows : List Rw} (Z : Rz rows) {L : List Str} {c b δ : Nat} (B : Bnd L c b δ)
include Z B
theorem Ctx.len {d : Dr} (C : Ctx rows L c b δ d) : d.1.1.length ≤ L.length := by
  have z := len_of_nd2 L (d.1.1.map fun p : Pt => p.1) (C.dv.row Z.rwp).1.nd (fun x hx => by
    obtain ⟨p, hp, rfl⟩ := List.mem_map.mp hx
    exact C.nm p hp)
  simpa using z
variable {x : Str} (hx : x ∈ L) {d1 d2 : Dr} {f1 f2 : Qn} (C1 : Ctx rows L c b δ d1) (C2 : Ctx rows L c b δ d2) (k : CmbOk x c d1 f1 d2 f2)
include hx C1 C2 k
end
end DL
set_option exponentiation.threshold 5000
namespace DL
open PySem PySem.Spec PyProof.Rows L2 RT
def fU (d : Dr) (x : Str) : Qn := qdiv (1, 1) (amt d x)
def fD (d : Dr) (x : Str) : Qn := qdiv (-1, 1) (amt d x)
def fS (o e : Dr) (x : Str) : Qn := qdiv (qmul (amt o x) (-1, 1)) (amt e x)
def subM (x : Str) (e o : Dr) : Dr := if (amt o x).1 = 0 then o else cmbM o (1, 1) e (fS o e x)
def pairM (x : Str) (u l : Dr) : Dr := cmbM u (fU u x) l (fD l x)
def upB (x : Str) (d : Dr) : Bool := decide (0 < (amt d x).1)
def dnB (x : Str) (d : Dr) : Bool := decide ((amt d x).1 < 0)
def zrB (x : Str) (d : Dr) : Bool := decide ((amt d x).1 = 0)
def pairsM (ds : List Dr) (x : Str) : List Dr := ds.filter (zrB x) ++ (ds.filter (upB x)).flatMap fun u => (ds.filter (dnB x)).map (pairM x u)
def isE (x : Str) (d : Dr) : Bool := d.1.2.1 == "=" && decide ((amt d x).1 ≠ 0)
def splE (x : Str) : List Dr → Option (List Dr × Dr × List Dr)
  | [] => none
  | d :: ds => if isE x d = true then some ([], d, ds) else (splE x ds).map fun t => (d :: t.1, t.2.1, t.2.2)
def elimM (ds : List Dr) (x : Str) : List Dr := match splE x ds with
  | some t => (t.1 ++ t.2.2).map (subM x t.2.1)
  | none => pairsM ds x
section
variable {rows : List Rw} (Z : Rz rows) {L : List Str} {c b δ : Nat} (B : Bnd L c b δ) {x : Str}
include Z B
end
end DL
set_option exponentiation.threshold 5000
namespace DL
open PySem PySem.Spec PyProof.Rows L2 RT
section
variable {rows : List Rw} (Z : Rz rows) {L : List Str} {c b δ : Nat} (B : Bnd L c b δ) {x : Str} (hx : x ∈ L)
include Z B
include hx
end
end DL
set_option exponentiation.threshold 5000
namespace DL
open PySem PySem.Spec PyProof.Rows L2 RT
section
variable {rows : List Rw} (Z : Rz rows) {L : List Str} {c b δ : Nat} (B : Bnd L c b δ) {x : Str} (hx : x ∈ L)
include Z B hx
end
end DL
set_option exponentiation.threshold 5000
namespace DL
open PySem PySem.Spec PyProof.Rows L2 RT
section
variable {rows : List Rw} (Z : Rz rows) {L : List Str} {c b δ : Nat} (B : Bnd L c b δ) {x : Str} (hx : x ∈ L)
include Z B hx
end
end DL
set_option exponentiation.threshold 5000
namespace DL
open PySem PySem.Spec PyProof.Rows L2 RT
theorem fac_lowq {r : Rw} (h : PosR r) (hb : Low r.2.2) : Low (factorM r) := by
  obtain ⟨q, qs, e⟩ := facQ_cons r
  by_cases h0 : q.1 = 0
  · obtain ⟨ps, sg, bd⟩ := r
    cases ps with
    | cons p ps =>
      simp only [facQ, List.map_cons, List.cons.injEq] at e
      exact absurd (by rw [e.1]; exact h0) (h.ps p List.mem_cons_self).2
    | nil =>
      simp only [facQ, List.cons.injEq] at e
      obtain ⟨rfl, rfl⟩ := e
      simp only [factorM, if_pos h0]
      exact ⟨by decide, by decide⟩
  · exact (fac_rv h e h0).choose_spec.2.2
theorem low11 : Low ((1, 1) : Qn) := ⟨by decide, by decide⟩
theorem mul_one_of {q f : Qn} (hq : Low q) (h0 : q.1 ≠ 0) (hf : Low f) (e : qmul q f = q) : f = (1, 1) := by
  have p := hq.pos
  have p2 := hf.pos
  have e2 := congrArg rv e
  rw [rv_mul (by omega) (by omega)] at e2
  have n : rv q ≠ 0 := fun z => h0 ((rv_nz p).mpr z)
  refine rv_ext hf low11 ?_
  rw [rv11]
  grind
theorem fac_one {r : Rw} (h : PosR r) (hl : LowR r) (e : normM r = r) : factorM r = (1, 1) := by
  have lf := fac_lowq h hl.bd
  obtain ⟨ps, sg, bd⟩ := r
  cases ps with
  | cons p ps =>
    have e1 : (normM (p :: ps, sg, bd)).1 = p :: ps := congrArg (·.1) e
    have e2 : (p.1, qmul p.2 (factorM (p :: ps, sg, bd))) = p := by
      have : (normM (p :: ps, sg, bd)).1 = (p.1, qmul p.2 (factorM (p :: ps, sg, bd))) :: ps.map fun q => (q.1, qmul q.2 (factorM (p :: ps, sg, bd))) := rfl
      rw [this] at e1
      exact (List.cons.inj e1).1
    exact mul_one_of (hl.ps p List.mem_cons_self).1 (hl.ps p List.mem_cons_self).2 lf (congrArg (·.2) e2)
  | nil =>
    by_cases h0 : bd.1 = 0
    · simp only [factorM, if_pos h0]
    · have e2 : qmul bd (factorM ([], sg, bd)) = bd := congrArg (·.2.2) e
      exact mul_one_of hl.bd h0 lf e2
section
variable {rows : List Rw} (Z : Rz rows) {L : List Str} {c b δ : Nat} (B : Bnd L c b δ) {x : Str} (hx : x ∈ L)
include Z B
include hx
end
end DL
set_option exponentiation.threshold 5000
namespace DL
open PySem PySem.Spec PyProof.Rows L2 RT
section
variable {rows : List Rw} (Z : Rz rows) {L : List Str} {c b δ : Nat} (B : Bnd L c b δ) {x : Str} (hx : x ∈ L)
include Z B hx
end
end DL
set_option exponentiation.threshold 5000
namespace DL
open PySem PySem.Spec PyProof.Rows L2 RT
section
variable {rows : List Rw} (Z : Rz rows) {L : List Str} {c b δ : Nat} (B : Bnd L c b δ) {x : Str} (hx : x ∈ L)
include Z B hx
end
end DL
set_option exponentiation.threshold 5000
namespace DL
open PySem PySem.Spec PyProof.Rows L2 RT
section
variable {r r' : Rw} (h : ∀ p ∈ r.1, PySem.PyData.strOk p.1 = true) (h' : ∀ p ∈ r'.1, PySem.PyData.strOk p.1 = true) (s : PySem.PyData.strOk r.2.1 = true) (s' : PySem.PyData.strOk r'.2.1 = true)
include h h'
include s s'
end
def trivB (d : Dr) : Bool := d.1.1.isEmpty && holdsR d.1.2.1 0 (rv d.1.2.2)
def lessB (p q : Qn) : Bool := decide (p.1 * q.2 < q.1 * p.2)
def killB (j : Nat) (o : Dr) (k : Nat) (d : Dr) : Bool :=
  (decide (d.1.2.1 = "=") && decide (o.1 = d.1) && decide (j < k)) ||
  (!decide (d.1.2.1 = "=") && !decide (o.1.2.1 = "=") && decide (o.1.1 = d.1.1) && !decide (j = k) &&
    (lessB o.1.2.2 d.1.2.2 || (decide (o.1.2.2 = d.1.2.2) && decide (o.1.2.1 = "<") && decide (d.1.2.1 = "<=")) || (decide (o.1.2.2 = d.1.2.2) && decide (o.1.2.1 = d.1.2.1) && decide (j < k))))
def goodB (ds : List Dr) (k : Nat) (d : Dr) : Bool := !trivB d && !(ds.zipIdx.any fun p => killB p.2 p.1 k d)
def cleanM (ds : List Dr) : List Dr := (ds.zipIdx.filter fun p => goodB ds p.2 p.1).map (·.1)
structure Cl (d : Dr) : Prop where
  nm : ∀ p ∈ d.1.1, PySem.PyData.strOk p.1 = true
  sg : Sgn d.1.2.1
  bd : Sz 2000 d.1.2.2
  low : Low d.1.2.2
end DL
set_option exponentiation.threshold 5000
namespace DL
open PySem PySem.Spec PyProof.Rows L2 RT
end DL
namespace DL
open PySem PySem.Spec PyProof.Rows L2 RT
def kP (ps : List Pt) : NestedKey := .tup (ps.map fun p => .tup [.text p.1, .tup [.num p.2.1, .num p.2.2]])
def kE (d : Dr) : NestedKey := if d.1.2.1 = "=" then .tup [kP d.1.1, .tup [.num d.1.2.2.1, .num d.1.2.2.2]] else .tup [kP d.1.1, .none]
theorem kP_inj : ∀ {ps qs : List Pt}, kP ps = kP qs → ps = qs := by
  intro ps qs h
  unfold kP at h
  have h2 := NestedKey.tup.inj h
  clear h
  induction ps generalizing qs with
  | nil => cases qs with
    | nil => rfl
    | cons q qs => cases h2
  | cons p ps ih => cases qs with
    | nil => cases h2
    | cons q qs =>
      simp only [List.map_cons, List.cons.injEq, NestedKey.tup.injEq, NestedKey.text.injEq, NestedKey.num.injEq, and_true] at h2
      obtain ⟨⟨a, b, c⟩, e⟩ := h2
      rw [ih e]
      congr 1
      exact Prod.ext a (Prod.ext b c)
theorem kE_eq {d o : Dr} (h : kE d = kE o) : d.1.1 = o.1.1 ∧ (d.1.2.1 = "=" ↔ o.1.2.1 = "=") ∧ (d.1.2.1 = "=" → d.1.2.2 = o.1.2.2) := by
  unfold kE at h
  by_cases h1 : d.1.2.1 = "="
  · by_cases h2 : o.1.2.1 = "="
    · rw [if_pos h1, if_pos h2] at h
      simp only [NestedKey.tup.injEq, List.cons.injEq, NestedKey.num.injEq, and_true] at h
      exact ⟨kP_inj h.1, ⟨fun _ => h2, fun _ => h1⟩, fun _ => Prod.ext h.2.1 h.2.2⟩
    · rw [if_pos h1, if_neg h2] at h
      simp only [NestedKey.tup.injEq, List.cons.injEq, reduceCtorEq, and_true, false_and, and_false] at h
  · by_cases h2 : o.1.2.1 = "="
    · rw [if_neg h1, if_pos h2] at h
      simp only [NestedKey.tup.injEq, List.cons.injEq, reduceCtorEq, and_true, false_and, and_false] at h
    · rw [if_neg h1, if_neg h2] at h
      simp only [NestedKey.tup.injEq, List.cons.injEq, and_true] at h
      exact ⟨kP_inj h, ⟨fun z => absurd z h1, fun z => absurd z h2⟩, fun z => absurd z h1⟩
def strB (d e : Dr) : Bool := lessB d.1.2.2 e.1.2.2 || (decide (d.1.2.2 = e.1.2.2) && decide (d.1.2.1 = "<") && decide (e.1.2.1 = "<="))
def rk (d : Dr) : Nat := if d.1.2.1 = "<" then 0 else 1
def Bts (v : Nat) (d : Dr) (i : Nat) (o : Dr) : Prop := rv d.1.2.2 < rv o.1.2.2 ∨ (rv d.1.2.2 = rv o.1.2.2 ∧ (rk d < rk o ∨ (rk d = rk o ∧ v < i)))
theorem Bts.trans {a b c : Nat} {x y z : Dr} (h : Bts a x b y) (k : Bts b y c z) : Bts a x c z := by
  unfold Bts at *
  rcases h with h | ⟨h1, h2⟩
  · rcases k with k | ⟨k1, k2⟩
    · exact .inl (by grind)
    · exact .inl (by grind)
  · rcases k with k | ⟨k1, k2⟩
    · exact .inl (by grind)
    · exact .inr ⟨by grind, by omega⟩
theorem lessB_rv {p q : Qn} (hp : 0 < p.2) (hq : 0 < q.2) : lessB p q = true ↔ rv p < rv q := by
  unfold lessB
  rw [rv_lt hp hq]
  simp
section
variable {d e : Dr} (Cd : Cl d) (Ce : Cl e) (hk : kE d = kE e)
include Cd Ce hk
theorem str_iff : strB d e = true ↔ (rv d.1.2.2 < rv e.1.2.2 ∨ (rv d.1.2.2 = rv e.1.2.2 ∧ rk d < rk e)) := by
  obtain ⟨k1, k2, k3⟩ := kE_eq hk
  have l := lessB_rv Cd.bd.pos Ce.bd.pos
  unfold strB rk
  rw [Bool.or_eq_true, l, Bool.and_eq_true, Bool.and_eq_true, decide_eq_true_eq, decide_eq_true_eq, decide_eq_true_eq]
  constructor
  · rintro (h | ⟨⟨h1, h2⟩, h3⟩)
    · exact .inl h
    · refine .inr ⟨by rw [h1], ?_⟩
      rw [if_pos h2, if_neg (by rw [h3]; decide)]
      decide
  · rintro (h | ⟨h1, h2⟩)
    · exact .inl h
    · refine .inr ⟨⟨rv_ext Cd.low Ce.low h1, ?_⟩, ?_⟩
      · by_cases z : d.1.2.1 = "<"
        · exact z
        · rw [if_neg z] at h2
          split at h2 <;> omega
      · by_cases z : d.1.2.1 = "<"
        · rw [if_pos z] at h2
          by_cases z2 : e.1.2.1 = "<"
          · rw [if_pos z2] at h2; omega
          · rcases Ce.sg with s | s | s
            · exact s
            · exact absurd s z2
            · have := k2.mpr s
              rw [z] at this
              exact absurd this (by decide)
        · rw [if_neg z] at h2
          split at h2 <;> omega
end
end DL
namespace DL
open PySem PySem.Spec PyProof.Rows L2 RT
def stepN (ds : List Dr) (pl : List (NestedKey × Int)) (place : Nat) (d : Dr) : List (NestedKey × Int) :=
  if trivB d = true then pl else match valN pl (kE d) with
    | none => putN pl (kE d) place
    | some v => match ds[v.toNat]? with
      | some e => if strB d e = true then putN pl (kE d) place else pl
      | none => pl
theorem valN_some {pl : List (NestedKey × Int)} {k : NestedKey} {v : Int} (h : valN pl k = some v) : (k, v) ∈ pl := by
  unfold valN at h
  cases e : pl.find? fun p => decide (p.1 = k) with
  | none => rw [e] at h; cases h
  | some p =>
    rw [e] at h
    have a := List.mem_of_find?_eq_some e
    have b : p.1 = k := by simpa using List.find?_some e
    have c : p.2 = v := Option.some.inj h
    rw [← b, ← c]
    exact a
theorem valN_none {pl : List (NestedKey × Int)} {k : NestedKey} (h : valN pl k = none) : k ∉ pl.map (·.1) := valN_mem (by rw [h]; rfl)
theorem valN_of {pl : List (NestedKey × Int)} (hn : (pl.map (·.1)).Nodup) {k : NestedKey} {v : Int} (h : (k, v) ∈ pl) : valN pl k = some v := by
  cases e : valN pl k with
  | none => exact absurd (List.mem_map.mpr ⟨_, h, rfl⟩) (valN_none e)
  | some w =>
    have m := valN_some e
    have : w = v := by
      clear e
      induction pl with
      | nil => cases h
      | cons p pl ih =>
        rw [List.map_cons, List.nodup_cons] at hn
        rcases List.mem_cons.mp h with h1 | h1
        · rcases List.mem_cons.mp m with m1 | m1
          · rw [← h1] at m1; exact (Prod.mk.inj m1).2
          · exact absurd (List.mem_map.mpr ⟨_, m1, by rw [← h1]⟩) hn.1
        · rcases List.mem_cons.mp m with m1 | m1
          · exact absurd (List.mem_map.mpr ⟨_, h1, by rw [← m1]⟩) hn.1
          · exact ih hn.2 h1 m1
    rw [this]
theorem putN_keys (pl : List (NestedKey × Int)) (k : NestedKey) (n : Int) : (putN pl k n).map (·.1) = if k ∈ pl.map (·.1) then pl.map (·.1) else pl.map (·.1) ++ [k] := by
  unfold putN
  by_cases h : (valN pl k).isSome = true
  · obtain ⟨v, e⟩ := Option.isSome_iff_exists.mp h
    rw [if_pos h, if_pos (List.mem_map.mpr ⟨_, valN_some e, rfl⟩), List.map_map]
    apply List.map_congr_left
    intro p _
    simp only [Function.comp_apply]
    split <;> rfl
  · have e : valN pl k = none := by simpa using h
    rw [if_neg h, if_neg (valN_none e)]
    simp
theorem putN_mem {pl : List (NestedKey × Int)} {k : NestedKey} {n : Int} {e : NestedKey × Int} (h : e ∈ putN pl k n) : e = (k, n) ∨ (e ∈ pl ∧ e.1 ≠ k) := by
  unfold putN at h
  by_cases c : (valN pl k).isSome = true
  · rw [if_pos c] at h
    obtain ⟨q, hq, rfl⟩ := List.mem_map.mp h
    by_cases z : q.1 = k
    · left; rw [if_pos z, z]
    · right; rw [if_neg z]; exact ⟨hq, z⟩
  · have e2 : valN pl k = none := by simpa using c
    rw [if_neg c] at h
    rcases List.mem_append.mp h with h | h
    · exact .inr ⟨h, fun z => valN_none e2 (by rw [← z]; exact List.mem_map.mpr ⟨e, h, rfl⟩)⟩
    · left; simpa using h
structure PIv (ds : List Dr) (m : Nat) (pl : List (NestedKey × Int)) : Prop where
  nd : (pl.map (·.1)).Nodup
  val : ∀ e ∈ pl, ∃ v : Nat, e.2 = (v : Int) ∧ v < m ∧ ∃ d, ds[v]? = some d ∧ kE d = e.1 ∧ trivB d = false ∧ ∀ i, i < m → ∀ o, ds[i]? = some o → trivB o = false → kE o = e.1 → i = v ∨ Bts v d i o
  all : ∀ i, i < m → ∀ o, ds[i]? = some o → trivB o = false → ∃ e ∈ pl, e.1 = kE o
theorem PIv.triv {ds : List Dr} {m : Nat} {pl : List (NestedKey × Int)} (P : PIv ds m pl) {d : Dr} (hd : ds[m]? = some d) (ht : trivB d = true) : PIv ds (m + 1) pl := by
  refine ⟨P.nd, fun e he => ?_, fun i hi o ho to => ?_⟩
  · obtain ⟨v, a, b, d', c1, c2, c3, c4⟩ := P.val e he
    refine ⟨v, a, by omega, d', c1, c2, c3, fun i hi o ho to ko => ?_⟩
    by_cases z : i = m
    · subst z
      rw [hd] at ho
      cases ho
      rw [ht] at to
      cases to
    · exact c4 i (by omega) o ho to ko
  · by_cases z : i = m
    · subst z
      rw [hd] at ho
      cases ho
      rw [ht] at to
      cases to
    · exact P.all i (by omega) o ho to
section
variable {ds : List Dr} (hC : ∀ d ∈ ds, Cl d)
include hC
theorem PIv.step {m : Nat} {pl : List (NestedKey × Int)} (P : PIv ds m pl) {d : Dr} (hd : ds[m]? = some d) : PIv ds (m + 1) (stepN ds pl m d) := by
  have Cd := hC d (List.mem_of_getElem? hd)
  unfold stepN
  by_cases ht : trivB d = true
  · rw [if_pos ht]; exact P.triv hd ht
  · rw [if_neg ht]
    have tf : trivB d = false := by simpa using ht
    -- putting the new one, where it beats all of its key
    have put : (∀ i, i < m → ∀ o, ds[i]? = some o → trivB o = false → kE o = kE d → Bts m d i o) → PIv ds (m + 1) (putN pl (kE d) m) := by
      intro hb
      refine ⟨?_, fun e he => ?_, fun i hi o ho to => ?_⟩
      · rw [putN_keys]
        split
        · exact P.nd
        · rename_i hn
          rw [List.nodup_append]
          refine ⟨P.nd, by simp, fun a ha b hb' e => ?_⟩
          simp at hb'
          exact hn (by rw [← hb', ← e]; exact ha)
      · rcases putN_mem he with rfl | ⟨he, hne⟩
        · refine ⟨m, rfl, by omega, d, hd, rfl, tf, fun i hi o ho to ko => ?_⟩
          by_cases z : i = m
          · exact .inl z
          · exact .inr (hb i (by omega) o ho to ko)
        · obtain ⟨v, a, b, d', c1, c2, c3, c4⟩ := P.val e he
          refine ⟨v, a, by omega, d', c1, c2, c3, fun i hi o ho to ko => ?_⟩
          by_cases z : i = m
          · subst z
            rw [hd] at ho
            cases ho
            exact absurd ko.symm hne
          · exact c4 i (by omega) o ho to ko
      · have keys := putN_keys pl (kE d) (m : Int)
        have inK : kE o ∈ (putN pl (kE d) (m : Int)).map (·.1) := by
          rw [keys]
          by_cases z : i = m
          · subst z
            rw [hd] at ho
            cases ho
            split
            · rename_i h; exact h
            · simp
          · obtain ⟨e, he, ek⟩ := P.all i (by omega) o ho to
            have : kE o ∈ pl.map (·.1) := List.mem_map.mpr ⟨e, he, ek⟩
            split
            · exact this
            · exact List.mem_append_left _ this
        obtain ⟨e, he, ek⟩ := List.mem_map.mp inK
        exact ⟨e, he, ek⟩
    cases hv : valN pl (kE d) with
    | none =>
      refine put fun i hi o ho to ko => ?_
      obtain ⟨e, he, ek⟩ := P.all i hi o ho to
      exact absurd (by rw [← ko, ← ek]; exact List.mem_map.mpr ⟨e, he, rfl⟩) (valN_none hv)
    | some w =>
      obtain ⟨v, a, b, d', c1, c2, c3, c4⟩ := P.val _ (valN_some hv)
      simp only at a c2 c4
      subst a
      have Cd' := hC d' (List.mem_of_getElem? c1)
      simp only [Int.toNat_natCast, c1]
      have si := str_iff Cd Cd' c2.symm
      by_cases hs : strB d d' = true
      · rw [if_pos hs]
        have bs : Bts m d v d' := by
          rcases si.mp hs with h | ⟨h1, h2⟩
          · exact .inl h
          · exact .inr ⟨h1, .inl h2⟩
        refine put fun i hi o ho to ko => ?_
        rcases c4 i hi o ho to ko with rfl | h
        · rw [c1] at ho; cases ho; exact bs
        · exact bs.trans h
      · rw [if_neg hs]
        have bs : Bts v d' m d := by
          have n1 : ¬ (rv d.1.2.2 < rv d'.1.2.2 ∨ (rv d.1.2.2 = rv d'.1.2.2 ∧ rk d < rk d')) := fun z => hs (si.mpr z)
          unfold Bts
          by_cases h1 : rv d'.1.2.2 < rv d.1.2.2
          · exact .inl h1
          · have h2 : rv d'.1.2.2 = rv d.1.2.2 := by
              have : ¬ rv d.1.2.2 < rv d'.1.2.2 := fun z => n1 (.inl z)
              grind
            have h3 : ¬ rk d < rk d' := fun z => n1 (.inr ⟨h2.symm, z⟩)
            refine .inr ⟨h2, ?_⟩
            omega
        refine ⟨P.nd, fun e he => ?_, fun i hi o ho to => ?_⟩
        · obtain ⟨v2, a2, b2, d2, f1, f2, f3, f4⟩ := P.val e he
          refine ⟨v2, a2, by omega, d2, f1, f2, f3, fun i hi o ho to ko => ?_⟩
          by_cases z : i = m
          · subst z
            rw [hd] at ho
            cases ho
            have ek : valN pl (kE d) = some e.2 := valN_of P.nd (by rw [ko]; exact he)
            rw [hv] at ek
            have e3 : v = v2 := by have := Option.some.inj ek; omega
            subst e3
            rw [c1] at f1
            cases f1
            exact .inr bs
          · exact f4 i (by omega) o ho to ko
        · by_cases z : i = m
          · subst z
            rw [hd] at ho
            cases ho
            exact ⟨_, valN_some hv, rfl⟩
          · exact P.all i (by omega) o ho to
end
end DL
namespace DL
open PySem PySem.Spec PyProof.Rows L2 RT
end DL
namespace DL
open PySem PySem.Spec PyProof.Rows L2 RT
end DL
set_option exponentiation.threshold 5000
namespace DL
open PySem PySem.Spec PyProof.Rows L2 RT
section
variable {rows : List Rw} (hs : ∀ r ∈ rows, PySem.PyData.strOk r.2.1 = true)
include hs
end
theorem prim_one1 {f x : Rat} (P : Prim f [x]) : f * x = 1 ∨ f * x = -1 := by
  obtain ⟨ns, en, gn⟩ := P.who
  cases ns with
  | nil => simp at en
  | cons n ns =>
    simp only [List.map_cons, List.map_nil, List.cons.injEq] at en
    have nn : ns = [] := by
      have := en.2
      cases ns with
      | nil => rfl
      | cons a b => simp at this
    rw [nn] at gn
    have : n.natAbs = 1 := by simpa [gcdL] using gn
    rw [en.1]
    have : n = 1 ∨ n = -1 := by omega
    rcases this with rfl | rfl
    · left; push_cast; rfl
    · right; push_cast; rfl
theorem bd_none {r : Rw} (h : PosR r) (hl : LowR r) (e : normM r = r) (hn : r.1 = []) : r.2.2 = (0, 1) ∨ r.2.2 = (1, 1) ∨ (r.2.2 = (-1, 1) ∧ r.2.1 ≠ "=") := by
  have f1 := fac_one h hl e
  obtain ⟨ps, sg, bd⟩ := r
  simp only at hn
  subst hn
  have lb : Low bd := hl.bd
  by_cases h0 : bd.1 = 0
  · exact .inl (low0 lb h0)
  · obtain ⟨f, P, Ef, Lf⟩ := fac_rv h (q := bd) (qs := []) rfl h0
    rw [f1, rv11] at Ef
    have o := prim_one1 P
    have fp := P.pos
    have neg := rv_neg lb.pos
    have lm1 : Low ((-1, 1) : Qn) := ⟨by decide, by decide⟩
    by_cases c : (sg == "=" && decide (bd.1 < 0)) = true
    · rw [if_pos c] at Ef
      grind
    · rw [if_neg c] at Ef
      subst Ef
      rcases o with o | o
      · right; left
        exact rv_ext lb low11 (by rw [rv11]; grind)
      · right; right
        have v : rv bd = -1 := by grind
        refine ⟨rv_ext lb lm1 (by rw [rvm1, v]), fun z => c ?_⟩
        have : bd.1 < 0 := neg.mpr (by rw [v]; decide)
        have z2 : sg = "=" := z
        simp [z2, this]
theorem com_fd : ∀ (ps : List Pt), (∀ p ∈ ps, Sz 6 p.2) → ∃ K : Int, 0 < K ∧ K.natAbs ≤ 2 ^ (6 * ps.length) ∧ ∀ p ∈ ps, Fd K (2 ^ (6 * ps.length)) (rv p.2)
  | [], _ => ⟨1, by decide, by decide, fun p h => by cases h⟩
  | p :: ps, h => by
    obtain ⟨K, a, b, c⟩ := com_fd ps fun q hq => h q (List.mem_cons_of_mem _ hq)
    have hp := h p List.mem_cons_self
    have p0 := hp.pos
    have b1 : p.2.1.natAbs ≤ 2 ^ 6 := Nat.le_of_lt hp.b1
    have b2 : p.2.2.natAbs ≤ 2 ^ 6 := Nat.le_of_lt hp.b2
    have e : 6 * (p :: ps).length = 6 * ps.length + 6 := by rw [List.length_cons]; omega
    rw [e]
    refine ⟨K * p.2.2, Int.mul_pos a p0, nmul b b2, fun q hq => ?_⟩
    rcases List.mem_cons.mp hq with rfl | hq
    · have t := ((Fd.of q.2).mono b1).up (show q.2.2 ≠ 0 by omega) (show K ≠ 0 by omega)
      rw [Int.mul_comm] at t
      refine t.mono ?_
      rw [← pwm, Nat.mul_comm]
      exact Nat.mul_le_mul_right _ b
    · have t := (c q hq).up (show K ≠ 0 by omega) (show p.2.2 ≠ 0 by omega)
      refine t.mono ?_
      rw [← pwm]
      exact Nat.mul_le_mul_left _ b2
theorem good_base {r : Rw} (h : Good r) : (∀ p ∈ r.1, p.2.2 = 1 ∧ p.2.1.natAbs ≤ 2 ^ 20) ∧ (r.2.2.1.natAbs ≤ 2 ^ 26 ∧ r.2.2.2.natAbs ≤ 2 ^ 26) ∧ (∀ p ∈ r.1, Nam p.1) ∧ Can leS r.1 ∧ normM r = r := by
  have G := h.good
  obtain ⟨ps, sg, b, rfl, hs, hp, hl, hb⟩ := h
  have pos : ∀ p ∈ ps, 0 < p.2.2 := fun p hp' => (hp p hp').1.pos
  have cP : Can leS (partsM ps) := gparts_can srtS pos
  have pr : PosR (partsM ps, sg, b) := ⟨fun p h => ⟨(cP.low p h).1.pos, (cP.low p h).2⟩, hb.pos⟩
  obtain ⟨s0, s2⟩ := fac_low pr
  have cR : Can leS (rowM ps sg b).1 := can_scale s2 s0 cP
  have nn : normM (rowM ps sg b) = rowM ps sg b := norm_norm pr
  have nam : ∀ p ∈ (rowM ps sg b).1, Nam p.1 := fun p hp' => by
    have : p ∈ (partsM ps).map fun p => (p.1, qmul p.2 (factorM (partsM ps, sg, b))) := hp'
    obtain ⟨q, hq, rfl⟩ := List.mem_map.mp this
    exact partsM_names (P := Nam) (fun z hz => (hp z hz).2) q hq
  by_cases hne : partsM ps = []
  · have e1 : (rowM ps sg b).1 = [] := by show (partsM ps).map _ = []; rw [hne]; rfl
    refine ⟨fun p hp => (by rw [e1] at hp; cases hp), ?_, nam, cR, nn⟩
    rcases bd_none G.pos G.low nn e1 with z | z | ⟨z, _⟩ <;> rw [z] <;> decide
  · obtain ⟨K, k1, k2, k3⟩ := com_fd ps fun p hp' => (hp p hp').1
    have l18 : 6 * ps.length ≤ 18 := by omega
    have hB : ∀ p ∈ (partsM ps, sg, b).1, Fd K (2 ^ 20) (rv p.2) := fun p hp' => by
      have v := vs_mem cP.nd hp'
      have v2 : vs p.1 (partsM ps) = vs p.1 ps := gparts_vs srtS pos p.1
      rw [← v, v2]
      refine (vs_fd p.1 k3).mono ?_
      calc 2 ^ (6 * ps.length) * ps.length ≤ 2 ^ 18 * 4 := Nat.mul_le_mul (pwl l18) (by omega)
        _ = 2 ^ 20 := by decide
    obtain ⟨S, q1, q2, q3, q4⟩ := fac_parts pr (fun p hp' => (cP.low p hp').1) hne k1 hB
    have K0 := rc (show K ≠ 0 by omega)
    have S0 := rc (show S ≠ 0 by omega)
    refine ⟨fun p hp' => ?_, ?_, nam, cR, nn⟩
    · have hp2 : p ∈ (partsM ps).map fun p => (p.1, qmul p.2 (factorM (partsM ps, sg, b))) := hp'
      obtain ⟨q, hq, rfl⟩ := List.mem_map.mp hp2
      have lq : Low (qmul q.2 (factorM (partsM ps, sg, b))) := (cR.low _ hp').1
      have p0 := (cP.low q hq).1.pos
      obtain ⟨m, em⟩ := q4 q hq
      have er : rv (qmul q.2 (factorM (partsM ps, sg, b))) = rv q.2 * rv (factorM (partsM ps, sg, b)) := rv_mul (by omega) (by omega)
      have t1 : Fd 1 m.natAbs (rv (qmul q.2 (factorM (partsM ps, sg, b)))) := ⟨m, Nat.le_refl _, by rw [er, em]; push_cast; grind⟩
      have t2 : Fd S (2 ^ 20) (rv (qmul q.2 (factorM (partsM ps, sg, b)))) := by
        obtain ⟨n, hn, en⟩ := hB q hq
        rw [er, en]
        rcases q3 with q3 | q3
        · exact ⟨n, hn, by rw [q3]; grind⟩
        · exact ⟨-n, by omega, by rw [q3]; push_cast; grind⟩
      obtain ⟨u1, u2⟩ := lq.fd (by decide) t1
      obtain ⟨u3, u4⟩ := lq.fd q1 t2
      have l0 := lq.pos
      refine ⟨?_, u3⟩
      have : (1 : Int).natAbs = 1 := rfl
      show (qmul q.2 (factorM (partsM ps, sg, b))).2 = 1
      omega
    · have lb : Low (qmul b (factorM (partsM ps, sg, b))) := G.low.bd
      have b0 := hb.pos
      have er : rv (qmul b (factorM (partsM ps, sg, b))) = rv b * rv (factorM (partsM ps, sg, b)) := rv_mul (by omega) (by omega)
      have sF : Fd S (2 ^ 18) (rv (factorM (partsM ps, sg, b))) := by
        have k4 : K.natAbs ≤ 2 ^ 18 := Nat.le_trans k2 (pwl l18)
        rcases q3 with q3 | q3
        · exact ⟨K, k4, q3⟩
        · rw [q3]; exact Fd.neg ⟨K, k4, rfl⟩
      have t := Fd.mul (show b.2 ≠ 0 by omega) (show S ≠ 0 by omega) ((Fd.of b).mono (Nat.le_of_lt hb.b1)) sF
      rw [← er] at t
      obtain ⟨u1, u2⟩ := lb.fd (Int.mul_pos b0 q1) t
      have b2 : b.2.natAbs ≤ 2 ^ 6 := Nat.le_of_lt hb.b2
      exact ⟨Nat.le_trans u1 (by decide), Nat.le_trans u2 (Nat.le_trans (nmul b2 q2) (by decide))⟩
end DL
set_option exponentiation.threshold 5000
namespace DL
open PySem PySem.Spec PyProof.Rows L2 RT
abbrev L3 : List Str := ["x", "b1", "total"]
theorem nam_L3 {x : Str} (h : Nam x) : x ∈ L3 := by
  rcases h with rfl | rfl | rfl <;> simp
section
variable {rows : List Rw} (Z : Rz rows) {L : List Str} {c b δ : Nat} (B : Bnd L c b δ) {x : Str} (hx : x ∈ L)
include Z B hx
end
end DL
set_option exponentiation.threshold 5000
namespace DL
open PySem PySem.Spec PyProof.Rows L2 RT
end DL
namespace DL
open PySem PySem.Spec PyProof.Rows L2 RT
noncomputable def PG.L__lists_1 : Rho → Out := (appendS 2 (callF PG.m_cleaned (consA (callF PG.m_eliminated (consA (ixO 2 (unF dNeg (cF (.int 1)))) (consA (varF 3) nilA))) nilA)))
noncomputable def PG.S__lists : Rho → Out := (seqS (ownS (consA (callF PG.m_cleaned (consA (callF PG.m_derived (consA (varF 0) nilA)) nilA)) nilA) 2) (seqS (forS (itemsQ (varF 1)) (nameT 3) PG.L__lists_1) (retS (varF 2))))
end DL
set_option exponentiation.threshold 5000
namespace DL
open PySem PySem.Spec PyProof.Rows L2 RT
structure Step1 (rows : List Rw) (x : Str) (ds ds' : List Dr) : Prop where
  pe : ∃ m : List Dr, PG.m_eliminated [.list (ds.map drD), .str x] = .ok (.list (m.map drD)) ∧ PG.m_cleaned [.list (m.map drD)] = .ok (.list (ds'.map drD)) ∧
    LH.m_without [.list (rows.map rD), .list (ds.map drD), .str x] = .ok (.list (m.map drD)) ∧ LH.m_clean [.list (m.map drD)] = .ok (.list (ds'.map drD))
inductive Steps (rows : List Rw) : List Str → List Dr → List Dr → Prop
  | nil {ds : List Dr} : Steps rows [] ds ds
  | cons {x : Str} {xs : List Str} {ds d1 d2 : List Dr} : Step1 rows x ds d1 → Steps rows xs d1 d2 → Steps rows (x :: xs) ds d2
end DL
namespace DL
open PySem PySem.Spec PyProof.Rows L2 RT
section
variable {X : L2.Cx} {B : Bx} {W : WX} {pos : Pos} {e tg : Expr} {F : Rho → Res PyData}
end
end DL
namespace DL
open PySem PySem.Spec PyProof.Rows L2 RT
section
open PySem.W PySem.Calls
variable {prog : Program} {w : World} {A : Around} {E : Value → Shared → Prop} {s : Shared}
end
section
open PySem.W PySem.Calls
variable {X : L2.Cx} {pins : List (Addr × Obj)} {σ : L2.St} {H : Hp} {s : Shared}
end
end DL
namespace DL
open PySem PySem.Spec PyProof.Rows L2 RT
section
open PySem.W
variable {X : L2.Cx}
end
end DL
namespace DL
open PySem PySem.Spec PyProof.Rows L2 RT
end DL
namespace DL
open PySem PySem.Spec PyProof.Rows L2 RT
section
variable {rows : List Rw} {d1 d2 : Dr} {f1 f2 : Qn} (R : RwP rows) (h1 : Dv rows d1) (h2 : Dv rows d2) (m1 : May f1 d1) (m2 : May f2 d2)
include R h1 h2 m1 m2
end
end DL
namespace DL
open PySem PySem.Spec PyProof.Rows L2 RT
def f0 (f : Str → Rat) (x : Str) : Str → Rat := fun y => if y = x then 0 else f y
section
variable {rows : List Rw} (Z : Rz rows) {L : List Str} {c b δ : Nat} (B : Bnd L c b δ) {x : Str}
include Z B
theorem Ctx.sgn {d : Dr} (C : Ctx rows L c b δ d) : Sgn d.1.2.1 := by rw [C.dv.sgn]; exact sgnOf_sgn _
end
end DL
namespace DL
open PySem PySem.Spec PyProof.Rows L2 RT
def Lw (x : Str) (d : Dr) : Prop := (amt d x).1 < 0 ∨ ((amt d x).1 ≠ 0 ∧ d.1.2.1 = "=")
def Up (x : Str) (d : Dr) : Prop := 0 < (amt d x).1 ∨ ((amt d x).1 ≠ 0 ∧ d.1.2.1 = "=")
section
variable {rows : List Rw} (Z : Rz rows) {L : List Str} {c b δ : Nat} (B : Bnd L c b δ) {x : Str}
include Z B
end
end DL
namespace DL
open PySem PySem.Spec PyProof.Rows L2 RT
section
variable {rows : List Rw} (Z : Rz rows) {L : List Str} {c b δ : Nat} (B : Bnd L c b δ) {x : Str}
include Z B
end
end DL
namespace DL
open PySem PySem.Spec PyProof.Rows L2 RT
noncomputable def PG.S__is_above : Rho → Out := (seqS (ifS (testF (binF dIsN2 (varF 1) (cF (.none)))) (retS (cF (.bool true))) nxS) (seqS (asgS (callF PG.m_compare (consA (varF 0) (consA (varF 1) nilA))) (nameT 3)) (retS (orV (binF dGt (varF 3) (cF (.int 0))) (andV (binF dEq (varF 3) (cF (.int 0))) (varF 2))))))
noncomputable def PG.B__is_above (a0 a1 a2 : PyData) : FR := outFR (PG.S__is_above [.d a0, .d a1, .d a2, .un])
noncomputable def PG.S__is_below : Rho → Out := (seqS (ifS (testF (binF dIsN2 (varF 1) (cF (.none)))) (retS (cF (.bool true))) nxS) (seqS (asgS (callF PG.m_compare (consA (varF 0) (consA (varF 1) nilA))) (nameT 3)) (retS (orV (binF dLt (varF 3) (cF (.int 0))) (andV (binF dEq (varF 3) (cF (.int 0))) (varF 2))))))
noncomputable def PG.B__is_below (a0 a1 a2 : PyData) : FR := outFR (PG.S__is_below [.d a0, .d a1, .d a2, .un])
noncomputable def PG.m__is_below : Fn := fn3 PG.B__is_below
noncomputable def PG.S__least_integer : Rho → Out := (seqS (asgS (varF 0) (tupT 2 (consTs (nameT 2) (consTs (nameT 3) nilTs)))) (seqS (ifS (andT (testF (binF dEq (varF 3) (cF (.int 1)))) (truF (varF 1))) (retS (varF 2)) nxS) (retS (binF dAdd (binF dDiv (varF 2) (varF 3)) (cF (.int 1))))))
noncomputable def PG.B__least_integer (a0 a1 : PyData) : FR := outFR (PG.S__least_integer [.d a0, .d a1, .un, .un])
noncomputable def PG.m__least_integer : Fn := fn2 PG.B__least_integer
noncomputable def PG.L__put_together_1 : Rho → Out := (parS (consA (binF dAdd (binF dMul (varF 4) (varF 2)) (varF 3)) (consA (varF 2) nilA)) 2 3)
noncomputable def PG.S__put_together : Rho → Out := (seqS (parS (consA (varF 1) (consA (cF (.int 1)) nilA)) 2 3) (seqS (forS (revF (varF 0)) (nameT 4) PG.L__put_together_1) (retS (tupF (consA (varF 2) (consA (varF 3) nilA))))))
noncomputable def PG.B__put_together (a0 a1 : PyData) : FR := outFR (PG.S__put_together [.d a0, .d a1, .un, .un, .un])
noncomputable def PG.m__put_together : Fn := fn2 PG.B__put_together
noncomputable def PG.S__rest : Rho → Out := (seqS (asgS (varF 0) (tupT 2 (consTs (nameT 2) (consTs (nameT 3) nilTs)))) (seqS (ifS (testF (binF dEq (varF 2) (binF dMul (varF 1) (varF 3)))) (retS (cF (.none))) nxS) (retS (tupF (consA (varF 3) (consA (binF dSub (varF 2) (binF dMul (varF 1) (varF 3))) nilA))))))
noncomputable def PG.B__rest (a0 a1 : PyData) : FR := outFR (PG.S__rest [.d a0, .d a1, .un, .un])
noncomputable def PG.m__rest : Fn := fn2 PG.B__rest
noncomputable def PG.L__simplest_above_zero_1 : Rho → Out := (seqS (asgS (callF PG.m__least_integer (consA (varF 0) (consA (varF 1) nilA))) (nameT 5)) (seqS (ifS (truF (callF PG.m__is_below (consA (tupF (consA (varF 5) (consA (cF (.int 1)) nilA))) (consA (varF 2) (consA (varF 3) nilA))))) (retS (callF PG.m__put_together (consA (varF 4) (consA (varF 5) nilA)))) nxS) (seqS (asgS (binF dSub (varF 5) (cF (.int 1))) (nameT 6)) (seqS (appendS 4 (varF 6)) (asgS (tupF (consA (callF PG.m__rest (consA (varF 2) (consA (varF 6) nilA))) (consA (varF 3) (consA (callF PG.m__rest (consA (varF 0) (consA (varF 6) nilA))) (consA (varF 1) nilA))))) (tupT 4 (consTs (nameT 0) (consTs (nameT 1) (consTs (nameT 2) (consTs (nameT 3) nilTs))))))))))
noncomputable def PG.S__simplest_above_zero : Rho → Out := (seqS (ownS nilA 4) (whileS (truF (cF (.bool true))) PG.L__simplest_above_zero_1))
noncomputable def PG.B__simplest_above_zero (a0 a1 a2 a3 : PyData) : FR := outFR (PG.S__simplest_above_zero [.d a0, .d a1, .d a2, .d a3, .un, .un, .un])
noncomputable def LH.L_up_1 : Rho → Out := (ifS (testF (binF dIsN2 (varF 5) (cF (.none)))) (seqS (asgS (binF dDiv (binF dIx (varF 0) (cF (.int 0))) (binF dIx (varF 0) (cF (.int 1)))) (nameT 7)) (seqS (asgS (binF dAdd (varF 7) (appF (app1 bInt) (consA (orV (binF dNe (binF dMod (binF dIx (varF 0) (cF (.int 0))) (binF dIx (varF 0) (cF (.int 1)))) (cF (.int 0))) (notV (varF 1))) nilA))) (nameT 8)) (ifS (orT (testF (binF dIsN2 (varF 2) (cF (.none)))) (orT (testF (binF dLt (binF dMul (varF 8) (binF dIx (varF 2) (cF (.int 1)))) (binF dIx (varF 2) (cF (.int 0))))) (andT (testF (binF dEq (binF dMul (varF 8) (binF dIx (varF 2) (cF (.int 1)))) (binF dIx (varF 2) (cF (.int 0))))) (truF (varF 3))))) (asgS (tupF (consA (varF 8) (consA (cF (.int 1)) nilA))) (nameT 5)) (seqS (appendS 4 (varF 7)) (seqS (asgS (cF (.none)) (nameT 9)) (seqS (ifS (testF (binF dNe (binF dMod (binF dIx (varF 0) (cF (.int 0))) (binF dIx (varF 0) (cF (.int 1)))) (cF (.int 0)))) (asgS (tupF (consA (binF dIx (varF 0) (cF (.int 1))) (consA (binF dMod (binF dIx (varF 0) (cF (.int 0))) (binF dIx (varF 0) (cF (.int 1)))) nilA))) (nameT 9)) nxS) (asgS (tupF (consA (tupF (consA (binF dIx (varF 2) (cF (.int 1))) (consA (binF dSub (binF dIx (varF 2) (cF (.int 0))) (binF dMul (varF 7) (binF dIx (varF 2) (cF (.int 1))))) nilA))) (consA (varF 3) (consA (varF 9) (consA (varF 1) nilA))))) (tupT 4 (consTs (nameT 0) (consTs (nameT 1) (consTs (nameT 2) (consTs (nameT 3) nilTs)))))))))))) nxS)
noncomputable def LH.L_up_2 : Rho → Out := (asgS (tupF (consA (binF dAdd (binF dMul (varF 7) (binF dIx (varF 5) (cF (.int 0)))) (binF dIx (varF 5) (cF (.int 1)))) (consA (binF dIx (varF 5) (cF (.int 0))) nilA))) (nameT 5))
noncomputable def LH.S_up : Rho → Out := (seqS (ownS nilA 4) (seqS (asgS (cF (.none)) (nameT 5)) (seqS (forS (range1F (consA (cF (.int 200)) nilA)) (nameT 6) LH.L_up_1) (seqS (forS (itemsQ (unF dRev (varF 4))) (nameT 7) LH.L_up_2) (retS (varF 5))))))
noncomputable def LH.B_up (a0 a1 a2 a3 : PyData) : FR := outFR (LH.S_up [.d a0, .d a1, .d a2, .d a3, .un, .un, .un, .un, .un, .un])
end DL
set_option exponentiation.threshold 5000
namespace DL
open PySem PySem.Spec PyProof.Rows L2 RT
def refM (ds : List Dr) : Option (List Pa) := (ds.find? fun d => d.1.1.isEmpty).map fun d => mulP d.2 (wfM (d.2.map (·.2)))
structure Ref (d : Dr) : Prop where
  pap : d.1.1 = [] → d.2 ≠ [] ∧ Pap 1900 d.2 ∧ (∀ p ∈ d.2, Low p.2 ∧ p.2.1 ≠ 0) ∧ d.2.length ≤ 8
end DL
set_option exponentiation.threshold 5000
namespace DL
open PySem PySem.Spec PyProof.Rows L2 RT
inductive Told (rows : List Rw) : List Str → List Dr → List (List Dr) → Prop
  | done {ds : List Dr} : (∀ d ∈ ds, Ref d) → Told rows [] ds [ds]
  | stop {x : Str} {xs : List Str} {ds : List Dr} {P : List Pa} : (∀ d ∈ ds, Ref d) → refM ds = some P → Told rows (x :: xs) ds [ds]
  | step {x : Str} {xs : List Str} {ds d1 : List Dr} {ls : List (List Dr)} : (∀ d ∈ ds, Ref d) → refM ds = none → Step1 rows x ds d1 → Told rows xs d1 ls → Told rows (x :: xs) ds (ds :: ls)
end DL
set_option exponentiation.threshold 5000
namespace DL
open PySem PySem.Spec PyProof.Rows L2 RT
structure Lims where
  lo : Option Qn
  loIn : Bool
  hi : Option Qn
  hiIn : Bool
def limQ (pt : List Pt) (x : Str) (d : Dr) : Qn := qdiv (qsub d.1.2.2 (atM (look pt) d.1.1 (0, 1))) (amt d x)
structure LimSz (s : Lims) : Prop where
  lo : ∀ q, s.lo = some q → Sz 4000 q
  hi : ∀ q, s.hi = some q → Sz 4000 q
section
variable {rows : List Rw} (Z : Rz rows) {L : List Str} {c b δ : Nat} (B : Bnd L c b δ) {x : Str} {pt : List Pt} {m : Nat} (hpt : ∀ p ∈ pt, Sz m p.2) (hm : m ≤ 1000)
include Z B hpt hm
end
end DL
set_option exponentiation.threshold 5000
namespace DL
open PySem PySem.Spec PyProof.Rows L2 RT
section
variable {rows : List Rw} (Z : Rz rows) {L : List Str} {c b δ : Nat} (B : Bnd L c b δ) {x : Str} {pt : List Pt} {m : Nat} (hpt : ∀ p ∈ pt, Sz m p.2) (hm : m ≤ 1000)
include Z B hpt hm
end
end DL
namespace DL
open PySem PySem.Spec PyProof.Rows L2 RT
structure LimI (pt : List Pt) (x : Str) (done : List Dr) (s : Lims) : Prop where
  hiN : s.hi = none → ∀ d ∈ done, ¬ Up x d
  loN : s.lo = none → ∀ d ∈ done, ¬ Lw x d
  hiS : ∀ q, s.hi = some q → (∃ d ∈ done, Up x d ∧ q = limQ pt x d ∧ s.hiIn = !(d.1.2.1 == "<")) ∧ ∀ d ∈ done, Up x d → rv q ≤ rv (limQ pt x d) ∧ (rv q = rv (limQ pt x d) → d.1.2.1 = "<" → s.hiIn = false)
  loS : ∀ q, s.lo = some q → (∃ d ∈ done, Lw x d ∧ q = limQ pt x d ∧ s.loIn = !(d.1.2.1 == "<")) ∧ ∀ d ∈ done, Lw x d → rv (limQ pt x d) ≤ rv q ∧ (rv q = rv (limQ pt x d) → d.1.2.1 = "<" → s.loIn = false)
end DL
namespace DL
open PySem PySem.Spec PyProof.Rows L2 RT
end DL
namespace DL
open PySem PySem.Spec PyProof.Rows L2 RT
end DL
namespace DL
open PySem PySem.Spec PyProof.Rows L2 RT
def ptF (pt : List Pt) : Str → Rat := fun y => rv (look pt y)
section
variable {rows : List Rw} (Z : Rz rows) {L : List Str} {c b δ : Nat} (B : Bnd L c b δ) {x : Str} {pt : List Pt} (hpt : ∀ y, 0 < (look pt y).2) (nox : look pt x = (0, 1))
include Z B hpt nox
end
end DL
set_option exponentiation.threshold 5000
namespace DL
open PySem PySem.Spec PyProof.Rows L2 RT
end DL
namespace DL
open PySem PySem.Spec PyProof.Rows L2 RT
def NA (acc : List Str) : Prop := acc.Nodup ∧ ∀ x ∈ acc, x ∈ (["x", "b1", "total"] : List Str)
theorem NA.len {acc : List Str} (h : NA acc) : acc.length ≤ 3 := len_of_nd ["x", "b1", "total"] acc h.1 h.2
def St (e : Ent) : Prop := roE (frzE e) = e
def NB (acc : List Str) : Prop := (∀ x ∈ acc, Nam x) ∧ acc.Nodup
theorem NB.len {acc : List Str} (h : NB acc) : acc.length ≤ 3 := len_of_nd ["x", "b1", "total"] acc h.2 fun x hx => by rcases h.1 x hx with rfl | rfl | rfl <;> simp
end DL
set_option exponentiation.threshold 5000
namespace DL
open PySem PySem.Spec PyProof.Rows L2 RT
end DL
set_option exponentiation.threshold 5000
namespace DL
open PySem PySem.Spec PyProof.Rows L2 RT
def hD (c d : Int) : PyData := if d = 0 then .none else .tuple [.int c, .int d]
inductive LoopR (T : Tg) (S1 : Rho → Out) : List PyData → Rho → Rho → Prop
  | nil {ρ : Rho} : LoopR T S1 [] ρ ρ
  | cons {x : PyData} {xs : List PyData} {ρ ρ1 ρ2 ρ3 : Rho} : T x ρ = some ρ1 → S1 ρ1 = .nx ρ2 → LoopR T S1 xs ρ2 ρ3 → LoopR T S1 (x :: xs) ρ ρ3
def leastZ (a b : Int) (i : Bool) : Int := if b = 1 ∧ i = true then a else a / b + 1
def belZ (l c d : Int) (j : Bool) : Bool := decide (l * d < c) || (decide (l * d = c) && j)
def ptR : List Int → Int → Int × Int
  | [], l => (l, 1)
  | w :: ws, l => (w * (ptR ws l).1 + (ptR ws l).2, (ptR ws l).1)
def SufB (K : Nat) : List Int → Int → Prop
  | [], l => Bt K l
  | w :: ws, l => Bt K w ∧ SufB K ws l ∧ Bt K (ptR (w :: ws) l).1
end DL
set_option exponentiation.threshold 5000
namespace DL
open PySem PySem.Spec PyProof.Rows L2 RT
section
variable {a b c d l w : Int} {i j : Bool} {e0 e1 e2 e3 e4 e5 e6 e7 e8 e9 : Ent} (b0 : 0 < b)
include b0
omit b0 in
end
end DL
set_option exponentiation.threshold 5000
namespace DL
open PySem PySem.Spec PyProof.Rows L2 RT
structure UpZ (a b : Int) (i : Bool) (c d : Int) : Prop where
  a0 : 0 ≤ a
  b0 : 0 < b
  c0 : 0 < c
  d0 : 0 ≤ d
  ab : Int.gcd a b = 1
  cd : Int.gcd c d = 1
  lt : a * d < c * b
  ai : 0 < a ∨ i = false
structure UpR (K : Nat) (a b : Int) (i : Bool) (c d : Int) (j : Bool) (ws : List Int) (l : Int) : Prop where
  t0 : 0 < (ptR ws l).1
  s0 : 0 < (ptR ws l).2
  co : Int.gcd (ptR ws l).1 (ptR ws l).2 = 1
  lo : a * (ptR ws l).2 ≤ (ptR ws l).1 * b
  loS : i = false → a * (ptR ws l).2 < (ptR ws l).1 * b
  hi : (ptR ws l).1 * d ≤ c * (ptR ws l).2
  hiS : j = false → (ptR ws l).1 * d < c * (ptR ws l).2
  t1 : (ptR ws l).1 ≤ a + c
  s1 : (ptR ws l).2 ≤ b + d
  sz : SufB (K + 1) ws l
theorem UpZ.step {a b c d : Int} {i j : Bool} (h : UpZ a b i c d) (hb : belZ (leastZ a b i) c d j = false) :
    leastZ a b i = a / b + 1 ∧ c - a / b * d ≤ d ∧ 0 < d ∧ UpZ d (c - a / b * d) j b (a - a / b * b) ∧ a - a / b * b < b := by
  have b0 := h.b0
  have d0 := h.d0
  have c0 := h.c0
  have lt := h.lt
  have em := Int.mul_ediv_add_emod a b
  have r0 := Int.emod_nonneg a (show b ≠ 0 by omega)
  have r1 := Int.emod_lt_of_pos a b0
  have cm : a / b * b = b * (a / b) := Int.mul_comm _ _
  have wle : a / b * d * b ≤ a * d := by
    have : a / b * d * b = (b * (a / b)) * d := by ac_rfl
    rw [this]
    exact Int.mul_le_mul_of_nonneg_right (by omega) (by omega)
  have pos : 0 < c - a / b * d := by
    have : a / b * d * b < c * b := by omega
    have := Int.lt_of_mul_lt_mul_right this (by omega)
    omega
  have hl : leastZ a b i = a / b + 1 := by
    unfold leastZ at hb ⊢
    by_cases hz : b = 1 ∧ i = true
    · rw [if_pos hz] at hb
      unfold belZ at hb
      rw [hz.1, Int.mul_one] at lt
      simp [lt] at hb
    · rw [if_neg hz]
  have le : c - a / b * d ≤ d := by
    rw [hl] at hb
    unfold belZ at hb
    have : ¬ (a / b + 1) * d < c := by
      intro z
      simp [z] at hb
    rw [Int.add_mul, Int.one_mul] at this
    omega
  refine ⟨hl, le, by omega, ⟨by omega, pos, b0, by omega, ?_, ?_, ?_, .inl (by omega)⟩, by omega⟩
  · have e : c - a / b * d = c + -(a / b) * d := by rw [Int.neg_mul]; omega
    rw [e, Int.gcd_add_mul_right_right, Int.gcd_comm]
    exact h.cd
  · have e : a - a / b * b = a + -(a / b) * b := by rw [Int.neg_mul]; omega
    rw [e, Int.gcd_add_mul_right_right, Int.gcd_comm]
    exact h.ab
  · rw [Int.mul_sub, Int.mul_sub]
    have e2 : b * (a / b * d) = d * (a / b * b) := by ac_rfl
    have e3 : d * a = a * d := Int.mul_comm _ _
    have e4 : b * c = c * b := Int.mul_comm _ _
    omega
theorem UpR.step {K : Nat} {a b c d : Int} {i j : Bool} {ws : List Int} {l : Int} (h : UpZ a b i c d) (ha : Bt K a) (hc : Bt K c) (hs : UpZ d (c - a / b * d) j b (a - a / b * b)) (r : UpR K d (c - a / b * d) j b (a - a / b * b) i ws l) :
    UpR K a b i c d j (a / b :: ws) l := by
  obtain ⟨t0, s0, co, lo, loS, hi, hiS, t1, s1, sz⟩ := r
  have w0 : 0 ≤ a / b := Int.ediv_nonneg h.a0 (by have := h.b0; omega)
  have w1 : a / b ≤ a := Int.ediv_le_self b h.a0
  have a0 := h.a0
  have c0 := h.c0
  generalize hw : a / b = w at *
  generalize hp : ptR ws l = p at *
  have eT : (ptR (w :: ws) l) = (w * p.1 + p.2, p.1) := by simp [ptR, hp]
  have m1 : w * p.1 ≤ w * (d + b) := Int.mul_le_mul_of_nonneg_left t1 w0
  have m0 : 0 ≤ w * p.1 := Int.mul_nonneg w0 (by omega)
  rw [Int.mul_add] at m1
  have tl : w * p.1 + p.2 ≤ a + c := by omega
  refine ⟨?_, ?_, ?_, ?_, ?_, ?_, ?_, ?_, ?_, ?_⟩
  all_goals (try rw [eT])
  · show 0 < w * p.1 + p.2
    omega
  · exact t0
  · show Int.gcd (w * p.1 + p.2) p.1 = 1
    have e : w * p.1 + p.2 = p.2 + w * p.1 := Int.add_comm _ _
    rw [e, Int.gcd_comm, Int.gcd_add_mul_right_right]
    exact co
  · show a * p.1 ≤ (w * p.1 + p.2) * b
    rw [Int.mul_sub] at hi
    rw [Int.add_mul]
    have e1 : p.1 * (w * b) = w * p.1 * b := by ac_rfl
    have e2 : p.1 * a = a * p.1 := Int.mul_comm _ _
    have e3 : b * p.2 = p.2 * b := Int.mul_comm _ _
    omega
  · intro z
    have hi := hiS z
    show a * p.1 < (w * p.1 + p.2) * b
    rw [Int.mul_sub] at hi
    rw [Int.add_mul]
    have e1 : p.1 * (w * b) = w * p.1 * b := by ac_rfl
    have e2 : p.1 * a = a * p.1 := Int.mul_comm _ _
    have e3 : b * p.2 = p.2 * b := Int.mul_comm _ _
    omega
  · show (w * p.1 + p.2) * d ≤ c * p.1
    rw [Int.mul_sub] at lo
    rw [Int.add_mul]
    have e1 : p.1 * (w * d) = w * p.1 * d := by ac_rfl
    have e2 : p.1 * c = c * p.1 := Int.mul_comm _ _
    have e3 : d * p.2 = p.2 * d := Int.mul_comm _ _
    omega
  · intro z
    have lo := loS z
    show (w * p.1 + p.2) * d < c * p.1
    rw [Int.mul_sub] at lo
    rw [Int.add_mul]
    have e1 : p.1 * (w * d) = w * p.1 * d := by ac_rfl
    have e2 : p.1 * c = c * p.1 := Int.mul_comm _ _
    have e3 : d * p.2 = p.2 * d := Int.mul_comm _ _
    omega
  · exact tl
  · show p.1 ≤ b + d
    omega
  · have pw : (2 : Nat) ^ (K + 1) = 2 * 2 ^ K := by rw [Nat.pow_succ]; omega
    unfold Bt at ha hc
    refine ⟨by unfold Bt; omega, sz, ?_⟩
    rw [eT]
    show (w * p.1 + p.2).natAbs < _
    omega
end DL
set_option exponentiation.threshold 5000
namespace DL
open PySem PySem.Spec PyProof.Rows L2 RT
structure Btw (K : Nat) (lo : Option Qn) (i : Bool) (hi : Option Qn) (j : Bool) (v : Qn) : Prop where
  low : Low v
  sz : Sz (K + 1) v
  lo : ∀ q, lo = some q → q.1 * v.2 ≤ v.1 * q.2 ∧ (i = false → q.1 * v.2 < v.1 * q.2)
  hi : ∀ r, hi = some r → v.1 * r.2 ≤ r.1 * v.2 ∧ (j = false → v.1 * r.2 < r.1 * v.2)
def hc : Option Qn → Int
  | none => 1
  | some q => q.1
def hb : Option Qn → Int
  | none => 0
  | some q => q.2
end DL
set_option exponentiation.threshold 5000
namespace DL
open PySem PySem.Spec PyProof.Rows L2 RT
def lowO (o : Option Qn) : Prop := ∀ b, o = some b → Low b
structure LimLow (s : Lims) : Prop where
  lo : lowO s.lo
  hi : lowO s.hi
section
variable {rows : List Rw} (Z : Rz rows) {L : List Str} {c b δ : Nat} (B : Bnd L c b δ) {x : Str} (hx : x ∈ L) {pt : List Pt} {m : Nat} (hpt : ∀ p ∈ pt, Sz m p.2) (hm : m ≤ 1000) (nox : look pt x = (0, 1))
include Z B hx hpt hm nox
end
end DL
set_option exponentiation.threshold 5000
namespace DL
open PySem PySem.Spec PyProof.Rows L2 RT
structure Src (ps : List Pt) (b : Qn) : Prop where
  nd : (ps.map (·.1)).Nodup
  k : ∃ k : Int, 0 < k ∧ k ≤ 2 ∧ ∀ p ∈ ps, ∃ t : Int, t.natAbs ≤ 3 ∧ p.2 = nrm t k
  b : ∃ k t : Int, 0 < k ∧ k ≤ 2 ∧ t.natAbs ≤ 5 ∧ b = nrm t k
structure Tiny (r : Rw) : Prop where
  ps : ∀ p ∈ r.1, p.2.1.natAbs ≤ 3
  b1 : r.2.2.1.natAbs ≤ 10
  b2 : r.2.2.2.natAbs ≤ 6
theorem low_le {v : Qn} (h : Low v) {a b : Int} (hb : 0 < b) (e : rv v = (a : Rat) / (b : Rat)) : v.1.natAbs ≤ a.natAbs ∧ v.2.natAbs ≤ b.natAbs := by
  have ev : v = nrm a b := rv_ext h (low_nrm (by omega)) (by rw [e, rv_nrm (by omega)])
  have c := nrm_cross (t := a) (b := b) (by omega)
  have L := low_nrm (t := a) (b := b) (by omega)
  rw [← ev] at c L
  have n : v.1.natAbs * b.natAbs = a.natAbs * v.2.natAbs := by rw [← Int.natAbs_mul, ← Int.natAbs_mul, c]
  have L2 : Nat.Coprime v.1.natAbs v.2.natAbs := L.co
  have vp := L.pos
  have d1 : v.2.natAbs ∣ b.natAbs := by
    have : v.2.natAbs ∣ v.1.natAbs * b.natAbs := ⟨a.natAbs, by rw [n, Nat.mul_comm]⟩
    exact Nat.Coprime.dvd_of_dvd_mul_left L2.symm this
  obtain ⟨m, hm⟩ := d1
  have m0 : 0 < m := by
    rcases Nat.eq_zero_or_pos m with z | z
    · rw [z, Nat.mul_zero] at hm; omega
    · exact z
  refine ⟨?_, Nat.le_of_dvd (by omega) ⟨m, hm⟩⟩
  have e2 : v.1.natAbs * m = a.natAbs := by
    have : v.2.natAbs * (v.1.natAbs * m) = v.2.natAbs * a.natAbs := by
      calc v.2.natAbs * (v.1.natAbs * m) = v.1.natAbs * (v.2.natAbs * m) := by ac_rfl
        _ = v.1.natAbs * b.natAbs := by rw [hm]
        _ = a.natAbs * v.2.natAbs := n
        _ = v.2.natAbs * a.natAbs := Nat.mul_comm _ _
    exact Nat.eq_of_mul_eq_mul_left (by omega) this
  rw [← e2]
  exact Nat.le_mul_of_pos_right _ m0
theorem getQ_none {kvs : List Pt} {x : Str} (h : x ∉ kvs.map (·.1)) : getQ kvs x = (0, 1) := by
  rcases getQ_mem (kvs := kvs) (x := x) with e | ⟨p, hp, e, _⟩
  · exact e
  · exact absurd (List.mem_map.mpr ⟨p, hp, e⟩) h
theorem putQ_new {kvs : List Pt} {x : Str} {v : Qn} (h : x ∉ kvs.map (·.1)) : putQ kvs x v = kvs ++ [(x, v)] := by
  unfold putQ
  have : (kvs.any fun kv => decide (kv.1 = x)) = false := by
    rw [List.any_eq_false]
    intro p hp z
    exact h (List.mem_map.mpr ⟨p, hp, by simpa using z⟩)
  rw [this]
  rfl
theorem q01_add {q : Qn} (h : Low q) : qadd (0, 1) q = q := by
  have hp := h.pos
  refine rv_ext (low_nrm (Int.mul_ne_zero (by decide) (by omega))) h ?_
  rw [rv_add (by omega) (by decide), rv01]
  grind
theorem sumQ_new : ∀ (ps kvs : List Pt), (∀ p ∈ ps, Low p.2) → ((kvs ++ ps).map (·.1)).Nodup → sumQ ps kvs = kvs ++ ps
  | [], kvs, _, _ => by simp [sumQ]
  | p :: ps, kvs, h, nd => by
    have np : p.1 ∉ kvs.map (·.1) := by
      intro z
      rw [List.map_append, List.map_cons] at nd
      have := (List.nodup_append.mp nd).2.2 p.1 z p.1 List.mem_cons_self
      exact this rfl
    have e : addQ kvs p = kvs ++ [p] := by
      unfold addQ
      rw [getQ_none np, q01_add (h p List.mem_cons_self), putQ_new np]
    have z := sumQ_new ps (kvs ++ [p]) (fun q hq => h q (List.mem_cons_of_mem _ hq)) (by rw [List.append_assoc]; exact nd)
    show sumQ ps (addQ kvs p) = _
    rw [e, z, List.append_assoc]
    rfl
theorem parts_sub {ps : List Pt} (h : ∀ p ∈ ps, Low p.2) (nd : (ps.map (·.1)).Nodup) : ∀ q ∈ partsM ps, ∃ p ∈ ps, q.2 = p.2 := by
  intro q hq
  have nz := partsM_nz q hq
  unfold partsM at hq
  rw [sumQ_new ps [] h (by simpa using nd)] at hq
  obtain ⟨h1, _⟩ := List.mem_filter.mp hq
  obtain ⟨x, hx, rfl⟩ := List.mem_map.mp h1
  rcases getQ_mem (kvs := [] ++ ps) (x := x) with e | ⟨p, hp, _, e⟩
  · rw [e] at nz; exact absurd rfl nz
  · exact ⟨p, by simpa using hp, e⟩
theorem nrm_part {t k : Int} (h : 0 < k) : 0 < (nrm t k).2 ∧ (nrm t k).2 ∣ k ∧ (nrm t k).1 * (k / (nrm t k).2) = t := by
  have c := nrm_cross (t := t) (b := k) (by omega)
  have L := low_nrm (t := t) (b := k) (by omega)
  generalize nrm t k = v at *
  have L2 : Nat.Coprime v.1.natAbs v.2.natAbs := L.co
  have vp := L.pos
  have n : v.1.natAbs * k.natAbs = t.natAbs * v.2.natAbs := by rw [← Int.natAbs_mul, ← Int.natAbs_mul, c]
  have d1 : v.2.natAbs ∣ k.natAbs := by
    have : v.2.natAbs ∣ v.1.natAbs * k.natAbs := ⟨t.natAbs, by rw [n, Nat.mul_comm]⟩
    exact Nat.Coprime.dvd_of_dvd_mul_left L2.symm this
  have d2 : v.2 ∣ k := Int.natAbs_dvd_natAbs.mp d1
  refine ⟨vp, d2, ?_⟩
  obtain ⟨m, rfl⟩ := d2
  rw [Int.mul_ediv_cancel_left _ (by omega)]
  have : v.2 * (v.1 * m) = v.2 * t := by
    calc v.2 * (v.1 * m) = v.1 * (v.2 * m) := by ac_rfl
      _ = t * v.2 := c
      _ = v.2 * t := Int.mul_comm _ _
  exact Int.eq_of_mul_eq_mul_left (by omega) this
theorem sgn_le {v : Qn} (h : Low v) {a b : Int} (hb : 0 < b) (e : rv v = (a : Rat) / (b : Rat) ∨ rv v = -((a : Rat) / (b : Rat))) : v.1.natAbs ≤ a.natAbs ∧ v.2.natAbs ≤ b.natAbs := by
  rcases e with e | e
  · exact low_le h hb e
  · have := low_le h (a := -a) hb (by rw [e]; push_cast; grind)
    rwa [Int.natAbs_neg] at this
theorem fr_one {t k s : Rat} (hk : k ≠ 0) (hs : s ≠ 0) : t / k * (k / s) = t / s ∧ t / k * -(k / s) = -(t / s) := by
  constructor <;> grind
theorem fr_two {t k a s : Rat} (ha : a ≠ 0) (hs : s ≠ 0) : t / a * (k / s) = t * k / (a * s) ∧ t / a * -(k / s) = -(t * k / (a * s)) := by
  constructor <;> grind
theorem tiny_row {ps : List Pt} {sg : Str} {b : Qn} (S : Src ps b) : Tiny (rowM ps sg b) := by
  obtain ⟨nd, ⟨k, k0, k2, hk⟩, ⟨kb, tb, kb0, kb2, htb, eb⟩⟩ := S
  have lo : ∀ p ∈ ps, Low p.2 := fun p hp => by
    obtain ⟨t, _, e⟩ := hk p hp
    rw [e]; exact low_nrm (by omega)
  have sub := parts_sub lo nd
  have bl : Low b := by rw [eb]; exact low_nrm (by omega)
  have rb : rv b = (tb : Rat) / (kb : Rat) := by rw [eb, rv_nrm (by omega)]
  have kb' : ((kb : Int) : Rat) ≠ 0 := rc (by omega)
  have k' : ((k : Int) : Rat) ≠ 0 := rc (by omega)
  have pr : PosR (partsM ps, sg, b) := ⟨fun p h => by
    obtain ⟨q, hq, e⟩ := sub p h
    exact ⟨by rw [e]; exact (lo q hq).pos, partsM_nz p h⟩, bl.pos⟩
  obtain ⟨f1, f2⟩ := fac_low pr
  have LS := LowR.scale pr f1 f2
  have bdE : (scaleM (partsM ps, sg, b) (factorM (partsM ps, sg, b))).2.2 = qmul b (factorM (partsM ps, sg, b)) := rfl
  have bdl := LS.bd
  rw [bdE] at bdl
  have rbd : rv (qmul b (factorM (partsM ps, sg, b))) = rv b * rv (factorM (partsM ps, sg, b)) := rv_mul (by omega) (by have := bl.pos; omega)
  show Tiny (scaleM (partsM ps, sg, b) (factorM (partsM ps, sg, b)))
  by_cases hne : partsM ps = []
  · have goal : (qmul b (factorM (partsM ps, sg, b))).1.natAbs ≤ 1 ∧ (qmul b (factorM (partsM ps, sg, b))).2.natAbs ≤ 1 := by
      by_cases h0 : b.1 = 0
      · have z : rv b = 0 := rv_zero.mpr (.inl h0)
        have := sgn_le bdl (a := 0) (b := 1) (by decide) (.inl (by rw [rbd, z]; grind))
        exact ⟨by have := this.1; simp at this; omega, this.2⟩
      · have fq : facQ (partsM ps, sg, b) = b :: [] := by rw [hne]; rfl
        obtain ⟨f, P, E, _⟩ := fac_rv pr fq h0
        obtain ⟨ns, e1, e2⟩ := P.who
        obtain ⟨n, rfl⟩ : ∃ n, ns = [n] := by
          have h1 := congrArg List.length e1
          rw [List.length_map, List.length_map, List.length_map] at h1
          exact List.length_eq_one_iff.mp h1.symm
        have n1 : n.natAbs = 1 := by simpa [gcdL] using e2
        have e3 : f * rv b = (n : Rat) := by simpa using e1
        have := sgn_le bdl (a := n) (b := 1) (by decide) (by
          rw [rbd, E]
          split
          · right; push_cast; grind
          · left; push_cast; grind)
        rw [n1] at this
        exact this
    refine ⟨fun p hp => ?_, by rw [bdE]; omega, by rw [bdE]; omega⟩
    have : p ∈ (partsM ps).map fun p => (p.1, qmul p.2 (factorM (partsM ps, sg, b))) := hp
    rw [hne] at this
    cases this
  · have src : ∀ p ∈ partsM ps, ∃ t : Int, t ≠ 0 ∧ t.natAbs ≤ 3 ∧ rv p.2 = (t : Rat) / (k : Rat) ∧ 0 < p.2.2 ∧ p.2.2 ∣ k ∧ p.2.1 * (k / p.2.2) = t := fun p hp => by
      obtain ⟨q, hq, e⟩ := sub p hp
      obtain ⟨t, ht, e2⟩ := hk q hq
      have nz := partsM_nz p hp
      obtain ⟨x1, x2, x3⟩ := nrm_part (t := t) k0
      rw [e, e2] at nz ⊢
      refine ⟨t, fun z => nz ?_, ht, rv_nrm (by omega), x1, x2, x3⟩
      subst z
      have := nrm_cross (t := 0) (b := k) (by omega)
      rw [Int.zero_mul] at this
      rcases Int.mul_eq_zero.mp this with z | z
      · exact z
      · omega
    obtain ⟨p0, ps0, hps⟩ : ∃ p0 ps0, partsM ps = p0 :: ps0 := by
      cases h : partsM ps with
      | nil => exact absurd h hne
      | cons p0 ps0 => exact ⟨_, _, rfl⟩
    have fq : facQ (partsM ps, sg, b) = p0.2 :: ps0.map (·.2) := by rw [hps]; rfl
    have m0 : p0 ∈ partsM ps := by rw [hps]; exact List.mem_cons_self
    obtain ⟨f, P, E, _⟩ := fac_rv pr fq (partsM_nz p0 m0)
    have em : (p0.2 :: ps0.map (·.2)) = (partsM ps).map (·.2) := by rw [hps]; rfl
    rw [em] at P
    generalize hS : gcdL (((partsM ps).map (·.2)).map fun q => q.1 * (k / q.2)) = S at *
    obtain ⟨t0, tz, t3, _, _, _, et⟩ := src p0 m0
    have dS : (S : Int) ∣ t0 := by
      rw [← hS, ← et]
      exact gcdL_dvd (List.mem_map.mpr ⟨p0.2, List.mem_map.mpr ⟨p0, m0, rfl⟩, rfl⟩)
    have dS2 : S ∣ t0.natAbs := by
      have := Int.natAbs_dvd_natAbs.mpr dS
      simpa using this
    have S0 : 0 < S := by
      rcases Nat.eq_zero_or_pos S with z | z
      · rw [z] at dS2
        have := Nat.eq_zero_of_zero_dvd dS2
        omega
      · exact z
    have S3 : S ≤ 3 := Nat.le_trans (Nat.le_of_dvd (by omega) dS2) t3
    have P2 := prim_of (qs := (partsM ps).map (·.2)) k0 S0 (fun q hq => by
      obtain ⟨p, hp, rfl⟩ := List.mem_map.mp hq
      obtain ⟨t, _, _, _, x1, x2, _⟩ := src p hp
      exact ⟨x1, x2⟩) hS
    have ef := Prim.unique P P2
    have cS : ((S : Int) : Rat) ≠ 0 := rc (by omega)
    have EF : rv (factorM (partsM ps, sg, b)) = (k : Rat) / ((S : Int) : Rat) ∨ rv (factorM (partsM ps, sg, b)) = -((k : Rat) / ((S : Int) : Rat)) := by
      rw [E, ef]
      split
      · exact .inr rfl
      · exact .inl rfl
    have k3 : (kb * (S : Int)).natAbs ≤ 6 := by
      rw [Int.natAbs_mul]
      have : kb.natAbs * (S : Int).natAbs ≤ 2 * 3 := Nat.mul_le_mul (by omega) (by omega)
      omega
    have k4 : (tb * k).natAbs ≤ 10 := by
      rw [Int.natAbs_mul]
      have : tb.natAbs * k.natAbs ≤ 5 * 2 := Nat.mul_le_mul htb (by omega)
      omega
    have B := sgn_le bdl (a := tb * k) (b := kb * (S : Int)) (Int.mul_pos kb0 (by omega)) (by
      rw [rbd, rb, Rat.intCast_mul, Rat.intCast_mul]
      have f := fr_two (t := (tb : Rat)) (k := (k : Rat)) kb' cS
      rcases EF with z | z <;> rw [z]
      · exact .inl f.1
      · exact .inr f.2)
    refine ⟨fun p hp => ?_, by rw [bdE]; omega, by rw [bdE]; omega⟩
    have lp := (LS.ps p hp).1
    have hp' : p ∈ (partsM ps).map fun p => (p.1, qmul p.2 (factorM (partsM ps, sg, b))) := hp
    obtain ⟨q, hq, rfl⟩ := List.mem_map.mp hp'
    obtain ⟨t, _, t3', rt, x1, _, _⟩ := src q hq
    have rq : rv (qmul q.2 (factorM (partsM ps, sg, b))) = rv q.2 * rv (factorM (partsM ps, sg, b)) := rv_mul (by omega) (by omega)
    have := sgn_le lp (a := t) (b := (S : Int)) (by omega) (by
      show rv (qmul q.2 (factorM (partsM ps, sg, b))) = _ ∨ rv (qmul q.2 (factorM (partsM ps, sg, b))) = _
      rw [rq, rt]
      have f := fr_one (t := (t : Rat)) k' cS
      rcases EF with z | z <;> rw [z]
      · exact .inl f.1
      · exact .inr f.2)
    exact Nat.le_trans this.1 t3'
end DL
namespace DL
open PySem PySem.Spec PyProof.Rows L2 RT
theorem frac3T {t b : Int} (ht : -5 ≤ t ∧ t ≤ 5) (hb : 0 < b ∧ b ≤ 3) : lm_f [.int t, .int b] = .ok (.tuple [.int (nrm t b).1, .int (nrm t b).2]) ∧ Sz 3 (nrm t b) := by
  have bb : Bt 3 b := by unfold Bt; omega
  have bt : Bt 3 t := by unfold Bt; omega
  exact ⟨lawf_ok (n := 10) (by omega) (by decide) (by decide) (bb.mono (by decide)), .nrm (by omega) bt bb⟩
theorem flip_nrm {t k : Int} (h : 0 < k) : qsub (0, 1) (nrm t k) = nrm (-t) k := by
  have p := nrm_pos (t := t) (b := k) (by omega)
  refine rv_ext (low_nrm (Int.mul_ne_zero (by decide) (by omega))) (low_nrm (by omega)) ?_
  rw [rv_sub (by omega) (by decide), rv_nrm (by omega), rv_nrm (by omega), rv01]
  push_cast
  grind
theorem Src.flip {ps : List Pt} {b : Qn} (S : Src ps b) : Src (flipM ps) (qsub (0, 1) b) := by
  obtain ⟨nd, ⟨k, k0, k2, hk⟩, ⟨kb, tb, kb0, kb2, htb, eb⟩⟩ := S
  refine ⟨?_, ⟨k, k0, k2, fun p hp => ?_⟩, ⟨kb, -tb, kb0, kb2, by omega, by rw [eb, flip_nrm kb0]⟩⟩
  · have : (flipM ps).map (·.1) = ps.map (·.1) := by simp [flipM]
    rw [this]; exact nd
  · obtain ⟨q, hq, rfl⟩ := List.mem_map.mp hp
    obtain ⟨t, ht, e⟩ := hk q hq
    exact ⟨-t, by omega, by show qsub (0, 1) q.2 = _; rw [e, flip_nrm k0]⟩
theorem lh_pairsT {a b c d : Int} (ha : 0 ≤ a ∧ a < 7) (hb : 0 ≤ b ∧ b < 7) (hc : 0 ≤ c ∧ c < 7) (hd : 0 ≤ d ∧ d < 7) :
    ∃ ps : List Pt, LH.B_pairs (.list [.int a, .int b, .int c, .int d]) = .ok (.list (ps.map pD)) ∧ (∀ p ∈ ps, Sz 3 p.2 ∧ Nam p.1) ∧ ps.length ≤ 3 ∧ (ps.map (·.1)).Nodup ∧ ∀ p ∈ ps, ∃ t : Int, t.natAbs ≤ 3 ∧ p.2 = nrm t (1 + d / 5) := by
  have f5 : d.fdiv 5 = d / 5 := Int.fdiv_eq_ediv_of_nonneg _ (by decide)
  obtain ⟨e1, z1⟩ := frac3T (t := a - 3) (b := 1 + d / 5) (by omega) (by omega)
  obtain ⟨e2, z2⟩ := frac3T (t := b - 3) (b := 1 + d / 5) (by omega) (by omega)
  obtain ⟨e3, z3⟩ := frac3T (t := c - 3) (b := 1 + d / 5) (by omega) (by omega)
  have r3 : rangeL 0 3 = [.int 0, .int 1, .int 2] := rfl
  have hr : ∀ ρ, rng1 [.int 3] ρ = .ok [.int 0, .int 1, .int 2] ρ := fun ρ => rng1_nat (n := 3) (by decide)
  refine ⟨(if a = 3 then [] else [(("x" : Str), nrm (a - 3) (1 + d / 5))]) ++ (if b = 3 then [] else [(("b1" : Str), nrm (b - 3) (1 + d / 5))]) ++ (if c = 3 then [] else [(("total" : Str), nrm (c - 3) (1 + d / 5))]), ?_, ?_, ?_, ?_, ?_⟩
  rotate_left 1
  · intro p hp
    by_cases h1 : a = 3 <;> by_cases h2 : b = 3 <;> by_cases h3 : c = 3 <;> simp [h1, h2, h3] at hp <;> (try rcases hp with rfl | rfl | rfl) <;> (try rcases hp with rfl | rfl) <;> (try subst hp) <;> first | exact ⟨z1, by simp [Nam]⟩ | exact ⟨z2, by simp [Nam]⟩ | exact ⟨z3, by simp [Nam]⟩
  · split <;> split <;> split <;> simp
  · have s1 : ¬ ("x" : Str) = "b1" := by decide
    have s2 : ¬ ("x" : Str) = "total" := by decide
    have s3 : ¬ ("b1" : Str) = "total" := by decide
    by_cases h1 : a = 3 <;> by_cases h2 : b = 3 <;> by_cases h3 : c = 3 <;> simp [h1, h2, h3] <;> first | exact s1 | exact s2 | exact s3 | exact ⟨⟨s1, s2⟩, s3⟩
  · intro p hp
    have ta : (a - 3).natAbs ≤ 3 := by omega
    have tb : (b - 3).natAbs ≤ 3 := by omega
    have tc : (c - 3).natAbs ≤ 3 := by omega
    by_cases h1 : a = 3 <;> by_cases h2 : b = 3 <;> by_cases h3 : c = 3 <;> simp [h1, h2, h3] at hp <;> (try rcases hp with rfl | rfl | rfl) <;> (try rcases hp with rfl | rfl) <;> (try subst hp) <;> first | exact ⟨_, ta, rfl⟩ | exact ⟨_, tb, rfl⟩ | exact ⟨_, tc, rfl⟩
  · have L : ∀ (e : Ent) (ρ : Rho), True := fun _ _ => trivial
    by_cases h1 : a = 3 <;> by_cases h2 : b = 3 <;> by_cases h3 : c = 3 <;>
      simp [LH.B_pairs, LH.S_pairs, LH.L_pairs_1, hr, loopS_name, h1, h2, h3, dDiv_ok, sd5, f5, e1, e2, e3]
theorem lh_anyrowT {d0 d1 d2 d3 d4 d5 d6 : Int} (h0 : 0 ≤ d0 ∧ d0 < 7) (h1 : 0 ≤ d1 ∧ d1 < 7) (h2 : 0 ≤ d2 ∧ d2 < 7) (h3 : 0 ≤ d3 ∧ d3 < 7) (h4 : 0 ≤ d4 ∧ d4 < 6) (h5 : 0 ≤ d5 ∧ d5 < 11) (h6 : 0 ≤ d6 ∧ d6 < 2) :
    ∃ r : Rw, LH.B_anyrow (.list [.int d0, .int d1, .int d2, .int d3, .int d4, .int d5, .int d6]) = .ok (rD r) ∧ Good r ∧ Tiny r := by
  obtain ⟨ps, e1, hp, hl, nd, hk⟩ := lh_pairsT h0 h1 h2 h3
  obtain ⟨e2, hb⟩ := frac3T (t := d5 - 5) (b := 1 + d6) (by omega) (by omega)
  have S : Src ps (nrm (d5 - 5) (1 + d6)) := ⟨nd, ⟨1 + d3 / 5, by omega, by omega, hk⟩, ⟨1 + d6, d5 - 5, by omega, by omega, by omega, rfl⟩⟩
  generalize nrm (d5 - 5) (1 + d6) = b at *
  have e1' : LH.m_pairs [.list [.int d0, .int d1, .int d2, .int d3]] = .ok (.list (ps.map pD)) := e1
  have ec : dCut (.list [.int d0, .int d1, .int d2, .int d3, .int d4, .int d5, .int d6]) none (some 4) = some (.list [.int d0, .int d1, .int d2, .int d3]) := id rfl
  have main : ∀ (sg : Str) (r : Rw), dIx (.list [.str "<=", .str "<=", .str "<", .str "=", .str ">=", .str ">"]) (.int d4) = some (.str sg) → LH.B_row (.list (ps.map pD)) (.str sg) (N b) = .ok (rD r) → Good r ∧ Tiny r →
      ∃ r : Rw, LH.B_anyrow (.list [.int d0, .int d1, .int d2, .int d3, .int d4, .int d5, .int d6]) = .ok (rD r) ∧ Good r ∧ Tiny r := by
    intro sg r ei er g
    have er' : LH.m_row [.list (ps.map pD), .str sg, .tuple [.int b.1, .int b.2]] = .ok (rD r) := er
    exact ⟨r, by simp [LH.B_anyrow, LH.S_anyrow, cutF_apc, noP_apc, someP_apc, ec, e1', e2, ei, er'], g⟩
  have h6' : ∀ p ∈ ps, Sz 6 p.2 := fun p h => (hp p h).1.mono (by decide)
  have g0 : ∀ sg, Sgn sg → Good (rowM ps sg b) ∧ Tiny (rowM ps sg b) := fun sg hs => ⟨⟨ps, sg, b, rfl, hs, fun p h => ⟨h6' p h, (hp p h).2⟩, hl, hb.mono (by decide)⟩, tiny_row S⟩
  have g1 : ∀ sg, Sgn sg → Good (rowM (flipM ps) sg (qsub (0, 1) b)) ∧ Tiny (rowM (flipM ps) sg (qsub (0, 1) b)) := fun sg hs => by
    refine ⟨?_, tiny_row S.flip⟩
    refine ⟨flipM ps, sg, _, rfl, hs, fun p h => ?_, by simpa [flipM] using hl, (sz01.sub hb).mono (by decide)⟩
    obtain ⟨q, hq, rfl⟩ := List.mem_map.mp h
    exact ⟨(sz01.sub (hp q hq).1).mono (by decide), (hp q hq).2⟩
  have r0 := fun sg hs => lh_row0 (sg := sg) h6' (hb.mono (by decide)) (by omega) hs
  have h4' : ∀ p ∈ ps, Sz 4 p.2 := fun p h => (hp p h).1.mono (by decide)
  have r1 := fun sg sg2 hs => lh_row1 (sg := sg) (sg2 := sg2) h4' (hb.mono (by decide)) (by omega) hs
  have c : d4 = 0 ∨ d4 = 1 ∨ d4 = 2 ∨ d4 = 3 ∨ d4 = 4 ∨ d4 = 5 := by omega
  rcases c with rfl | rfl | rfl | rfl | rfl | rfl
  · exact main "<=" _ (by simp) (r0 _ (.inl rfl)) (g0 _ (.inl rfl))
  · exact main "<=" _ (by simp) (r0 _ (.inl rfl)) (g0 _ (.inl rfl))
  · exact main "<" _ (by simp) (r0 _ (.inr (.inl rfl))) (g0 _ (.inr (.inl rfl)))
  · exact main "=" _ (by simp) (r0 _ (.inr (.inr rfl))) (g0 _ (.inr (.inr rfl)))
  · exact main ">=" _ (by simp) (r1 _ "<=" (.inl ⟨rfl, rfl⟩)) (g1 _ (.inl rfl))
  · exact main ">" _ (by simp) (r1 _ "<" (.inr ⟨rfl, rfl⟩)) (g1 _ (.inr (.inl rfl)))
theorem lh_systemT (ns : List Int) (k : Nat) (hk : k < 1000) (most : Int) (hm : 0 < most ∧ most ≤ 6) :
    ∃ rows : List Rw, LH.B_system (iL ns) (.int k) (.int most) = .ok (.list (rows.map rD)) ∧ (∀ r ∈ rows, Good r ∧ Tiny r) ∧ 0 < rows.length ∧ rows.length ≤ 6 ∧ (rows.length : Int) ≤ most := by
  obtain ⟨ds, e1, g⟩ := draw_ok ns k hk (sysZ most) (by
    intro z hz
    simp only [sysZ, List.mem_append, List.mem_flatten, List.mem_replicate] at hz
    rcases hz with hz | ⟨l, ⟨_, rfl⟩, hz⟩
    · simp at hz
      rcases hz with rfl | rfl <;> omega
    · simp at hz
      rcases hz with rfl | rfl | rfl | rfl <;> decide) (by simp [sysZ])
  have e1' : lm_draw [iL ns, .int k, .list (.int most :: .int 4 :: (List.replicate 6 [PyData.int 7, .int 7, .int 7, .int 7, .int 6, .int 11, .int 2]).flatten)] = .ok (iL ds) := e1
  have hlen : ds.length = 44 := by rw [g.len]; simp [sysZ]
  obtain ⟨a, b, ds', rfl⟩ : ∃ a b ds', ds = a :: b :: ds' := by
    match ds, hlen with
    | a :: b :: ds', _ => exact ⟨a, b, ds', rfl⟩
  have ga : 0 ≤ a ∧ a < most := g.1
  have gb : 0 ≤ b ∧ b < 4 := g.2.1
  have e1' : lm_draw [iL ns, .int k, .list (.int most :: .int 4 :: (List.replicate 6 [PyData.int 7, .int 7, .int 7, .int 7, .int 6, .int 11, .int 2]).flatten)] = .ok (.list (.int a :: .int b :: ds'.map PyData.int)) := e1'
  have hr : ∀ ρ, rng1 [.int (1 + a)] ρ = .ok (rangeL 0 (1 + a).toNat) ρ := fun ρ => rng1_ok (by omega) (by omega)
  have L := loopS_inv (T := nameT 5) (S1 := LH.L_system_1) (fun j ρ => ∃ (rows : List Rw) (e5 e6 : Ent), ρ = [.d (iL ns), .d (.int k), .d (.int most), .d (.list (.int a :: .int b :: ds'.map PyData.int)), .own (rows.map rD), e5, e6] ∧ rows.length = j ∧ ∀ r ∈ rows, Good r ∧ Tiny r) (rangeL 0 (1 + a).toNat) (fun j d ρ hd hI => ?_)
    [.d (iL ns), .d (.int k), .d (.int most), .d (.list (.int a :: .int b :: ds'.map PyData.int)), .own [], .un, .un] ⟨[], .un, .un, rfl, rfl, fun _ h => by cases h⟩
  · obtain ⟨ρ', h1, rows, e5, e6, rfl, h2, h3⟩ := L
    rw [rangeL_len] at h2
    refine ⟨rows, ?_, h3, by omega, by omega, by omega⟩
    have hrep : repF (consA (cF (.int 7)) (consA (cF (.int 7)) (consA (cF (.int 7)) (consA (cF (.int 7)) (consA (cF (.int 6)) (consA (cF (.int 11)) (consA (cF (.int 2)) nilA))))))) (cF (.int 6)) [.d (iL ns), .d (.int k), .d (.int most), .un, .un, .un, .un] = .ok (.list (List.replicate 6 [PyData.int 7, .int 7, .int 7, .int 7, .int 6, .int 11, .int 2]).flatten) [.d (iL ns), .d (.int k), .d (.int most), .un, .un, .un, .un] :=
      repF_apc (ρ1 := [.d (iL ns), .d (.int k), .d (.int most), .un, .un, .un, .un]) (k := 6) (ds := [.int 7, .int 7, .int 7, .int 7, .int 6, .int 11, .int 2]) (by simp) (by simp) (by decide) (by decide)
    have eA : dAdd (.list [.int most, .int 4]) (.list (List.replicate 6 [PyData.int 7, .int 7, .int 7, .int 7, .int 6, .int 11, .int 2]).flatten) = some (.list (.int most :: .int 4 :: (List.replicate 6 [PyData.int 7, .int 7, .int 7, .int 7, .int 6, .int 11, .int 2]).flatten)) := dAdd_ll (by simp)
    simp only [List.map_cons, iL] at e1' hrep h1 ⊢
    simp [-List.replicate_succ, -List.reduceReplicate, LH.B_system, LH.S_system, hrep, eA, e1', hr, h1]
  · obtain ⟨rows, e5, e6, rfl, h2, h3⟩ := hI
    obtain ⟨rfl, hj⟩ := rangeL_get hd
    have gl := (g.drop (2 + 7 * j)).take 7
    rw [sysZ_line most j (by omega)] at gl
    have ec : cutD ((a :: b :: ds').map PyData.int) (some (2 + 7 * (j : Int))) (some (9 + 7 * (j : Int))) = (((a :: b :: ds').drop (2 + 7 * j)).take 7).map PyData.int := by
      have h1 : (2 + 7 * (j : Int)) = ((2 + 7 * j : Nat) : Int) := by omega
      have h2 : (9 + 7 * (j : Int)) = ((9 + 7 * j : Nat) : Int) := by omega
      rw [h1, h2, cutD_nat (by omega) (by rw [List.length_map]; omega), ← List.map_drop, ← List.map_take]
      congr 2
      omega
    generalize ((a :: b :: ds').drop (2 + 7 * j)).take 7 = l at gl ec
    obtain ⟨l0, l1, l2, l3, l4, l5, l6, rfl⟩ : ∃ l0 l1 l2 l3 l4 l5 l6, l = [l0, l1, l2, l3, l4, l5, l6] := by
      match l, gl with
      | [l0, l1, l2, l3, l4, l5, l6], _ => exact ⟨l0, l1, l2, l3, l4, l5, l6, rfl⟩
    obtain ⟨q0, q1, q2, q3, q4, q5, q6, _⟩ := gl
    have sj : Sm (j : Int) := Bt.sm (n := 31) (by unfold Bt; omega) (by decide)
    have s7 : Sm 7 := Bt.sm (n := 31) (by unfold Bt; decide) (by decide)
    have hlen2 : rows.length < 16777216 := by omega
    have fin : ∀ (m0 m1 m2 m3 m4 m5 m6 : Int) (e6 : Ent), (0 ≤ m0 ∧ m0 < 7) → (0 ≤ m1 ∧ m1 < 7) → (0 ≤ m2 ∧ m2 < 7) → (0 ≤ m3 ∧ m3 < 7) → (0 ≤ m4 ∧ m4 < 6) → (0 ≤ m5 ∧ m5 < 11) → (0 ≤ m6 ∧ m6 < 2) →
        (∀ r : Rw, LH.m_anyrow [.list [.int m0, .int m1, .int m2, .int m3, .int m4, .int m5, .int m6]] = .ok (rD r) → LH.L_system_1 [.d (iL ns), .d (.int k), .d (.int most), .d (.list (.int a :: .int b :: ds'.map PyData.int)), .own (rows.map rD), .d (.int (j : Int)), e6] = .nx [.d (iL ns), .d (.int k), .d (.int most), .d (.list (.int a :: .int b :: ds'.map PyData.int)), .own ((rows ++ [r]).map rD), .d (.int (j : Int)), .d (.list [.int m0, .int m1, .int m2, .int m3, .int m4, .int m5, .int m6])]) →
        ∃ ρ1 ρ2, nameT 5 (.int (0 + (j : Int))) [.d (iL ns), .d (.int k), .d (.int most), .d (.list (.int a :: .int b :: ds'.map PyData.int)), .own (rows.map rD), e5, e6] = some ρ1 ∧ LH.L_system_1 ρ1 = .nx ρ2 ∧ ∃ (rows : List Rw) (e5 e6 : Ent), ρ2 = [.d (iL ns), .d (.int k), .d (.int most), .d (.list (.int a :: .int b :: ds'.map PyData.int)), .own (rows.map rD), e5, e6] ∧ rows.length = j + 1 ∧ ∀ r ∈ rows, Good r ∧ Tiny r := by
      intro m0 m1 m2 m3 m4 m5 m6 e6 h0 h1 h2 h3' h4 h5 h6 H
      obtain ⟨r, er, gr⟩ := lh_anyrowT h0 h1 h2 h3' h4 h5 h6
      refine ⟨_, _, by simp, H r er, rows ++ [r], _, _, rfl, by simp; omega, fun x hx => ?_⟩
      rcases List.mem_append.mp hx with hx | hx
      · exact h3 x hx
      · rw [List.mem_singleton.mp hx]; exact gr
    simp only [List.map_cons, List.map_nil] at ec
    have f2 : l0.fdiv 2 = l0 / 2 := Int.fdiv_eq_ediv_of_nonneg _ (by decide)
    have m2 : l3.fmod 2 = l3 % 2 := Int.fmod_eq_emod_of_nonneg _ (by decide)
    have sl3 : Sm l3 := Bt.sm (n := 31) (by unfold Bt; omega) (by decide)
    have sm3 : Sm (l3 % 2) := Bt.sm (n := 31) (by unfold Bt; omega) (by decide)
    have b3 : 0 ≤ l3 * (l3 % 2) ∧ l3 * (l3 % 2) < 7 := by
      have : l3 % 2 = 0 ∨ l3 % 2 = 1 := by omega
      rcases this with h | h <;> rw [h] <;> omega
    have x2 : ∀ n : Nat, ixN (n + 3) 2 = some 2 := fun n => ixN_nat (i := 2) (n := n + 3) (by omega)
    by_cases c0 : b = 0
    · subst c0
      refine fin l0 l1 l2 l3 l4 l5 l6 e6 q0 q1 q2 q3 q4 q5 q6 fun r er => ?_
      simp [LH.L_system_1, someP_apc, dMul_ok, sj, s7, ec, er, hlen2]
    · have c1 : 0 < b := by omega
      by_cases c3 : b = 3
      · subst c3
        refine fin (l0 / 2 + 2) l1 3 (l3 * (l3 % 2)) l4 l5 l6 e6 (by omega) q1 (by decide) b3 q4 q5 q6 fun r er => ?_
        simp [LH.L_system_1, someP_apc, dMul_ok, sj, s7, ec, er, hlen2, dDiv_ok, sd2, f2, dMod_ok, m2, sl3, sm3, x2]
      · refine fin (l0 / 2 + 2) l1 l2 (l3 * (l3 % 2)) l4 l5 l6 e6 (by omega) q1 q2 b3 q4 q5 q6 fun r er => ?_
        simp [LH.L_system_1, someP_apc, dMul_ok, sj, s7, ec, c1, c3, er, hlen2, dDiv_ok, sd2, f2, dMod_ok, m2, sl3, sm3]
end DL
set_option exponentiation.threshold 5000
namespace DL
open PySem PySem.Spec PyProof.Rows L2 RT
structure PtB (pt : List Pt) (q u : Nat) : Prop where
  nd : gND pt
  ex : ∃ D : Int, 0 < D ∧ D.natAbs ≤ 2 ^ u ∧ ∀ p ∈ pt, Fd D (2 ^ q) (rv p.2) ∧ Low p.2
  le : u ≤ q
theorem PtB.sz {pt : List Pt} {q u : Nat} (h : PtB pt q u) : ∀ p ∈ pt, Sz (q + 1) p.2 := fun p hp => by
  obtain ⟨D, a, b, c⟩ := h.ex
  have le := h.le
  exact (c p hp).2.sz a (c p hp).1 (pw1 _) (Nat.lt_of_le_of_lt b (Nat.lt_of_lt_of_le (pw1 _) (pwl (by omega))))
theorem gget_mem2 {ps : List Pt} {x : Str} : gget ps x = (0, 1) ∨ ∃ p ∈ ps, p.1 = x ∧ gget ps x = p.2 := by
  unfold gget
  cases e : ps.find? fun kv => decide (kv.1 = x) with
  | none => left; rfl
  | some p =>
    right
    exact ⟨p, List.mem_of_find?_eq_some e, by simpa using List.find?_some e, rfl⟩
theorem PtB.fd {pt : List Pt} {q u : Nat} (h : PtB pt q u) : ∃ D : Int, 0 < D ∧ D.natAbs ≤ 2 ^ u ∧ ∀ y, Fd D (2 ^ q) (ptF pt y) := by
  obtain ⟨D, a, b, c⟩ := h.ex
  refine ⟨D, a, b, fun y => ?_⟩
  unfold ptF
  rw [look_nd h.nd]
  rcases gget_mem2 (ps := pt) (x := y) with e | ⟨p, hp, _, e⟩
  · rw [e, rv01]; exact Fd.zero
  · rw [e]; exact (c p hp).1
theorem PtB.pos {pt : List Pt} {q u : Nat} (h : PtB pt q u) (y : Str) : 0 < (look pt y).2 := by
  obtain ⟨D, a, b, c⟩ := h.ex
  rw [look_nd h.nd]
  rcases gget_mem2 (ps := pt) (x := y) with e | ⟨p, hp, _, e⟩
  · rw [e]; decide
  · rw [e]; exact (c p hp).2.pos
def Lb (w : Nat) (d : Dr) : Prop := ∃ (t : Rat) (β : Int), t ≠ 0 ∧ 0 < β ∧ (∃ m : Int, t * rv d.1.2.2 * (β : Rat) = m) ∧ ∀ p ∈ d.1.1, ∃ n : Int, t * rv p.2 = n ∧ (β * n).natAbs ≤ 2 ^ w
section
variable {rows : List Rw} (Z : Rz rows) {L : List Str} {c b δ : Nat} (B : Bnd L c b δ) {x : Str} {pt : List Pt} {q u : Nat} (pb : PtB pt q u) (nox : look pt x = (0, 1))
include Z B pb nox
end
end DL
set_option exponentiation.threshold 5000
namespace DL
open PySem PySem.Spec PyProof.Rows L2 RT
inductive Full (rows : List Rw) (lw : Bool) : List Str → List Dr → List (List Dr) → Nat → Nat → Prop
  | done : Full rows lw [] [] [[]] 0 0
  | step {L : List Str} {c b δ w q u : Nat} {x : Str} {xs : List Str} {ds : List Dr} {ls : List (List Dr)} : Bnd L c b δ → x ∈ L → (∀ d ∈ ds, Ctx rows L c b δ d) → (∀ d ∈ ds, Lb w d) → (∀ d ∈ elimM ds x, Cl d) →
      (c + q + 4) * 4 + b + c ≤ 3000 → 2 * u + w + 1 ≤ 2 * q + b + c + 5 → w + u ≤ 3000 → (lw = true → w + u ≤ 136) → Full rows lw xs (cleanM (elimM ds x)) ls q u → Full rows lw (x :: xs) ds (ds :: ls) (2 * q + b + c + 5) (2 * u + w + 1)
end DL
set_option exponentiation.threshold 5000
namespace DL
open PySem PySem.Spec PyProof.Rows L2 RT
end DL
set_option exponentiation.threshold 5000
namespace DL
open PySem PySem.Spec PyProof.Rows L2 RT
def Mu (β : Int) (a M Bm : Nat) (d : Dr) : Prop := ∃ t : Rat, t ≠ 0 ∧ (∀ y, ∃ n : Int, n.natAbs ≤ a ∧ t * vs y d.1.1 = n) ∧ (∀ i, ∃ n : Int, n.natAbs ≤ M ∧ t * vs i d.2 = n) ∧ ∃ m : Int, m.natAbs ≤ Bm ∧ t * rv d.1.2.2 * (β : Rat) = m
theorem Mu.mono {β : Int} {a M Bm a' M' Bm' : Nat} {d : Dr} (h : Mu β a M Bm d) (h1 : a ≤ a') (h2 : M ≤ M') (h3 : Bm ≤ Bm') : Mu β a' M' Bm' d := by
  obtain ⟨t, t0, x, y, m, m1, m2⟩ := h
  exact ⟨t, t0, fun z => by obtain ⟨n, n1, n2⟩ := x z; exact ⟨n, Nat.le_trans n1 h1, n2⟩, fun z => by obtain ⟨n, n1, n2⟩ := y z; exact ⟨n, Nat.le_trans n1 h2, n2⟩, m, Nat.le_trans m1 h3, m2⟩
section
variable {rows : List Rw} {d1 d2 : Dr} {f1 f2 : Qn} (R : RwP rows) (h1 : Dv rows d1) (h2 : Dv rows d2) (m1 : May f1 d1) (m2 : May f2 d2)
include R h1 h2 m1 m2
end
def MuE (β : Int) (a M Bm : Nat) (d : Dr) : Prop := d.1.1 = [] ∨ Mu β a M Bm d
theorem MuE.mono {β : Int} {a M Bm a' M' Bm' : Nat} {d : Dr} (h : MuE β a M Bm d) (h1 : a ≤ a') (h2 : M ≤ M') (h3 : Bm ≤ Bm') : MuE β a' M' Bm' d := by
  rcases h with h | h
  · exact .inl h
  · exact .inr (h.mono h1 h2 h3)
def Two (β : Int) (a M B a' M' B' : Nat) (ds : List Dr) : Prop := ∃ v : Str → Rat, ∀ d ∈ ds, ((∃ ε : Rat, ∀ y, vs y d.1.1 = ε * v y) ∧ MuE β a' M' B' d) ∨ MuE β a M B d
theorem Two.all {β : Int} {a M B a' M' B' : Nat} {ds : List Dr} (h : Two β a M B a' M' B' ds) (h1 : a ≤ a') (h2 : M ≤ M') (h3 : B ≤ B') : ∀ d ∈ ds, MuE β a' M' B' d := by
  obtain ⟨d0, h⟩ := h
  intro d hd
  rcases h d hd with ⟨_, h⟩ | h
  · exact h
  · exact h.mono h1 h2 h3
end DL
set_option exponentiation.threshold 5000
namespace DL
open PySem PySem.Spec PyProof.Rows L2 RT
structure RowN (c b : Nat) (L : List Str) (r : Rw) : Prop where
  int : ∀ p ∈ r.1, p.2.2 = 1 ∧ p.2.1.natAbs ≤ 2 ^ c
  bd : r.2.2.1.natAbs ≤ 2 ^ b ∧ r.2.2.2.natAbs ≤ 2 ^ b
  nm : ∀ p ∈ r.1, p.1 ∈ L
  can : Can leS r.1
  nrm : normM r = r
  low : Low r.2.2
  sgn : Sgn r.2.1
theorem RowN.of {r : Rw} (g : Good r) (t : Tiny r) : RowN 2 4 L3 r := by
  obtain ⟨b1, b2, b3, b4, b5⟩ := good_base g
  have G := g.good
  exact ⟨fun p hp => ⟨(b1 p hp).1, by have := t.ps p hp; show p.2.1.natAbs ≤ 4; omega⟩, ⟨by have := t.b1; show r.2.2.1.natAbs ≤ 16; omega, by have := t.b2; show r.2.2.2.natAbs ≤ 16; omega⟩, fun p hp => nam_L3 (b3 p hp), b4, b5, G.low.bd, G.sg⟩
theorem RowN.len {c b : Nat} {L : List Str} {r : Rw} (h : RowN c b L r) : r.1.length ≤ L.length := by
  have z := len_of_nd2 L (r.1.map fun p : Pt => p.1) h.can.nd (fun x hx => by
    obtain ⟨p, hp, rfl⟩ := List.mem_map.mp hx
    exact h.nm p hp)
  simpa using z
section
variable {rows : List Rw} {c b : Nat} {L : List Str} (h : ∀ r ∈ rows, RowN c b L r) (hc : c ≤ 30) (hb : b ≤ 34) (hL : L.length ≤ 4) (hl : rows.length ≤ 8)
include h hc hb hL hl
end
end DL
namespace DL
open PySem PySem.Spec PyProof.Rows L2 RT PySem.NumText
theorem L3_txt : ∀ x ∈ L3, TxB x 8 0 := by
  have main : ∀ x ∈ L3, x.cps.toList.length ≤ 8 ∧ (∀ c ∈ x.cps.toList, c < 128) ∧ pmT x.cps.toList ≤ 0 := by decide +kernel
  exact fun x hx => ⟨(main x hx).1, (main x hx).2.1, (main x hx).2.2⟩
theorem sg_txt : ∀ s : Str, Sgn s → TxB s 2 0 := by
  have main : ∀ s ∈ (["<=", "<", "="] : List Str), s.cps.toList.length ≤ 2 ∧ (∀ c ∈ s.cps.toList, c < 128) ∧ pmT s.cps.toList ≤ 0 := by decide +kernel
  intro s hs
  have := main s (by rcases hs with rfl | rfl | rfl <;> simp)
  exact ⟨this.1, this.2.1, this.2.2⟩
theorem TxsB.snoc {ws : List Str} {n m : Nat} (h : TxsB ws n m) {w : Str} {k : Nat} (hw : TxB w n k) (hk : k ≤ 200) : TxsB (ws ++ [w]) n (m + k) := by
  refine ⟨fun x hx => ?_, ?_⟩
  · rcases List.mem_append.mp hx with hx | hx
    · exact h.1 x hx
    · rw [List.mem_singleton.mp hx]; exact hw.mono (Nat.le_refl _) hk
  · rw [List.map_append, List.sum_append, List.map_cons, List.map_nil, List.sum_cons, List.sum_nil]
    have := h.2; have := hw.pm; omega
theorem rowtext_step {r : PyData} {ws : List Str} {m : Nat} (h : TxsB ws 20 m) (hl : ws.length ≤ 100) {x : Str} (hx : TxB x 8 0) {a : Int} (ha : a.natAbs ≤ 3) {e2 e3 : Ent} {e4 e5 : Ent} :
    ∃ (ws' : List Str) (f4 f5 : Ent), LH.L_rowtext_1 [.d r, .own (ws.map PyData.str), .d (.str x), .d (.tuple [.int a, .int 1]), e4, e5] = .nx [.d r, .own (ws'.map PyData.str), .d (.str x), .d (.tuple [.int a, .int 1]), f4, f5] ∧ TxsB ws' 20 (m + 1) ∧ ws'.length ≤ ws.length + 2 ∧ ws' ≠ [] := by
  obtain ⟨b, hb, hb2, hb3⟩ : ∃ b : Int, (if -a > a then -a else a) = b ∧ 0 ≤ b ∧ b ≤ 3 := ⟨_, rfl, by split <;> omega, by split <;> omega⟩
  have n1 : nrm b 1 = (b, 1) := by
    have lo : Low ((b, 1) : Qn) := ⟨Int.zero_lt_one, by simp⟩
    refine rv_ext (low_nrm (by decide)) lo ?_
    rw [rv_nrm (by decide)]
    rfl
  have lf : lm_f [.int b, .int 1] = .ok (N (b, 1)) := by rw [← n1]; exact lawf_ok (by decide) (n := 10) (by decide) (by decide) (by unfold Bt; decide)
  have sp : TxB (" " : Str) 1 0 := ⟨by decide +kernel, by decide +kernel, by decide +kernel⟩
  have mi : TxB ("-" : Str) 1 1 := ⟨by decide +kernel, by decide +kernel, by decide +kernel⟩
  have pl : TxB ("+" : Str) 1 1 := ⟨by decide +kernel, by decide +kernel, by decide +kernel⟩
  obtain ⟨w1, f1, t1⟩ := lh_word (q := (b, 1)) (by show b.natAbs ≤ 20; omega) (by show (1 : Int).natAbs ≤ 20; decide) (by show (0 : Int) < 1; decide)
  rw [if_neg (by show ¬ b < 0; omega)] at t1
  have f1' : LH.m_word [N (b, 1)] = .ok (.str w1) := f1
  have c1 := cat_s t1 sp (by decide)
  have c2 := cat_s (t1.add sp) hx (by decide)
  simp only [N] at lf f1'
  have pm : TOk ("+-" : Str) := ⟨by decide +kernel, by decide +kernel⟩
  have ix0 : dIx (.str "+-") (.int 0) = some (.str "+") := by
    have := ix_ch pm (p := 0) (c := 43) (by decide +kernel)
    rw [show ch 43 = ("+" : Str) by decide] at this
    exact this
  have ix1 : dIx (.str "+-") (.int 1) = some (.str "-") := by
    have := ix_ch pm (p := 1) (c := 45) (by decide +kernel)
    rw [show ch 45 = ("-" : Str) by decide] at this
    exact this
  have hsz : ws.length < 16777216 := by omega
  -- the word
  obtain ⟨w, tw, hw⟩ : ∃ w : Str, TxB w 17 0 ∧ ((b = 1 ∧ w = x) ∨ (b ≠ 1 ∧ w = w1 ++ " " ++ x)) := by
    by_cases h1 : b = 1
    · exact ⟨x, hx.mono (by omega) (by omega), .inl ⟨h1, rfl⟩⟩
    · exact ⟨_, ((t1.add sp).add hx).mono (by omega) (by omega), .inr ⟨h1, rfl⟩⟩
  have c3 := cat_s mi tw (by decide)
  have fin : ∀ (ws' : List Str) (wd : Str), LH.L_rowtext_1 [.d r, .own (ws.map PyData.str), .d (.str x), .d (.tuple [.int a, .int 1]), e4, e5] = .nx [.d r, .own (ws'.map PyData.str), .d (.str x), .d (.tuple [.int a, .int 1]), .d (.tuple [.int b, .int 1]), .d (.str wd)] → TxsB ws' 20 (m + 1) ∧ ws'.length ≤ ws.length + 2 ∧ ws' ≠ [] → ∃ (ws' : List Str) (f4 f5 : Ent), LH.L_rowtext_1 [.d r, .own (ws.map PyData.str), .d (.str x), .d (.tuple [.int a, .int 1]), e4, e5] = .nx [.d r, .own (ws'.map PyData.str), .d (.str x), .d (.tuple [.int a, .int 1]), f4, f5] ∧ TxsB ws' 20 (m + 1) ∧ ws'.length ≤ ws.length + 2 ∧ ws' ≠ [] := fun ws' wd q k => ⟨ws', _, _, q, k⟩
  have hlen0 : ws.length = 0 ↔ ws = [] := List.length_eq_zero_iff
  by_cases h0 : ws = []
  · subst h0
    by_cases ha0 : a < 0
    · refine fin [("-" : Str) ++ w] (("-" : Str) ++ w) ?_ ⟨by
        have := h.snoc (w := ("-" : Str) ++ w) ((mi.add tw).mono (by omega) (Nat.le_refl _)) (by decide)
        exact ⟨this.1, Nat.le_trans this.2 (by omega)⟩, by simp, by simp⟩
      rcases hw with ⟨h1, rfl⟩ | ⟨h1, rfl⟩
      · subst h1
        simp [LH.L_rowtext_1, hb, lf, ha0, c3]
      · simp [LH.L_rowtext_1, hb, lf, ha0, h1, f1', c1, c2, c3]
    · refine fin [w] w ?_ ⟨by
        have := h.snoc (w := w) (tw.mono (by omega) (Nat.le_refl _)) (by decide)
        exact ⟨this.1, Nat.le_trans this.2 (by omega)⟩, by simp, by simp⟩
      rcases hw with ⟨h1, rfl⟩ | ⟨h1, rfl⟩
      · subst h1
        simp [LH.L_rowtext_1, hb, lf, ha0]
      · simp [LH.L_rowtext_1, hb, lf, ha0, h1, f1', c1, c2]
  · have hp : 0 < ws.length := by
      have : ws.length ≠ 0 := fun z => h0 (hlen0.mp z)
      omega
    have hp1 : ¬ ((ws.length : Int) = 0) := by omega
    have hp2 : (0 : Int) < (ws.length : Int) := by omega
    have hsz2 : ws.length + 1 < 16777216 := by omega
    by_cases ha0 : a < 0
    · refine fin (ws ++ [("-" : Str)] ++ [w]) w ?_ ⟨by
        have := (h.snoc (w := "-") (mi.mono (by omega) (Nat.le_refl _)) (by decide)).snoc (w := w) (tw.mono (by omega) (Nat.le_refl _)) (by decide)
        exact ⟨this.1, Nat.le_trans this.2 (by omega)⟩, by simp, by simp⟩
      rcases hw with ⟨h1, rfl⟩ | ⟨h1, rfl⟩
      · subst h1
        simp [LH.L_rowtext_1, hb, lf, ha0, hp1, hp2, hp, h0, ix1, hsz, hsz2]
      · simp [LH.L_rowtext_1, hb, lf, ha0, h1, f1', c1, c2, hp1, hp2, hp, h0, ix1, hsz, hsz2]
    · refine fin (ws ++ [("+" : Str)] ++ [w]) w ?_ ⟨by
        have := (h.snoc (w := "+") (pl.mono (by omega) (Nat.le_refl _)) (by decide)).snoc (w := w) (tw.mono (by omega) (Nat.le_refl _)) (by decide)
        exact ⟨this.1, Nat.le_trans this.2 (by omega)⟩, by simp, by simp⟩
      rcases hw with ⟨h1, rfl⟩ | ⟨h1, rfl⟩
      · subst h1
        simp [LH.L_rowtext_1, hb, lf, ha0, hp1, hp2, hp, h0, ix0, hsz, hsz2]
      · simp [LH.L_rowtext_1, hb, lf, ha0, h1, f1', c1, c2, hp1, hp2, hp, h0, ix0, hsz, hsz2]
theorem rowtext_loop {r : PyData} : ∀ (ps : List Pt) (ws : List Str) (m : Nat) (e2 e3 e4 e5 : Ent), TxsB ws 20 m → ws.length + 2 * ps.length ≤ 100 → (∀ p ∈ ps, p.1 ∈ L3 ∧ p.2.2 = 1 ∧ p.2.1.natAbs ≤ 3) →
    ∃ (ws' : List Str) (f2 f3 f4 f5 : Ent), loopS (tupT 2 (consTs (nameT 2) (consTs (nameT 3) nilTs))) LH.L_rowtext_1 (ps.map pD) [.d r, .own (ws.map PyData.str), e2, e3, e4, e5] = .nx [.d r, .own (ws'.map PyData.str), f2, f3, f4, f5] ∧ TxsB ws' 20 (m + ps.length) ∧ ws'.length ≤ ws.length + 2 * ps.length
  | [], ws, m, e2, e3, e4, e5, h, _, _ => ⟨ws, e2, e3, e4, e5, rfl, h, Nat.le_refl _⟩
  | p :: ps, ws, m, e2, e3, e4, e5, h, hl, hp => by
    obtain ⟨h1, h2, h3⟩ := hp p List.mem_cons_self
    rw [List.length_cons] at hl
    obtain ⟨ws1, f4, f5, st, t1, l1, _⟩ := rowtext_step (r := r) h (by omega) (L3_txt _ h1) h3 (e2 := e2) (e3 := e3) (e4 := e4) (e5 := e5)
    obtain ⟨ws2, g2, g3, g4, g5, lo, t2, l2⟩ := rowtext_loop (r := r) ps ws1 (m + 1) (.d (.str p.1)) (.d (.tuple [.int p.2.1, .int 1])) f4 f5 t1 (by omega) fun q hq => hp q (List.mem_cons_of_mem _ hq)
    refine ⟨ws2, g2, g3, g4, g5, ?_, ?_, by rw [List.length_cons]; omega⟩
    · have ep : pD p = .tuple [.str p.1, .tuple [.int p.2.1, .int 1]] := by rw [← h2]
      rw [List.map_cons, ep, loopS_cons_nx (ρ1 := [.d r, .own (ws.map PyData.str), .d (.str p.1), .d (.tuple [.int p.2.1, .int 1]), e4, e5]) (by simp) st]
      exact lo
    · rw [List.length_cons, show m + (ps.length + 1) = m + 1 + ps.length by omega]
      exact t2
theorem lh_rowtext {r : Rw} (R : RowN 2 4 L3 r) (T : Tiny r) : ∃ t : Str, LH.B_rowtext (rD r) = .ok (.str t) ∧ TxB t 300 4 := by
  have l3 : r.1.length ≤ 3 := R.len
  obtain ⟨ws, f2, f3, f4, f5, lo, t1, l1⟩ := rowtext_loop (r := rD r) r.1 [] 0 .un .un .un .un ⟨fun w hw => (by cases hw), by simp⟩ (by simp; omega) fun p hp => ⟨R.nm p hp, (R.int p hp).1, T.ps p hp⟩
  have b1 := T.b1
  have b2 := T.b2
  obtain ⟨wb, eb, tb⟩ := lh_word (q := r.2.2) (by omega) (by omega) R.low.pos
  have eb' : LH.m_word [.tuple [.int r.2.2.1, .int r.2.2.2]] = .ok (.str wb) := eb
  have ts := sg_txt _ R.sgn
  have z0 : TxB ("0" : Str) 1 0 := ⟨by decide +kernel, by decide +kernel, by decide +kernel⟩
  rw [List.length_nil, Nat.zero_add] at l1
  rw [Nat.zero_add] at t1
  have tb' : TxB wb 8 1 := tb.mono (Nat.le_refl _) (by split <;> omega)
  have fin : ∀ us : List Str, TxsB us 20 3 → us.length ≤ 10 → dAdd (.list (us.map PyData.str)) (.list [.str r.2.1, .str wb]) = some (.list ((us ++ [r.2.1] ++ [wb]).map PyData.str)) ∧ dJoin (.str " ") (.list ((us ++ [r.2.1] ++ [wb]).map PyData.str)) = some (.str (Txt.join " " (us ++ [r.2.1] ++ [wb]))) ∧ TxB (Txt.join " " (us ++ [r.2.1] ++ [wb])) 300 4 := fun us hu hul => by
    have tt := (hu.snoc (w := r.2.1) (ts.mono (by omega) (Nat.le_refl _)) (by decide)).snoc (w := wb) (tb'.mono (by omega) (Nat.le_refl _)) (by decide)
    have ll : (us ++ [r.2.1] ++ [wb]).length ≤ 12 := by simp; omega
    refine ⟨?_, djoin_sp tt (by decide) (by omega), (join_sp _ tt).mono ?_ (by omega)⟩
    · rw [dAdd_ll (by simp; omega)]
      simp
    · have : (20 + 1) * (us ++ [r.2.1] ++ [wb]).length ≤ 21 * 12 := Nat.mul_le_mul_left _ ll
      omega
  show ∃ t, outFR (LH.S_rowtext [.d (rD r), .un, .un, .un, .un, .un]) = _ ∧ _
  have er : rD r = .tuple [psD r.1, .str r.2.1, .tuple [.int r.2.2.1, .int r.2.2.2]] := rfl
  have it : psD r.1 = .tuple (r.1.map pD) := rfl
  rw [er, it] at lo ⊢
  have lo' : loopS (tupT 2 (consTs (nameT 2) (consTs (nameT 3) nilTs))) LH.L_rowtext_1 (r.1.map pD) [.d (.tuple [.tuple (r.1.map pD), .str r.2.1, .tuple [.int r.2.2.1, .int r.2.2.2]]), .own [], .un, .un, .un, .un] = _ := lo
  generalize r.1.map pD = PS at *
  by_cases h0 : ws = []
  · subst h0
    obtain ⟨q1, q2, q3⟩ := fin [("0" : Str)] ⟨fun w hw => by rw [List.mem_singleton.mp hw]; exact z0.mono (by omega) (by omega), by simp; exact Nat.le_trans z0.pm (by decide)⟩ (by simp)
    refine ⟨_, ?_, q3⟩
    have q1' : dAdd (.list [.str "0"]) (.list [.str r.2.1, .str wb]) = some (.list [.str "0", .str r.2.1, .str wb]) := q1
    have q2' : dJoin (.str " ") (.list [.str "0", .str r.2.1, .str wb]) = some (.str (Txt.join " " ([("0" : Str)] ++ [r.2.1] ++ [wb]))) := q2
    generalize Txt.join " " ([("0" : Str)] ++ [r.2.1] ++ [wb]) = TT at *
    simp [LH.S_rowtext, lo', eb', q1', q2']
  · have hp : 0 < ws.length := List.length_pos_iff.mpr h0
    have hp1 : ¬ ((ws.length : Int) = 0) := by omega
    obtain ⟨q1, q2, q3⟩ := fin ws ⟨t1.1, Nat.le_trans t1.2 l3⟩ (by omega)
    refine ⟨_, ?_, q3⟩
    generalize hj : ((ws ++ [r.2.1] ++ [wb] : List Str).map PyData.str) = J at *
    simp [LH.S_rowtext, lo', eb', q1, q2, hp1, h0]
end DL
set_option exponentiation.threshold 5000
namespace G_k09
open PySem PySem.Spec PyProof.Rows L2 DL
def sigs : List Str := ["0", "1", "5", "/", "x", "b", "<", "=", ">", "+", "-", " ", "?", "X", "
", "00", "1234567", "abcdefghi", "1/0", "1/", "<=", ""]
theorem sig_ok : ∀ s ∈ sigs, TxB s 9 1 := by
  have main : ∀ s ∈ sigs, s.cps.toList.length ≤ 9 ∧ (∀ c ∈ s.cps.toList, c < 128) ∧ pmT s.cps.toList ≤ 1 := by decide +kernel
  exact fun s hs => ⟨(main s hs).1, (main s hs).2.1, (main s hs).2.2⟩
def wrds : List Str := ["x", "y2", "1", "3/4", "+", "-", "<", "<=", "=", ">", ">=", " ", "12", "0"]
theorem wrd_ok : ∀ s ∈ wrds, TxB s 3 1 := by
  have main : ∀ s ∈ wrds, s.cps.toList.length ≤ 3 ∧ (∀ c ∈ s.cps.toList, c < 128) ∧ pmT s.cps.toList ≤ 1 := by decide +kernel
  exact fun s hs => ⟨(main s hs).1, (main s hs).2.1, (main s hs).2.2⟩
theorem pick (ss : List Str) {d : Int} {n : Nat} (h0 : 0 ≤ d) (h1 : d < (n : Int)) (hn : ss.length = n) : ∃ s ∈ ss, dIx (.list (ss.map PyData.str)) (.int d) = some (.str s) := by
  obtain ⟨k, rfl⟩ : ∃ k : Nat, d = (k : Int) := ⟨d.toNat, by omega⟩
  have hk : k < ss.length := by omega
  exact ⟨ss[k], List.getElem_mem hk, dIx_l (by rw [List.getElem?_map, List.getElem?_eq_getElem hk]; rfl)⟩
theorem pm_drop : ∀ (k : Nat) (cs : List Nat), pmT (cs.drop k) ≤ pmT cs := fun k cs => by
  have := pm_take_drop k cs
  omega
theorem cut_to {t : Str} {n m : Nat} (h : TxB t n m) (hn : n ≤ 10000) {k : Nat} (hk : k ≤ t.cps.toList.length) : dCut (.str t) none (some (k : Int)) = some (.str ⟨(t.cps.toList.take k).toArray⟩) := by
  have e : cutS t none (some (k : Int)) = ⟨(t.cps.toList.take k).toArray⟩ := by
    unfold cutS
    rw [HT.sIx_none, HT.sIx_nat, strLen, Nat.min_eq_left hk]
    simp
  show (if t.length ≤ sizeLine then some (PyData.str (cutS t none (some (k : Int)))) else none) = _
  have := h.len
  rw [if_pos (by rw [strLen, sizeLine_eq]; omega), e]
theorem cut_from {t : Str} {n m : Nat} (h : TxB t n m) (hn : n ≤ 10000) {k : Nat} : dCut (.str t) (some (k : Int)) none = some (.str ⟨(t.cps.toList.drop k).toArray⟩) := by
  have e : cutS t (some (k : Int)) none = ⟨(t.cps.toList.drop k).toArray⟩ := by
    unfold cutS
    rw [HT.sIx_none, HT.sIx_nat, strLen]
    rcases Nat.le_total k t.cps.toList.length with hk | hk
    · rw [Nat.min_eq_left hk, List.take_of_length_le (by rw [List.length_drop]; exact Nat.le_refl _)]
    · rw [Nat.min_eq_right hk, List.drop_eq_nil_of_le hk, List.drop_eq_nil_of_le (Nat.le_refl _)]
      simp
  show (if t.length ≤ sizeLine then some (PyData.str (cutS t (some (k : Int)) none)) else none) = _
  have := h.len
  rw [if_pos (by rw [strLen, sizeLine_eq]; omega), e]
theorem str_tl (l : List Nat) : (⟨l.toArray⟩ : Str).cps.toList = l := rfl
theorem change {t s : Str} {n m : Nat} (h : TxB t n m) (hs : TxB s 9 1) (k j : Nat) : TxB ((⟨(t.cps.toList.take k).toArray⟩ : Str) ++ s ++ (⟨(t.cps.toList.drop (k + j)).toArray⟩ : Str)) (n + 9) (m + 1) := by
  have l1 := h.len
  have l2 := hs.len
  have p1 := h.pm
  have p2 := hs.pm
  refine ⟨?_, fun c hc => ?_, ?_⟩
  · rw [tl_add, tl_add, List.length_append, List.length_append]
    rw [str_tl (t.cps.toList.take k), str_tl (t.cps.toList.drop (k + j)), List.length_take, List.length_drop]
    omega
  · rw [tl_add, tl_add] at hc
    rcases List.mem_append.mp hc with hc | hc
    · rcases List.mem_append.mp hc with hc | hc
      · exact h.cps c (List.mem_of_mem_take (by simpa using hc))
      · exact hs.cps c hc
    · exact h.cps c (List.mem_of_mem_drop (by simpa using hc))
  · rw [tl_add, tl_add, pm_app, pm_app]
    rw [str_tl (t.cps.toList.take k), str_tl (t.cps.toList.drop (k + j))]
    have a := pm_take_drop k t.cps.toList
    have b := pm_drop j (t.cps.toList.drop k)
    rw [List.drop_drop] at b
    omega
theorem mod_turn {t : Str} {n m : Nat} (h : TxB t n m) (hn : n ≤ 1000) {x0 x1 : PyData} {ds : List Int} {j : Nat} (hj : j ≤ 1) (hl : ds.length = 16) (g1 : ∀ d, ds[1 + 3 * j]? = some d → 0 ≤ d ∧ d < 40) (g2 : ∀ d, ds[2 + 3 * j]? = some d → 0 ≤ d ∧ d < 22) (g3 : ∀ d, ds[3 + 3 * j]? = some d → 0 ≤ d ∧ d < 3) {e5 e6 e7 e8 e9 : Ent} :
    ∃ (t' : Str) (f5 f6 f7 : Ent), L_law_1 [.d x0, .d x1, .d (.str t), .d (.list (ds.map PyData.int)), .d (.int (j : Int)), e5, e6, e7, e8, e9] = .nx [.d x0, .d x1, .d (.str t'), .d (.list (ds.map PyData.int)), .d (.int (j : Int)), f5, f6, f7, e8, e9] ∧ TxB t' (n + 9) (m + 1) := by
  obtain ⟨a, b, c, ha, hb, hc, ecut⟩ : ∃ a b c : Int, ds[1 + 3 * j]? = some a ∧ ds[2 + 3 * j]? = some b ∧ ds[3 + 3 * j]? = some c ∧ dCut (.list (ds.map PyData.int)) (some (1 + 3 * (j : Int))) (some (4 + 3 * (j : Int))) = some (.list [.int a, .int b, .int c]) := by
    have k1 : 1 + 3 * j < ds.length := by omega
    have k2 : 2 + 3 * j < ds.length := by omega
    have k3 : 3 + 3 * j < ds.length := by omega
    refine ⟨ds[1 + 3 * j], ds[2 + 3 * j], ds[3 + 3 * j], List.getElem?_eq_getElem k1, List.getElem?_eq_getElem k2, List.getElem?_eq_getElem k3, ?_⟩
    show some (PyData.list (DL.cutD (ds.map PyData.int) (some (1 + 3 * (j : Int))) (some (4 + 3 * (j : Int))))) = _
    rw [show 1 + 3 * (j : Int) = ((1 + 3 * j : Nat) : Int) by omega, show 4 + 3 * (j : Int) = ((4 + 3 * j : Nat) : Int) by omega, cutD_nat (by omega) (by rw [List.length_map]; omega)]
    rw [show 4 + 3 * j - (1 + 3 * j) = 3 by omega]
    have dr : (ds.map PyData.int).drop (1 + 3 * j) = .int ds[1 + 3 * j] :: .int ds[2 + 3 * j] :: .int ds[3 + 3 * j] :: (ds.map PyData.int).drop (4 + 3 * j) := by
      have d1 := List.drop_eq_getElem_cons (l := ds) k1
      have d2 := List.drop_eq_getElem_cons (l := ds) k2
      have d3 := List.drop_eq_getElem_cons (l := ds) k3
      rw [show 1 + 3 * j + 1 = 2 + 3 * j by omega] at d1
      rw [show 2 + 3 * j + 1 = 3 + 3 * j by omega] at d2
      rw [show 3 + 3 * j + 1 = 4 + 3 * j by omega] at d3
      rw [← List.map_drop, ← List.map_drop, d1, d2, d3]
      rfl
    rw [dr]
    rfl
  obtain ⟨a0, a1⟩ := g1 a ha
  obtain ⟨b0, b1⟩ := g2 b hb
  obtain ⟨c0, c1⟩ := g3 c hc
  have hlen := h.len
  have T := h.tok (by omega)
  have bl := bLen_s T
  obtain ⟨L, hL⟩ : ∃ L : Nat, L = t.cps.toList.length := ⟨_, rfl⟩
  have nL : ¬ ((L : Int) + 1 = 0) := by omega
  have fa : a.fmod ((L : Int) + 1) = a % ((L : Int) + 1) := Int.fmod_eq_emod_of_nonneg _ (by omega)
  have fc : c.fmod 2 = c % 2 := Int.fmod_eq_emod_of_nonneg _ (by omega)
  obtain ⟨k, hk⟩ : ∃ k : Nat, a % ((L : Int) + 1) = (k : Int) := ⟨(a % ((L : Int) + 1)).toNat, by have := Int.emod_nonneg a (show (L : Int) + 1 ≠ 0 by omega); omega⟩
  have kl : k ≤ t.cps.toList.length := by
    have := Int.emod_lt_of_pos a (show 0 < (L : Int) + 1 by omega)
    omega
  obtain ⟨q, hq⟩ : ∃ q : Nat, c % 2 = (q : Int) := ⟨(c % 2).toNat, by omega⟩
  obtain ⟨s, hs, es⟩ := pick sigs (n := 22) b0 b1 rfl
  have ts := sig_ok s hs
  have c1' := cut_to h (by omega) kl
  have c2' := cut_from h (by omega) (k := k + q)
  have es' : dIx (.list [.str "0", .str "1", .str "5", .str "/", .str "x", .str "b", .str "<", .str "=", .str ">", .str "+", .str "-", .str " ", .str "?", .str "X", .str "
", .str "00", .str "1234567", .str "abcdefghi", .str "1/0", .str "1/", .str "<=", .str ""]) (.int b) = some (.str s) := es
  have tk : TxB (⟨(t.cps.toList.take k).toArray⟩ : Str) n m := by
    refine ⟨by show (t.cps.toList.take k).toArray.toList.length ≤ n; rw [List.toList_toArray, List.length_take]; omega, fun c hc => h.cps c (List.mem_of_mem_take (by simpa using hc)), ?_⟩
    show pmT (t.cps.toList.take k).toArray.toList ≤ m
    rw [List.toList_toArray]
    have := pm_take_drop k t.cps.toList
    have := h.pm
    omega
  have dk : TxB (⟨(t.cps.toList.drop (k + q)).toArray⟩ : Str) n m := by
    refine ⟨by show (t.cps.toList.drop (k + q)).toArray.toList.length ≤ n; rw [List.toList_toArray, List.length_drop]; omega, fun c hc => h.cps c (List.mem_of_mem_drop (by simpa using hc)), ?_⟩
    show pmT (t.cps.toList.drop (k + q)).toArray.toList ≤ m
    rw [List.toList_toArray]
    exact Nat.le_trans (pm_drop _ _) h.pm
  have a1' := cat_s tk ts (by omega)
  have a2' := cat_s (tk.add ts) dk (by omega)
  have sj : Sm (j : Int) := Bt.sm (n := 31) (by unfold Bt; omega) (by decide)
  have s3 : Sm 3 := Bt.sm (n := 31) (by unfold Bt; decide) (by decide)
  refine ⟨_, .d (.list [.int a, .int b, .int c]), .d (.int (k : Int)), .d (.str s), ?_, change h ts k q⟩
  rw [← hL] at bl
  rw [show ((k + q : Nat) : Int) = (k : Int) + (q : Int) by omega] at c2'
  generalize ds.map PyData.int = DS at *
  generalize (⟨(t.cps.toList.take k).toArray⟩ : Str) = T1 at *
  generalize (⟨(t.cps.toList.drop (k + q)).toArray⟩ : Str) = T2 at *
  simp [-Array.length_toList, L_law_1, cutF_apc, someP_apc, noP_apc, dMul_ok, sj, s3, ecut, bl, dMod_ok, nL, fa, fc, hk, hq, es', c1', c2', a1', a2']
end G_k09
set_option exponentiation.threshold 5000
namespace G_k09
open PySem PySem.Spec PyProof.Rows L2 DL
theorem rng_09 (n : Nat) (hn : n ≤ 63) (xs : List PyData) (hx : xs.length = n) (ρ : Rho) : ∃ m : Nat, m ≤ 14 ∧ (range1F (consA (appF (app2 bMin) (consA (cF (.int 14)) (consA (appF (app2 bMax) (consA (cF (.int 1)) (consA (binF dDiv (appF (app1 bLen) (consA (varF 0) nilA)) (cF (.int 2))) nilA))) nilA))) nilA)) (.d (.list xs) :: ρ) = .ok (rangeL 0 m) (.d (.list xs) :: ρ) := by
  have sd : Sd 2 := Bt.sd (n := 31) (by unfold Bt; omega) (by omega) (by decide) (by decide)
  have f : ((xs.length : Nat) : Int).fdiv 2 = (xs.length : Int) / 2 := Int.fdiv_eq_ediv_of_nonneg _ (by omega)
  have f0 : 0 ≤ (xs.length : Int) / 2 := Int.ediv_nonneg (by omega) (by omega)
  have f1 : (xs.length : Int) / 2 ≤ 63 := Int.le_trans (Int.ediv_le_self _ (by omega)) (by omega)
  generalize (xs.length : Int) / 2 = z at f f0 f1
  refine ⟨(if (if z > 1 then z else 1) < 14 then (if z > 1 then z else 1) else 14).toNat, by split <;> split <;> omega, ?_⟩
  simp [dDiv_ok, sd, f]
  exact rng1_ok (by split <;> split <;> omega) (by split <;> split <;> omega)
noncomputable def tailS : Rho → Out := (ifS (testF (binF dNe (callF m__law_told (consA (varF 2) nilA)) (callF m__law_fault (consA (varF 2) nilA)))) (retS (cF (.bool false))) nxS)
theorem fault_ok {len : Nat} {lx : List (Nat × List Nat) × Option Nat} {p : Nat} {s : Str} (h : faultM len lx = some (p, s)) : PySem.PyData.strOk s = true := by
  unfold faultM at h
  split at h
  · cases h; decide +kernel
  · split at h
    · cases h; decide +kernel
    · split at h
      · cases h; decide +kernel
      · cases h
theorem tail_run {t : Str} {n m : Nat} (h : TxB t n m) (hn : n ≤ 900) (hm : m ≤ 8) {e0 e1 e3 e4 e5 e6 e7 e8 e9 : Ent} : tailS [e0, e1, .d (.str t), e3, e4, e5, e6, e7, e8, e9] = .nx [e0, e1, .d (.str t), e3, e4, e5, e6, e7, e8, e9] := by
  have T := h.tok (by omega)
  have hl := h.len
  have hp := h.pm
  have a : m__law_told [.str t] = _ := lh_told T (by omega) (by omega)
  have b : m__law_fault [.str t] = _ := lh_faultG T
  cases hf : faultM t.cps.toList.length (lexT t) with
  | none =>
    rw [hf] at a b
    have ne : dNe .none .none = some (.bool false) := rfl
    simp [tailS, a, b, ne]
  | some q =>
    obtain ⟨p, s⟩ := q
    rw [hf] at a b
    have ok := fault_ok hf
    have ne : dNe (.tuple [.int (p : Int), .str s]) (.tuple [.int (p : Int), .str s]) = some (.bool false) := dNe_self (by
      simp [SeqAt.shaped, PyData.canLay0, PyData.canLayAll0, PyData.depth, PyData.depthAll, ok])
    dsimp only at a b
    simp [tailS, a, b, ne]
theorem turn (ns : List Int) (w : Nat) (hw : w < 30) (x2 x3 x4 x5 x6 x7 x8 x9 : Ent) : ∃ y2 y3 y4 y5 y6 y7 y8 y9, L_law_2 [.d (iL ns), .d (.int (w : Int)), x2, x3, x4, x5, x6, x7, x8, x9] = .nx [.d (iL ns), .d (.int (w : Int)), y2, y3, y4, y5, y6, y7, y8, y9] := by
  obtain ⟨rows, er, gr, l0, _, _⟩ := lh_systemT ns (2 * w) (by omega) 1 (by decide)
  obtain ⟨r, rs, rfl⟩ : ∃ r rs, rows = r :: rs := by
    cases rows with
    | nil => cases l0
    | cons r rs => exact ⟨r, rs, rfl⟩
  obtain ⟨gr0, tr0⟩ := gr r List.mem_cons_self
  have er' : m__law_system [.list (ns.map PyData.int), .int (2 * (w : Int)), .int 1] = .ok (.list (rD r :: rs.map rD)) := by
    rw [show (2 * (w : Int)) = ((2 * w : Nat) : Int) by omega]
    exact er
  obtain ⟨t, et, tb⟩ := lh_rowtext (RowN.of gr0 tr0) tr0
  have et' : m__law_rowtext [rD r] = .ok (.str t) := et
  obtain ⟨ds, ed, g⟩ := draw_ok ns (2 * w + 1) (by omega) [4, 40, 22, 3, 40, 22, 3, 9, 14, 14, 14, 14, 14, 14, 14, 14] (by decide) (by decide)
  obtain ⟨d0, d1, d2, d3, d4, d5, d6, d7, d8, d9, d10, d11, d12, d13, d14, d15, rfl⟩ : ∃ d0 d1 d2 d3 d4 d5 d6 d7 d8 d9 d10 d11 d12 d13 d14 d15, ds = [d0, d1, d2, d3, d4, d5, d6, d7, d8, d9, d10, d11, d12, d13, d14, d15] := by
    match ds, g with
    | [d0, d1, d2, d3, d4, d5, d6, d7, d8, d9, d10, d11, d12, d13, d14, d15], _ => exact ⟨d0, d1, d2, d3, d4, d5, d6, d7, d8, d9, d10, d11, d12, d13, d14, d15, rfl⟩
  obtain ⟨g0, g1, g2, g3, g4, g5, g6, g7, g8, g9, g10, g11, g12, g13, g14, g15, _⟩ := g
  have k1 : ((2 * w + 1 : Nat) : Int) = 2 * (w : Int) + 1 := by omega
  have ed' : m__law_draw [.list (ns.map PyData.int), .int (2 * (w : Int) + 1), .list [.int 4, .int 40, .int 22, .int 3, .int 40, .int 22, .int 3, .int 9, .int 14, .int 14, .int 14, .int 14, .int 14, .int 14, .int 14, .int 14]] = .ok (.list [.int d0, .int d1, .int d2, .int d3, .int d4, .int d5, .int d6, .int d7, .int d8, .int d9, .int d10, .int d11, .int d12, .int d13, .int d14, .int d15]) := by
    rw [← k1]
    exact ed
  have sw : Sm (w : Int) := Bt.sm (n := 31) (by unfold Bt; omega) (by decide)
  have s2 : Sm 2 := Bt.sm (n := 31) (by unfold Bt; decide) (by decide)
  have r1 : ∀ ρ, repF (consA (cF (.int 40)) (consA (cF (.int 22)) (consA (cF (.int 3)) nilA))) (cF (.int 2)) (Ent.d (.list (ns.map PyData.int)) :: ρ) = .ok (.list [.int 40, .int 22, .int 3, .int 40, .int 22, .int 3]) (Ent.d (.list (ns.map PyData.int)) :: ρ) := fun ρ => repF_apc (k := 2) (ds := [.int 40, .int 22, .int 3]) rfl rfl (by decide) (by decide)
  have r2 : ∀ ρ, repF (consA (cF (.int 14)) nilA) (cF (.int 8)) (Ent.d (.list (ns.map PyData.int)) :: ρ) = .ok (.list [.int 14, .int 14, .int 14, .int 14, .int 14, .int 14, .int 14, .int 14]) (Ent.d (.list (ns.map PyData.int)) :: ρ) := fun ρ => repF_apc (k := 8) (ds := [.int 14]) rfl rfl (by decide) (by decide)
  have a1 : dAdd (.list [.int 4]) (.list [.int 40, .int 22, .int 3, .int 40, .int 22, .int 3]) = some (.list [.int 4, .int 40, .int 22, .int 3, .int 40, .int 22, .int 3]) := dAdd_ll (by decide)
  have a2 : dAdd (.list [.int 4, .int 40, .int 22, .int 3, .int 40, .int 22, .int 3]) (.list [.int 9]) = some (.list [.int 4, .int 40, .int 22, .int 3, .int 40, .int 22, .int 3, .int 9]) := dAdd_ll (by decide)
  have a3 : dAdd (.list [.int 4, .int 40, .int 22, .int 3, .int 40, .int 22, .int 3, .int 9]) (.list [.int 14, .int 14, .int 14, .int 14, .int 14, .int 14, .int 14, .int 14]) = some (.list [.int 4, .int 40, .int 22, .int 3, .int 40, .int 22, .int 3, .int 9, .int 14, .int 14, .int 14, .int 14, .int 14, .int 14, .int 14, .int 14]) := dAdd_ll (by decide)
  obtain ⟨D, hD⟩ : ∃ D : List PyData, D = [.int d0, .int d1, .int d2, .int d3, .int d4, .int d5, .int d6, .int d7, .int d8, .int d9, .int d10, .int d11, .int d12, .int d13, .int d14, .int d15] := ⟨_, rfl⟩
  have i0 : dIx (.list D) (.int 0) = some (.int d0) := by rw [hD]; exact dIx_l0
  have i7 : dIx (.list D) (.int 7) = some (.int d7) := by rw [hD]; exact dIx_l (i := 7) rfl
  obtain ⟨mm, hm, hm2⟩ : ∃ mm : Nat, d0.fmod 3 = (mm : Int) ∧ mm ≤ 2 := by
    have e : d0.fmod 3 = d0 % 3 := Int.fmod_eq_emod_of_nonneg _ (by omega)
    exact ⟨(d0 % 3).toNat, by omega, by omega⟩
  have rg : ∀ ρ, rng1 [.int (mm : Int)] ρ = .ok (rangeL 0 mm) ρ := fun ρ => rng1_nat (by omega)
  have L := loopS_inv (T := nameT 4) (S1 := L_law_1) (fun j ρ => ∃ (t' : Str) (e4 e5 e6 e7 : Ent), ρ = [.d (iL ns), .d (.int (w : Int)), .d (.str t'), .d (.list D), e4, e5, e6, e7, x8, x9] ∧ TxB t' (300 + 9 * j) (4 + j)) (rangeL 0 mm) (fun j d ρ hd hI => ?_)
    [.d (iL ns), .d (.int (w : Int)), .d (.str t), .d (.list D), x4, x5, x6, x7, x8, x9] ⟨t, x4, x5, x6, x7, rfl, tb⟩
  rotate_left 1
  · obtain ⟨t', e4, e5, e6, e7, rfl, ht⟩ := hI
    obtain ⟨rfl, hj⟩ := rangeL_get hd
    obtain ⟨t2, f5, f6, f7, st, ht2⟩ := mod_turn ht (by omega) (x0 := iL ns) (x1 := .int (w : Int)) (ds := [d0, d1, d2, d3, d4, d5, d6, d7, d8, d9, d10, d11, d12, d13, d14, d15]) (j := j) (by omega) rfl (fun d h => by
        have hj' : j = 0 ∨ j = 1 := by omega
        rcases hj' with rfl | rfl <;> (cases h; assumption)) (fun d h => by
        have hj' : j = 0 ∨ j = 1 := by omega
        rcases hj' with rfl | rfl <;> (cases h; assumption)) (fun d h => by
        have hj' : j = 0 ∨ j = 1 := by omega
        rcases hj' with rfl | rfl <;> (cases h; assumption)) (e5 := e5) (e6 := e6) (e7 := e7) (e8 := x8) (e9 := x9)
    refine ⟨[.d (iL ns), .d (.int (w : Int)), .d (.str t'), .d (.list D), .d (.int (j : Int)), e5, e6, e7, x8, x9], _, by simp, ?_, t2, .d (.int (j : Int)), f5, f6, f7, rfl, ht2.mono (by omega) (by omega)⟩
    rw [hD]
    exact st
  obtain ⟨ρ', lo, t1, e4, e5, e6, e7, rfl, ht1⟩ := L
  rw [rangeL_len] at ht1
  have fold : ∀ ρ, L_law_2 ρ = (seqS (asgS (callF m__law_rowtext (consA (binF dIx (callF m__law_system (consA (varF 0) (consA (binF dMul (cF (.int 2)) (varF 1)) (consA (cF (.int 1)) nilA)))) (cF (.int 0))) nilA)) (nameT 2)) (seqS (asgS (callF m__law_draw (consA (varF 0) (consA (binF dAdd (binF dMul (cF (.int 2)) (varF 1)) (cF (.int 1))) (consA (binF dAdd (binF dAdd (binF dAdd (lstF (consA (cF (.int 4)) nilA)) (repF (consA (cF (.int 40)) (consA (cF (.int 22)) (consA (cF (.int 3)) nilA))) (cF (.int 2)))) (lstF (consA (cF (.int 9)) nilA))) (repF (consA (cF (.int 14)) nilA) (cF (.int 8)))) nilA)))) (nameT 3)) (seqS (forS (range1F (consA (binF dMod (binF dIx (varF 3) (cF (.int 0))) (cF (.int 3))) nilA)) (nameT 4) L_law_1) (seqS (ifS (testF (binF dEq (binF dIx (varF 3) (cF (.int 0))) (cF (.int 3)))) (seqS (ownS (consA (cF (.str "x")) (consA (cF (.str "y2")) (consA (cF (.str "1")) (consA (cF (.str "3/4")) (consA (cF (.str "+")) (consA (cF (.str "-")) (consA (cF (.str "<")) (consA (cF (.str "<=")) (consA (cF (.str "=")) (consA (cF (.str ">")) (consA (cF (.str ">=")) (consA (cF (.str " ")) (consA (cF (.str "12")) (consA (cF (.str "0")) nilA)))))))))))))) 8) (asgS (m1F dJoin (cF (.str " ")) (lcF [9] (itemsQ (cutF (varF 3) (someP (cF (.int 8))) (someP (binF dAdd (cF (.int 8)) (binF dIx (varF 3) (cF (.int 7))))))) (nameT 9) yesT (binF dIx (varF 8) (varF 9)))) (nameT 2))) nxS) tailS)))) ρ := fun ρ => rfl
  have q3 : dEq (.int d0) (.int 3) = some (.bool (d0 == 3)) := dEq_ii _ _
  have ix0 : dIx (.list (rD r :: rs.map rD)) (.int 0) = some (rD r) := dIx_l0
  rw [← hD] at ed'
  by_cases h3 : d0 = 3
  · have z : (d0 == 3) = true := by simp [h3]
    rw [z] at q3
    obtain ⟨n7, h7⟩ : ∃ n7 : Nat, d7 = (n7 : Int) := ⟨d7.toNat, by omega⟩
    have ec : dCut (.list D) (some 8) (some (8 + d7)) = some (.list (([d8, d9, d10, d11, d12, d13, d14, d15].take n7).map PyData.int)) := by
      show some (PyData.list (DL.cutD D (some 8) (some (8 + d7)))) = _
      rw [h7, show (8 : Int) = ((8 : Nat) : Int) from rfl, show ((8 : Nat) : Int) + (n7 : Int) = ((8 + n7 : Nat) : Int) by omega, cutD_nat (by omega) (by rw [hD]; simp; omega), hD]
      rw [show 8 + n7 - 8 = n7 by omega, List.map_take]
      rfl
    have hx : ∀ d ∈ [d8, d9, d10, d11, d12, d13, d14, d15].take n7, 0 ≤ d ∧ d < 14 := fun d hd => by
      have := List.mem_of_mem_take hd
      simp only [List.mem_cons, List.not_mem_nil, or_false] at this
      rcases this with rfl | rfl | rfl | rfl | rfl | rfl | rfl | rfl <;> assumption
    have hl8 : ([d8, d9, d10, d11, d12, d13, d14, d15].take n7).length ≤ 8 := by rw [List.length_take]; simp; omega
    generalize hXS : [d8, d9, d10, d11, d12, d13, d14, d15].take n7 = XS at *
    have wok : ∀ d : Int, 0 ≤ d → d < 14 → wrds.getD d.toNat "" ∈ wrds ∧ dIx (.list (wrds.map PyData.str)) (.int d) = some (.str (wrds.getD d.toNat "")) := fun d h0 h1 => by
      obtain ⟨k, rfl⟩ : ∃ k : Nat, d = (k : Int) := ⟨d.toNat, by omega⟩
      have hk : k < wrds.length := by show k < 14; omega
      have e : wrds.getD (k : Int).toNat "" = wrds[k] := by simp [List.getD, hk]
      rw [e]
      exact ⟨List.getElem_mem hk, dIx_l (by rw [List.getElem?_map, List.getElem?_eq_getElem hk]; rfl)⟩
    have cm : ∀ b0 b1 b2 b3 b4 b5 b6 b7 : Ent, compL (nameT 9) yesT (binF dIx (varF 8) (varF 9)) [b0, b1, b2, b3, b4, b5, b6, b7, .d (.list (wrds.map PyData.str)), .un] (XS.map PyData.int) [] = some ((XS.map fun d => wrds.getD d.toNat "").map PyData.str) := by
      intro b0 b1 b2 b3 b4 b5 b6 b7
      rw [compL_map PyData.int (fun d => .str (wrds.getD d.toNat "")) XS (fun d hd => ?_) (by omega), List.map_map]
      · rfl
      · obtain ⟨h0, h1⟩ := hx d hd
        have := (wok d h0 h1).2
        generalize wrds.map PyData.str = WW at *
        simp [this]
    have tx : TxsB (XS.map fun d => wrds.getD d.toNat "") 3 8 := by
      refine ⟨fun s hs => ?_, ?_⟩
      · obtain ⟨d, hd, rfl⟩ := List.mem_map.mp hs
        obtain ⟨h0, h1⟩ := hx d hd
        exact (wrd_ok _ (wok d h0 h1).1).mono (Nat.le_refl _) (by decide)
      · have : ∀ ys : List Int, (∀ d ∈ ys, 0 ≤ d ∧ d < 14) → ((ys.map fun d => wrds.getD d.toNat "").map fun w => pmT w.cps.toList).sum ≤ ys.length := by
          intro ys
          induction ys with
          | nil => intro _; simp
          | cons y ys ih =>
            intro hy
            have i := ih fun d hd => hy d (List.mem_cons_of_mem _ hd)
            obtain ⟨h0, h1⟩ := hy y List.mem_cons_self
            have p := (wrd_ok _ (wok y h0 h1).1).pm
            rw [List.map_cons, List.map_cons, List.sum_cons, List.length_cons]
            omega
        exact Nat.le_trans (this XS hx) hl8
    have dj := djoin_sp tx (by decide) (by rw [List.length_map]; omega)
    have jt := join_sp _ tx
    rw [List.length_map] at jt
    have tl := tail_run (jt.mono (show (3 + 1) * XS.length ≤ 900 by omega) (Nat.le_refl _)) (by decide) (by decide) (e0 := .d (.list (ns.map PyData.int))) (e1 := .d (.int (w : Int))) (e3 := .d (.list D)) (e4 := frzE e4) (e5 := frzE e5) (e6 := frzE e6) (e7 := frzE e7) (e8 := .d (.list (wrds.map PyData.str))) (e9 := frzE x9)
    have wl : wrds.map PyData.str = [.str "x", .str "y2", .str "1", .str "3/4", .str "+", .str "-", .str "<", .str "<=", .str "=", .str ">", .str ">=", .str " ", .str "12", .str "0"] := rfl
    generalize hTT : Txt.join " " (XS.map fun d => wrds.getD d.toNat "") = TT at *
    generalize (XS.map fun d => wrds.getD d.toNat "").map PyData.str = JJ at *
    rw [wl] at tl cm
    refine ⟨.d (.str TT), .d (.list D), frzE e4, frzE e5, frzE e6, frzE e7, .d (.list [.str "x", .str "y2", .str "1", .str "3/4", .str "+", .str "-", .str "<", .str "<=", .str "=", .str ">", .str ">=", .str " ", .str "12", .str "0"]), frzE x9, ?_⟩
    rw [fold]
    rw [show (iL ns) = .list (ns.map PyData.int) from rfl] at lo ⊢
    clear hD ed gr et er tb
    generalize hL1 : L_law_1 = L1 at *
    generalize hTS : tailS = TS at *
    generalize rD r = R0 at *
    generalize rs.map rD = RS at *
    generalize ns.map PyData.int = NS at *
    generalize XS.map PyData.int = XD at *
    simp [er', ix0, et', dMul_ok, sw, s2, r1, r2, a1, a2, a3, ed', i0, dMod_ok, hm, rg, lo, q3, cutF_apc, someP_apc, i7, ec, cm, dj, tl]
  · have z : (d0 == 3) = false := by simp [h3]
    rw [z] at q3
    have tl := tail_run ht1 (by omega) (by omega) (e0 := .d (.list (ns.map PyData.int))) (e1 := .d (.int (w : Int))) (e3 := .d (.list D)) (e4 := e4) (e5 := e5) (e6 := e6) (e7 := e7) (e8 := x8) (e9 := x9)
    refine ⟨.d (.str t1), .d (.list D), e4, e5, e6, e7, x8, x9, ?_⟩
    rw [fold]
    rw [show (iL ns) = .list (ns.map PyData.int) from rfl] at lo ⊢
    clear hD ed gr et er tb
    generalize hL1 : L_law_1 = L1 at *
    generalize hTS : tailS = TS at *
    generalize rD r = R0 at *
    generalize rs.map rD = RS at *
    generalize ns.map PyData.int = NS at *
    simp [er', ix0, et', dMul_ok, sw, s2, r1, r2, a1, a2, a3, ed', i0, dMod_ok, hm, rg, lo, q3, tl]
theorem law_true (ns : List Int) (hn : ns.length ≤ 63) : B_law (.list (ns.map PyData.int)) = .ok (.bool true) := by
  obtain ⟨m, hm, e1⟩ := rng_09 ns.length hn (ns.map PyData.int) (by simp) [.un, .un, .un, .un, .un, .un, .un, .un, .un]
  unfold B_law S_law
  rw [seqS_apc, forS_apc, e1]
  refine loop_then (fun k ρ => ∃ x1 x2 x3 x4 x5 x6 x7 x8 x9, ρ = [.d (iL ns), x1, x2, x3, x4, x5, x6, x7, x8, x9]) _ ?_ ⟨_, _, _, _, _, _, _, _, _, rfl⟩ ?_
  rotate_left 1
  · rintro ρ ⟨x1, x2, x3, x4, x5, x6, x7, x8, x9, rfl⟩
    simp
  rintro w d ρ hd ⟨x1, x2, x3, x4, x5, x6, x7, x8, x9, rfl⟩
  obtain ⟨rfl, hk⟩ := rangeL_get hd
  obtain ⟨y2, y3, y4, y5, y6, y7, y8, y9, h⟩ := turn ns w (by omega) x2 x3 x4 x5 x6 x7 x8 x9
  exact ⟨[.d (iL ns), .d (.int (w : Int)), x2, x3, x4, x5, x6, x7, x8, x9], _, by simp, h, _, _, _, _, _, _, _, _, _, rfl⟩
end G_k09

open PySem PySem.W PyProof.Rows
set_option maxRecDepth 100000 in
set_option maxHeartbeats 0 in
theorem PySem.Challenge.cw_linpapers_k09_faults_of_comparisons_holds : PySem.Challenge.rw_linpapers_k09_faults_of_comparisons.Holds := by
  w_on; o_law; k_head; (case hw => w_witness2)
  k_fill
  refine L2.walk_of (l := PySem.Challenge.rw_linpapers_k09_faults_of_comparisons) (n := 63) (k := 9) (x := "script") (CX := fun w => L2.CX PySem.Challenge.rw_linpapers_k09_faults_of_comparisons.prog w) (sp := fun w => G_k09.spLaw _) rfl (by decide) rfl ⟨rfl, by decide, by decide⟩ (fun w h Y => PySem.W.kIn_of Y) ?F (fun _ _ a ns hl _ hS => ⟨a, ns, rfl, hS, hl, fun _ => rfl⟩) (fun _ _ _ _ _ h => by obtain ⟨_, _, _, _, _, _, _, _, _, _, _, _, z⟩ := h; exact z)
  case F =>
    intro w mg fa h KX G hmg
    refine' G_k09.all_mk KX G hmg G_k09.law_true ?a_number ?l_number ?c_number ?k_number ?a_plus ?l_plus ?c_plus ?k_plus ?a_minus ?l_minus ?c_minus ?k_minus ?a_times ?l_times ?c_times ?k_times ?a_compare ?l_compare ?c_compare ?k_compare ?a_whole_factor ?l_whole_factor ?c_whole_factor ?k_whole_factor ?a_added_up ?l_added_up ?c_added_up ?k_added_up ?a_multiplied ?l_multiplied ?c_multiplied ?k_multiplied ?a_normal_factor ?l_normal_factor ?c_normal_factor ?k_normal_factor ?a_normal ?l_normal ?c_normal ?k_normal ?a_row ?l_row ?c_row ?k_row ?a__run_end ?l__run_end ?c__run_end ?k__run_end ?a__digits_end ?l__digits_end ?c__digits_end ?k__digits_end ?a__number_end ?l__number_end ?c__number_end ?k__number_end ?a__token_end ?l__token_end ?c__token_end ?k__token_end ?a__is_cut_off ?l__is_cut_off ?c__is_cut_off ?k__is_cut_off ?a__tokens ?l__tokens ?c__tokens ?k__tokens ?a__kind ?l__kind ?c__kind ?k__kind ?a__check ?l__check ?c__check ?k__check ?a__number_of ?l__number_of ?c__number_of ?k__number_of ?a__row_of ?l__row_of ?c__row_of ?k__row_of ?a_read_row ?l_read_row ?c_read_row ?k_read_row ?a__law_cell ?l__law_cell ?c__law_cell ?k__law_cell ?a__law_draw ?l__law_draw ?c__law_draw ?k__law_draw ?a__law_f ?l__law_f ?c__law_f ?k__law_f ?a__law_add ?l__law_add ?c__law_add ?k__law_add ?a__law_sub ?l__law_sub ?c__law_sub ?k__law_sub ?a__law_mul ?l__law_mul ?c__law_mul ?k__law_mul ?a__law_div ?l__law_div ?c__law_div ?k__law_div ?a__law_scaled ?l__law_scaled ?c__law_scaled ?k__law_scaled ?a__law_factor ?l__law_factor ?c__law_factor ?k__law_factor ?a__law_normal ?l__law_normal ?c__law_normal ?k__law_normal ?a__law_parts ?l__law_parts ?c__law_parts ?k__law_parts ?a__law_row ?l__law_row ?c__law_row ?k__law_row ?a__law_pairs ?l__law_pairs ?c__law_pairs ?k__law_pairs ?a__law_anyrow ?l__law_anyrow ?c__law_anyrow ?k__law_anyrow ?a__law_system ?l__law_system ?c__law_system ?k__law_system ?a__law_word ?l__law_word ?c__law_word ?k__law_word ?a__law_rowtext ?l__law_rowtext ?c__law_rowtext ?k__law_rowtext ?a__law_token ?l__law_token ?c__law_token ?k__law_token ?a__law_fault ?l__law_fault ?c__law_fault ?k__law_fault ?a__law_told ?l__law_told ?c__law_told ?k__law_told ?a_law ?l_law ?c_law ?k_law ?z_enumerate ?z_int ?z_len ?z_max ?z_min ?z_range ?z_sorted ?z_str ?z_tuple ?z_gcd ?z_lcm ?a_NumberError ?e_NumberError ?k_NumberError ?b_NumberError ?t_NumberError ?i_NumberError ?s_NumberError ?a_TextError ?v_TextError ?w_TextError ?f_TextError ?b_TextError ?t_TextError ?k_TextError ?g_TextError ?h_TextError ?d_TextError ?j_TextError ?u_TextError ?n0_TextError ?n1_TextError ?i_TextError ?s_TextError ?l_TextError ?c_TextError ?o_TextError ?a__BEHIND ?l__BEHIND ?q__BEHIND ?r__BEHIND ?g__BEHIND_0 ?l__BEHIND_0 ?g__BEHIND_1 ?l__BEHIND_1 ?g__BEHIND_2 ?l__BEHIND_2 ?g__BEHIND_3 ?l__BEHIND_3 ?g__BEHIND_4 ?l__BEHIND_4 ?a__TURNED ?l__TURNED ?q__TURNED ?r__TURNED ?g0__TURNED ?g1__TURNED ?m0__TURNED ?m1__TURNED ?m2__TURNED ?a_DIGITS ?a_LETTERS ?a_MINUS_ONE ?l_MINUS_ONE ?a_ONE ?l_ONE ?a_ZERO ?l_ZERO ?a__DIGIT_CHARS ?a__LETTER_CHARS
    (case a_number => k_is)
    (case l_number => k_is)
    (case c_number => k_is)
    (case k_number => k_is)
    (case a_plus => k_is)
    (case l_plus => k_is)
    (case c_plus => k_is)
    (case k_plus => k_is)
    (case a_minus => k_is)
    (case l_minus => k_is)
    (case c_minus => k_is)
    (case k_minus => k_is)
    (case a_times => k_is)
    (case l_times => k_is)
    (case c_times => k_is)
    (case k_times => k_is)
    (case a_compare => k_is)
    (case l_compare => k_is)
    (case c_compare => k_is)
    (case k_compare => k_is)
    (case a_whole_factor => k_is)
    (case l_whole_factor => k_is)
    (case c_whole_factor => k_is)
    (case k_whole_factor => k_is)
    (case a_added_up => k_is)
    (case l_added_up => k_is)
    (case c_added_up => k_is)
    (case k_added_up => k_is)
    (case a_multiplied => k_is)
    (case l_multiplied => k_is)
    (case c_multiplied => k_is)
    (case k_multiplied => k_is)
    (case a_normal_factor => k_is)
    (case l_normal_factor => k_is)
    (case c_normal_factor => k_is)
    (case k_normal_factor => k_is)
    (case a_normal => k_is)
    (case l_normal => k_is)
    (case c_normal => k_is)
    (case k_normal => k_is)
    (case a_row => k_is)
    (case l_row => k_is)
    (case c_row => k_is)
    (case k_row => k_is)
    (case a__run_end => k_is)
    (case l__run_end => k_is)
    (case c__run_end => k_is)
    (case k__run_end => k_is)
    (case a__digits_end => k_is)
    (case l__digits_end => k_is)
    (case c__digits_end => k_is)
    (case k__digits_end => k_is)
    (case a__number_end => k_is)
    (case l__number_end => k_is)
    (case c__number_end => k_is)
    (case k__number_end => k_is)
    (case a__token_end => k_is)
    (case l__token_end => k_is)
    (case c__token_end => k_is)
    (case k__token_end => k_is)
    (case a__is_cut_off => k_is)
    (case l__is_cut_off => k_is)
    (case c__is_cut_off => k_is)
    (case k__is_cut_off => k_is)
    (case a__tokens => k_is)
    (case l__tokens => k_is)
    (case c__tokens => k_is)
    (case k__tokens => k_is)
    (case a__kind => k_is)
    (case l__kind => k_is)
    (case c__kind => k_is)
    (case k__kind => k_is)
    (case a__check => k_is)
    (case l__check => k_is)
    (case c__check => k_is)
    (case k__check => k_is)
    (case a__number_of => k_is)
    (case l__number_of => k_is)
    (case c__number_of => k_is)
    (case k__number_of => k_is)
    (case a__row_of => k_is)
    (case l__row_of => k_is)
    (case c__row_of => k_is)
    (case k__row_of => k_is)
    (case a_read_row => k_is)
    (case l_read_row => k_is)
    (case c_read_row => k_is)
    (case k_read_row => k_is)
    (case a__law_cell => k_is)
    (case l__law_cell => k_is)
    (case c__law_cell => k_is)
    (case k__law_cell => k_is)
    (case a__law_draw => k_is)
    (case l__law_draw => k_is)
    (case c__law_draw => k_is)
    (case k__law_draw => k_is)
    (case a__law_f => k_is)
    (case l__law_f => k_is)
    (case c__law_f => k_is)
    (case k__law_f => k_is)
    (case a__law_add => k_is)
    (case l__law_add => k_is)
    (case c__law_add => k_is)
    (case k__law_add => k_is)
    (case a__law_sub => k_is)
    (case l__law_sub => k_is)
    (case c__law_sub => k_is)
    (case k__law_sub => k_is)
    (case a__law_mul => k_is)
    (case l__law_mul => k_is)
    (case c__law_mul => k_is)
    (case k__law_mul => k_is)
    (case a__law_div => k_is)
    (case l__law_div => k_is)
    (case c__law_div => k_is)
    (case k__law_div => k_is)
    (case a__law_scaled => k_is)
    (case l__law_scaled => k_is)
    (case c__law_scaled => k_is)
    (case k__law_scaled => k_is)
    (case a__law_factor => k_is)
    (case l__law_factor => k_is)
    (case c__law_factor => k_is)
    (case k__law_factor => k_is)
    (case a__law_normal => k_is)
    (case l__law_normal => k_is)
    (case c__law_normal => k_is)
    (case k__law_normal => k_is)
    (case a__law_parts => k_is)
    (case l__law_parts => k_is)
    (case c__law_parts => k_is)
    (case k__law_parts => k_is)
    (case a__law_row => k_is)
    (case l__law_row => k_is)
    (case c__law_row => k_is)
    (case k__law_row => k_is)
    (case a__law_pairs => k_is)
    (case l__law_pairs => k_is)
    (case c__law_pairs => k_is)
    (case k__law_pairs => k_is)
    (case a__law_anyrow => k_is)
    (case l__law_anyrow => k_is)
    (case c__law_anyrow => k_is)
    (case k__law_anyrow => k_is)
    (case a__law_system => k_is)
    (case l__law_system => k_is)
    (case c__law_system => k_is)
    (case k__law_system => k_is)
    (case a__law_word => k_is)
    (case l__law_word => k_is)
    (case c__law_word => k_is)
    (case k__law_word => k_is)
    (case a__law_rowtext => k_is)
    (case l__law_rowtext => k_is)
    (case c__law_rowtext => k_is)
    (case k__law_rowtext => k_is)
    (case a__law_token => k_is)
    (case l__law_token => k_is)
    (case c__law_token => k_is)
    (case k__law_token => k_is)
    (case a__law_fault => k_is)
    (case l__law_fault => k_is)
    (case c__law_fault => k_is)
    (case k__law_fault => k_is)
    (case a__law_told => k_is)
    (case l__law_told => k_is)
    (case c__law_told => k_is)
    (case k__law_told => k_is)
    (case a_law => k_is)
    (case l_law => k_is)
    (case c_law => k_is)
    (case k_law => k_is)
    (case z_enumerate => k_is)
    (case z_int => k_is)
    (case z_len => k_is)
    (case z_max => k_is)
    (case z_min => k_is)
    (case z_range => k_is)
    (case z_sorted => k_is)
    (case z_str => k_is)
    (case z_tuple => k_is)
    (case z_gcd => k_is)
    (case z_lcm => k_is)
    (case a_NumberError => k_is)
    (case e_NumberError => first | k_is | k_exc)
    (case k_NumberError => k_is)
    (case b_NumberError => k_is)
    (case t_NumberError => k_is)
    (case i_NumberError => k_is)
    (case s_NumberError => first | rfl | k_is)
    (case a_TextError => k_is)
    (case v_TextError => k_is)
    (case w_TextError => first | rfl | k_is | decide +kernel)
    (case f_TextError => k_is)
    (case b_TextError => k_is)
    (case t_TextError => k_is)
    (case k_TextError => k_is)
    (case g_TextError => k_is)
    (case h_TextError => k_is)
    (case d_TextError => k_is)
    (case j_TextError => k_is)
    (case u_TextError => k_is)
    (case n0_TextError => k_is)
    (case n1_TextError => k_is)
    (case i_TextError => k_is)
    (case s_TextError => first | rfl | k_is)
    (case l_TextError => k_is)
    (case c_TextError => k_is)
    (case o_TextError => k_is)
    (case a__BEHIND => k_is)
    (case l__BEHIND => k_is)
    (case q__BEHIND => repeat first | exact trivial | refine ⟨⟨_, _, rfl, rfl⟩, ?_⟩)
    (case r__BEHIND => first | rfl | k_is)
    (case g__BEHIND_0 => k_is)
    (case l__BEHIND_0 => k_is)
    (case g__BEHIND_1 => k_is)
    (case l__BEHIND_1 => k_is)
    (case g__BEHIND_2 => k_is)
    (case l__BEHIND_2 => k_is)
    (case g__BEHIND_3 => k_is)
    (case l__BEHIND_3 => k_is)
    (case g__BEHIND_4 => k_is)
    (case l__BEHIND_4 => k_is)
    (case a__TURNED => k_is)
    (case l__TURNED => k_is)
    (case q__TURNED => repeat first | exact trivial | refine ⟨⟨_, _, rfl, rfl⟩, ?_⟩)
    (case r__TURNED => first | rfl | k_is)
    (case g0__TURNED => k_is)
    (case g1__TURNED => k_is)
    (case m0__TURNED => k_is)
    (case m1__TURNED => k_is)
    (case m2__TURNED => k_is)
    (case a_DIGITS => k_is)
    (case a_LETTERS => k_is)
    (case a_MINUS_ONE => k_is)
    (case l_MINUS_ONE => k_is)
    (case a_ONE => k_is)
    (case l_ONE => k_is)
    (case a_ZERO => k_is)
    (case l_ZERO => k_is)
    (case a__DIGIT_CHARS => k_is)
    (case a__LETTER_CHARS => k_is)

